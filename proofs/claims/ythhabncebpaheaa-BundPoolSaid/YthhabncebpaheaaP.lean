/-
 What those functions come to, told by plain functions of lists and numbers. Conditions: as each theorem says.
-/
import Derived.Test.YthhabncebpaheaaGb
import Derived.Test.YthhabncebpaheaaSyZ
import Derived.Laws.BitsAllLaws
namespace Go.Proofs.Ythhabncebpaheaa
open Go Go.Sy Go.RowKit Go.ChangeShapes Go.WideShapes Go.ChangeAt
set_option linter.unusedVariables false
set_option linter.unusedSimpArgs false
set_option maxRecDepth 100000
set_option maxHeartbeats 4000000
abbrev sz (k : Nat) : Prop := k = 1 ∨ k = 2 ∨ k = 4
def beN (n k : Nat) : List Nat := (List.range k).map fun j => n / 2 ^ (8 * (k - 1 - j)) % 256
theorem beN_len (n k : Nat) : (beN n k).length = k := by simp [beN]
theorem beN_bytes (n k : Nat) : bytesP (beN n k) := fun c hc => by
 unfold beN at hc
 obtain ⟨j, _, rfl⟩ := List.mem_map.1 hc
 omega
theorem sz_le {k : Nat} (hk : sz k) : 1 ≤ k ∧ k ≤ 4 := by rcases hk with rfl | rfl | rfl <;> decide
theorem clone_eq {xs : List Int} (hl : xs.length ≤ 4294967296) : slices_Clone xs = some xs := by
 unfold slices_Clone; exact clone_id hl
theorem shift_eq {k i : Nat} (hk : k ≤ 4) (hi : i < k) : IntKind.wrap .i64 (8 * (IntKind.wrap .i64 ((IntKind.wrap .i64 ((k : Int) - 1)) - (i : Int)))) = ((8 * (k - 1 - i) : Nat) : Int) := by
 rw [w64 (n := (k : Int) - 1) (by omega) (by omega), w64 (n := (k : Int) - 1 - i) (by omega) (by omega), w64 (by omega) (by omega)]; omega
theorem fdiv_pow (n s m : Nat) (h : s ≤ m) : Int.fdiv (n : Int) (2 ^ (min ((s : Nat) : Int).toNat m)) = ((n / 2 ^ s : Nat) : Int) := by
 rw [Int.toNat_natCast, Nat.min_eq_left h, Int.fdiv_eq_ediv_of_nonneg _ (by exact_mod_cast Nat.zero_le _)]
 push_cast; rfl
theorem lay_eq {l : List Nat} {n k : Nat} (hk : k ≤ 4) (hl : l.length ≤ 4294967200) : pack_lay (up l) (n : Int) (k : Int) = some (up (l ++ beN n k)) := by
 unfold pack_lay pack_each_s0
 refine bind_of (fun o => o = up (l ++ beN n k)) (loop_count k (fun i => ((i : Int), up (l ++ (List.range i).map fun j => n / 2 ^ (8 * (k - 1 - j)) % 256))) (fun _ => True) _ (by simp) trivial (fun i hi _ => .inl ⟨?_, trivial⟩) (fun _ => ⟨_, by simp only; rw [dF (by omega)]; rfl, rfl⟩) (by omega)) (fun o h => by rw [h])
 simp only
 rw [dT (by omega), shift_eq hk hi]
 unfold pack_lay_1_s0
 have h8 : 8 * (k - 1 - i) ≤ 32 := by omega
 rw [fdiv_pow n _ 32 h8, u8m, room_of (by simp [up_len]; omega), w64 (n := (i : Int) + 1) (by omega) (by omega)]
 have hs : sh ((8 * (k - 1 - i) : Nat) : Int) = true := by simp [sh]; omega
 rw [hs, List.range_succ, List.map_append]
 simp [up]
def putV (l : List Nat) (n k : Nat) : List Nat × Int := if sz k ∧ n < 256 ^ k then (l ++ beN n k, 0) else (l, 1)
theorem sized_eq (k : Nat) : pack_sized (k : Int) = some (decide (sz k)) := by
 unfold pack_sized
 by_cases h1 : k = 1
 ·subst h1; rfl
 ·by_cases h2 : k = 2
  ·subst h2; rfl
  ·have e1 : ¬ (k : Int) = 1 := by omega
   have e2 : ¬ (k : Int) = 2 := by omega
   rw [dF e1, dF e2]
   by_cases h4 : k = 4
   ·subst h4; rfl
   ·rw [dF (show ¬ (k : Int) = 4 by omega), dF (by omega)]; rfl
theorem pow256 (k : Nat) : 256 ^ k = 2 ^ (8 * k) := by rw [Nat.pow_mul]
theorem put_eq {l : List Nat} {n k : Nat} (hn : n < 4294967296) (hl : l.length ≤ 4294967200) : pack_Put (up l) (n : Int) (k : Int) = some (up (putV l n k).1, (putV l n k).2) := by
 unfold pack_Put putV
 rw [clone_eq (by rw [up_len]; omega), sized_eq]
 simp only [Option.bind_some]
 by_cases hk : sz k
 ·have hk4 := sz_le hk
  rw [dT hk, w64 (by omega) (by omega), wu64 (by omega) (by omega)]
  have e8 : (8 : Int) * (k : Int) = ((8 * k : Nat) : Int) := by omega
  rw [e8, fdiv_pow n (8 * k) 64 (by omega)]
  have hs : sh ((8 * k : Nat) : Int) = true := by simp [sh]; omega
  rw [hs]
  simp only [Bool.not_true, cond_false, cond_true]
  by_cases hf : n < 256 ^ k
  ·have : n / 2 ^ (8 * k) = 0 := Nat.div_eq_of_lt (by rw [← pow256]; exact hf)
   rw [this, if_pos ⟨hk, hf⟩, dF (by simp)]
   simp only [Option.bind_some, cond_false, joinX]
   rw [lay_eq (by omega) hl]; rfl
  ·have : n / 2 ^ (8 * k) ≠ 0 := by
    intro h0
    have h1 := (Nat.div_eq_zero_iff).1 h0
    rw [← pow256] at h1
    rcases h1 with h1 | h1
    ·exact absurd h1 (by have := Nat.pow_pos (n := k) (show 0 < 256 by decide); omega)
    ·exact hf h1
   rw [if_neg (fun h => hf h.2), dT (by omega)]; rfl
 ·rw [dF hk, if_neg (fun h => hk h.1)]; rfl
theorem parts {l : List Nat} {i k : Nat} (h : i + k ≤ l.length) : l = l.take i ++ (l.drop i).take k ++ l.drop (i + k) ∧ (l.take i).length = i ∧ ((l.drop i).take k).length = k := by
 refine ⟨?_, by simp; omega, by simp; omega⟩
 rw [List.append_assoc, ← List.drop_drop, List.take_append_drop, List.take_append_drop]
abbrev Tx := List UInt8
def posOf : List Tx → Tx → Option Nat
 | [], _ => none
 | x :: r, t => if x = t then some 0 else (posOf r t).map (· + 1)
theorem posOf_none {l : List Tx} {t : Tx} : posOf l t = none ↔ ¬ t ∈ l := by
 induction l with
 | nil => simp [posOf]
 | cons x r ih =>
  unfold posOf
  by_cases h : x = t
  ·simp [h]
  ·rw [if_neg h, Option.map_eq_none_iff, ih]
   simp [Ne.symm h]
theorem posOf_lt {l : List Tx} {t : Tx} {i : Nat} (h : posOf l t = some i) : i < l.length ∧ l[i]? = some t := by
 induction l generalizing i with
 | nil => cases h
 | cons x r ih =>
  unfold posOf at h
  by_cases hx : x = t
  ·rw [if_pos hx] at h; cases h; simp [hx]
  ·rw [if_neg hx] at h
   obtain ⟨j, hj, rfl⟩ := Option.map_eq_some_iff.1 h
   have := ih hj
   simp; exact this
def gst (s : List Tx × List Nat) (t : Tx) : List Tx × List Nat := match posOf s.1 t with
 | some i => (s.1, s.2 ++ [i])
 | none => (s.1 ++ [t], s.2 ++ [s.1.length])
def gat (l : List Tx) : List Tx × List Nat := l.foldl gst ([], [])
theorem gat_snoc (l : List Tx) (t : Tx) : gat (l ++ [t]) = gst (gat l) t := by simp [gat]
theorem snoc_ind {P : List Tx → Prop} (h0 : P []) (hs : ∀ l t, P l → P (l ++ [t])) : ∀ l, P l := by
 have key : ∀ (n : Nat) (l : List Tx), l.length = n → P l := by
  intro n
  induction n with
  | zero => intro l h; rw [List.eq_nil_of_length_eq_zero h]; exact h0
  | succ n ih =>
   intro l h
   rcases List.eq_nil_or_concat l with h1 | ⟨p, c, h1⟩
   ·subst h1; simp at h
   ·rw [List.concat_eq_append] at h1
    subst h1
    exact hs p c (ih p (by simp at h; omega))
 exact fun l => key _ l rfl
theorem gat_len : ∀ l, (gat l).1.length ≤ l.length ∧ (gat l).2.length = l.length := by
 refine snoc_ind (by simp [gat]) (fun l t ih => ?_)
 rw [gat_snoc]
 unfold gst
 split <;> simp <;> omega
theorem gat_mem : ∀ l t, t ∈ (gat l).1 ↔ t ∈ l := by
 refine snoc_ind (by simp [gat]) (fun l t ih u => ?_)
 rw [gat_snoc]
 unfold gst
 split
 ·rename_i i hi
  have hm : t ∈ (gat l).1 := by
   apply Decidable.byContradiction
   intro hn
   rw [posOf_none.2 hn] at hi; cases hi
  simp only [ih u, List.mem_append, List.mem_singleton]
  constructor
  ·exact fun h => .inl h
  ·rintro (h | rfl)
   ·exact h
   ·exact (ih u).1 hm
 ·simp [ih u]
theorem gat_nodup : ∀ l, (gat l).1.Nodup := by
 refine snoc_ind (by simp [gat]) (fun l t ih => ?_)
 rw [gat_snoc]
 unfold gst
 split
 ·exact ih
 ·rename_i hn
  rw [posOf_none] at hn
  simp only [List.nodup_append, ih, true_and]
  refine ⟨by simp, fun a ha b hb => ?_⟩
  simp at hb
  subst hb
  intro e; subst e; exact hn ha
theorem gat_full : ∀ l, (gat l).1.length = l.length ↔ l.Nodup := by
 refine snoc_ind (by simp [gat]) (fun l t ih => ?_)
 rw [gat_snoc]
 have hle := (gat_len l).1
 have hnd : (l ++ [t]).Nodup ↔ l.Nodup ∧ ¬ t ∈ l := by
  simp only [List.nodup_append]
  constructor
  ·rintro ⟨a, _, c⟩
   exact ⟨a, fun h => c t h t (by simp) rfl⟩
  ·rintro ⟨a, b⟩
   refine ⟨a, by simp, fun x hx y hy => ?_⟩
   simp at hy
   subst hy
   intro e; subst e; exact b hx
 rw [hnd]
 unfold gst
 split
 ·rename_i i hi
  have hm : t ∈ l := by
   rw [← gat_mem]
   apply Decidable.byContradiction
   intro hn
   rw [posOf_none.2 hn] at hi; cases hi
  simp [hm]; omega
 ·rename_i hn
  rw [posOf_none, gat_mem] at hn
  simp [hn, ih]
theorem gat_back : ∀ l i, i < l.length → ∃ j, (gat l).2[i]? = some j ∧ (gat l).1[j]? = l[i]? := by
 refine snoc_ind (by simp) (fun l t ih i hi => ?_)
 rw [gat_snoc]
 have hl2 := (gat_len l).2
 unfold gst
 by_cases hil : i < l.length
 ·obtain ⟨j, h1, h2⟩ := ih i hil
  have hj : j < (gat l).1.length := by
   rw [List.getElem?_eq_getElem hil] at h2
   exact (List.getElem?_eq_some_iff.1 h2).1
  split
  ·exact ⟨j, by simp only; rw [List.getElem?_append_left (by omega)]; exact h1, by rw [List.getElem?_append_left hil]; exact h2⟩
  ·exact ⟨j, by simp only; rw [List.getElem?_append_left (by omega)]; exact h1, by simp only; rw [List.getElem?_append_left hj, List.getElem?_append_left hil]; exact h2⟩
 ·have hie : i = l.length := by simp at hi; omega
  subst hie
  split
  ·rename_i j hj
   exact ⟨j, by simp only; rw [List.getElem?_append_right (by omega), hl2]; simp, by simp only; rw [(posOf_lt hj).2]; simp⟩
  ·exact ⟨(gat l).1.length, by simp only; rw [List.getElem?_append_right (by omega), hl2]; simp, by simp⟩
def mkF : Nat → List Tx → List (St107 × Int)
 | _, [] => []
 | k, t :: r => (⟨t⟩, (k : Int)) :: mkF (k + 1) r
theorem mkF_snoc (l : List Tx) (t : Tx) : ∀ k, mkF k (l ++ [t]) = mkF k l ++ [(⟨t⟩, ((k + l.length : Nat) : Int))] := by
 induction l with
 | nil => intro k; rfl
 | cons x r ih => intro k; simp [mkF, ih]; omega
theorem mget_mkF (l : List Tx) (t : Tx) : ∀ k, mget (fun a b : St107 => ((a.text_ == b.text_) && true)) (mkF k l) ⟨t⟩ = (posOf l t).map fun i => ((k + i : Nat) : Int) := by
 induction l with
 | nil => intro k; rfl
 | cons x r ih =>
  intro k
  unfold mkF mget posOf
  by_cases h : x = t
  ·subst h; simp
  ·have h' : ¬ t = x := fun e => h e.symm
   rw [ih (k + 1), if_neg h]
   have hb : ((t == x) && true) = false := by rw [beq_eq_false_iff_ne.2 h']; rfl
   simp only [hb, cond_false]
   cases posOf r t with
   | none => rfl
   | some j => simp only [Option.map_some, Option.some.injEq]; omega
theorem gather_eq {l : List Tx} (hl : l.length ≤ 4294967290) : pack_Gather l = some ((gat l).1, up (gat l).2) := by
 unfold pack_Gather
 refine bind_of (fun o => o = ((gat l).1, up (gat l).2)) ⟨_, loop_fold l (fun pre => ((pre.length : Int), (gat pre).1, up (gat pre).2, mkF 0 (gat pre).1)) _ rfl (fun pre x suf h => ?_) (by simp only; rw [lt_end]; rfl) (by omega), rfl⟩ (fun o h => by rw [h])
 have hl' : (pre ++ x :: suf).length ≤ 4611686018427387904 := by rw [← h]; omega
 have hpl : pre.length < l.length := by rw [h]; simp
 have hg := gat_len pre
 simp only
 rw [h, lt_mid, inR_mid, nth_mid, w_mid hl', mget_mkF, gat_snoc]
 unfold gst
 cases hp : posOf (gat pre).1 x with
 | some i =>
  simp only [Option.map_some, Option.isSome_some, Bool.not_true, cond_false, cond_true, Option.bind_some, Option.getD_some, Nat.zero_add]
  rw [room_of (by rw [up_len]; simp; omega), up_append]; rfl
 | none =>
  simp only [Option.map_none, Option.isSome_none, Option.isNone_none, Bool.not_false, cond_true, Option.bind_some]
  rw [room_of (by simp; omega), mkF_snoc, Nat.zero_add]
  simp only [cond_true, Option.bind_some]
  rw [room_of (by rw [up_len]; simp; omega), up_append]; rfl
abbrev poolP (l : List Tx) : Prop := l.length ≤ 500 ∧ (∀ t ∈ l, t.length ≤ 400) ∧ l.Nodup
theorem pool_eq {l : List Tx} (hl : l.length ≤ 4294967290) : pack_isPool l = some (decide (poolP l)) := by
 unfold pack_isPool
 by_cases h : l.length ≤ 500
 ·rw [dF (show ¬ (l.length : Int) > 500 by omega), all_loop (fun t : Tx => decide ((t.length : Int) > 400)) l (by omega)]
  simp only [cond_false]
  by_cases ha : ∀ t ∈ l, t.length ≤ 400
  ·have e : l.all (fun c => !decide ((c.length : Int) > 400)) = true := by
    rw [List.all_eq_true]
    intro t ht
    have := ha t ht
    simp; omega
   rw [if_pos e]
   simp only [Option.bind_some, joinX]
   rw [gather_eq (by omega)]
   simp only [Option.bind_some]
   congr 1
   have := gat_full l
   by_cases hn : l.Nodup
   ·rw [dT (by have := this.2 hn; omega), dT ⟨h, ha, hn⟩]
   ·rw [dF (fun e => hn (this.1 (by omega))), dF (fun e => hn e.2.2)]
  ·have e : ¬ l.all (fun c => !decide ((c.length : Int) > 400)) = true := by
    intro hx
    rw [List.all_eq_true] at hx
    exact ha fun t ht => by have := hx t ht; simp at this; omega
   rw [if_neg e, dF (fun q => ha q.2.1)]; rfl
 ·rw [dT (show (l.length : Int) > 500 by omega), dF (fun q => h q.1)]; rfl
def pbytes (l : List Tx) : List Nat := l.flatMap fun t => beN t.length 2 ++ t.map UInt8.toNat
theorem pbytes_snoc (l : List Tx) (t : Tx) : pbytes (l ++ [t]) = pbytes l ++ (beN t.length 2 ++ t.map UInt8.toNat) := by simp [pbytes]
theorem pbytes_len {l : List Tx} (h : ∀ t ∈ l, t.length ≤ 400) : (pbytes l).length ≤ 402 * l.length := by
 induction l with
 | nil => simp [pbytes]
 | cons t l ih =>
  have h1 := h t (by simp)
  have h2 := ih (fun x hx => h x (by simp [hx]))
  simp only [pbytes, List.flatMap_cons, List.length_append, beN_len, List.length_map, List.length_cons] at h2 ⊢
  omega
theorem pbytes_bytes (l : List Tx) : bytesP (pbytes l) := fun c hc => by
 unfold pbytes at hc
 obtain ⟨t, _, ht⟩ := List.mem_flatMap.1 hc
 rcases List.mem_append.1 ht with ht | ht
 ·exact beN_bytes _ _ c ht
 ·exact text_bytesP t c ht
def putPV (b : List Nat) (l : List Tx) : List Nat × Int := if poolP l then (b ++ (beN l.length 2 ++ pbytes l), 0) else (b, 1)
theorem lay2_eq {l : List Nat} {n : Nat} (hl : l.length ≤ 4294967200) : pack_lay (up l) (n : Int) 2 = some (up (l ++ beN n 2)) := lay_eq (k := 2) (by omega) hl
theorem putp_eq {b : List Nat} {l : List Tx} (hb : b.length ≤ 4000000000) (hl : l.length ≤ 4294967290) : pack_PutPool (up b) l = some (up (putPV b l).1, (putPV b l).2) := by
 unfold pack_PutPool putPV
 rw [clone_eq (by rw [up_len]; omega), pool_eq hl]
 simp only [Option.bind_some]
 by_cases hp : poolP l
 ·rw [dT hp, if_pos hp]
  simp only [Bool.not_true, cond_false]
  rw [wu32 (n := (l.length : Int)) (by omega) (by omega), lay2_eq (by omega)]
  simp only [Option.bind_some]
  refine bind_of (fun o => o = up (b ++ (beN l.length 2 ++ pbytes l))) ⟨_, loop_fold l (fun pre => ((pre.length : Int), up (b ++ (beN l.length 2 ++ pbytes pre)))) _ (by simp [pbytes]) (fun pre x suf h => ?_) (by simp only; rw [lt_end]; rfl) (by omega), rfl⟩ (fun o h => by rw [h])
  have hl' : (pre ++ x :: suf).length ≤ 4611686018427387904 := by rw [← h]; omega
  have hx := hp.2.1 x (by rw [h]; simp)
  have hpre : ∀ t ∈ pre, t.length ≤ 400 := fun t ht => hp.2.1 t (by rw [h]; simp [ht])
  have hpb := pbytes_len hpre
  have hpl : pre.length < l.length := by rw [h]; simp
  have hbl : (b ++ (beN l.length 2 ++ pbytes pre)).length = b.length + (2 + (pbytes pre).length) := by simp [beN_len]
  have hlen : l.length ≤ 500 := hp.1
  generalize hL : beN l.length 2 = L at hbl
  simp only
  rw [h, lt_mid, inR_mid, nth_mid, w_mid hl', wu32 (n := (x.length : Int)) (by omega) (by omega), lay2_eq (by omega)]
  simp only [Option.bind_some, cond_true]
  rw [room_of (by rw [up_len, List.length_append, hbl, beN_len]; omega), bytes_of_text, ← up_append, pbytes_snoc]
  simp
 ·rw [dF hp, if_neg hp]; rfl
theorem text_back (t : Tx) : (t.map UInt8.toNat).map UInt8.ofNat = t := by
 rw [List.map_map]
 have : ∀ x ∈ t, (UInt8.ofNat ∘ UInt8.toNat) x = x := fun x _ => by simp
 rw [List.map_congr_left this]; simp
/-! Numbers of 32 bits, shifted and summed. -/
def half (n : Nat) : Nat := if n % 2 = 1 then (n / 2) ^^^ 3988292384 else n / 2
def half8 (n : Nat) : Nat := half (half (half (half (half (half (half (half n)))))))
def onN (s : Nat) (l : List Nat) : Nat := l.foldl (fun s c => half8 (s ^^^ c)) s
theorem x32 {a b : Nat} (ha : a < 4294967296) (hb : b < 4294967296) : a ^^^ b < 4294967296 := Nat.xor_lt_two_pow (n := 32) ha hb
theorem half_lt {n : Nat} (h : n < 4294967296) : half n < 4294967296 := by
 unfold half
 split
 ·exact x32 (by omega) (by omega)
 ·omega
theorem half8_lt {n : Nat} (h : n < 4294967296) : half8 n < 4294967296 := by
 unfold half8
 exact half_lt (half_lt (half_lt (half_lt (half_lt (half_lt (half_lt (half_lt h)))))))
theorem onN_cons (s c : Nat) (l : List Nat) : onN s (c :: l) = onN (half8 (s ^^^ c)) l := rfl
theorem onN_append (s : Nat) (l m : List Nat) : onN s (l ++ m) = onN (onN s l) m := by unfold onN; rw [List.foldl_append]
theorem onN_lt {l : List Nat} : ∀ {s : Nat}, s < 4294967296 → bytesP l → onN s l < 4294967296 := by
 induction l with
 | nil => intro s hs _; exact hs
 | cons c l ih =>
  intro s hs hl
  rw [onN_cons]
  have := hl c (List.mem_cons_self ..)
  exact ih (half8_lt (x32 hs (by omega))) (fun x hx => hl x (List.mem_cons_of_mem _ hx))
theorem x8 {a b : Nat} (ha : a < 256) (hb : b < 256) : a ^^^ b < 256 := Nat.xor_lt_two_pow (n := 8) ha hb
def crcN (l : List Nat) : Nat := 4294967295 ^^^ onN 4294967295 l
def itC : Nat → Nat → Nat
 | 0, n => n
 | i + 1, n => half (itC i n)
theorem it_lt {n : Nat} (h : n < 4294967296) : ∀ i, itC i n < 4294967296
 | 0 => h
 | i + 1 => half_lt (it_lt h i)
theorem step_eq {s c : Nat} (hs : s < 4294967296) (hc : c < 256) : crc_Step s c = some ((half8 (s ^^^ c) : Nat) : Int) := by
 unfold crc_Step
 have hx : s ^^^ c < 4294967296 := x32 hs (by omega)
 rw [wu32 (by omega) (by omega), u32_xor_nat s c hs (by omega)]
 refine bind_of (fun o => o = ((half8 (s ^^^ c) : Nat) : Int)) (loop_count 8 (fun i => (((itC i (s ^^^ c) : Nat) : Int), (i : Int))) (fun _ => True) _ rfl trivial (fun i hi _ => .inl ⟨?_, trivial⟩) (fun _ => ⟨_, rfl, rfl⟩) (by omega)) ?_
 ·have hit := it_lt hx i
  simp only
  generalize hn : itC i (s ^^^ c) = n at hit
  have e1 : bits .and .u32 (n : Int) 1 = ((n % 2 : Nat) : Int) := by
   have := u32_and_nat n 1 hit (by omega)
   rw [Nat.and_one_is_mod] at this
   exact this
  have e2 : Int.fdiv (n : Int) 2 = ((n / 2 : Nat) : Int) := by rw [Int.fdiv_eq_ediv_of_nonneg _ (by omega)]; omega
  have e3 : bits .xor .u32 ((n / 2 : Nat) : Int) 3988292384 = ((n / 2 ^^^ 3988292384 : Nat) : Int) := u32_xor_nat (n / 2) 3988292384 (by omega) (by omega)
  have e4 : itC (i + 1) (s ^^^ c) = half n := by show half (itC i (s ^^^ c)) = half n; rw [hn]
  rw [e1, e2, e3, e4, dT (show (i : Int) < 8 by omega), w64 (by omega) (by omega)]
  unfold half
  by_cases h : n % 2 = 1
  ·rw [if_pos h, dT (by omega)]; rfl
  ·rw [if_neg h, dF (by omega)]; rfl
 ·rintro o rfl; rfl
theorem through_eq {l : List Nat} {s : Nat} (hl : bytesP l) (hs : s < 4294967296) (hb : l.length ≤ 4294967296) : crc_through_s0 (up l) s = some ((onN s l : Nat) : Int) := by
 unfold crc_through_s0
 rw [loop_fold l (fun pre => (((up pre).length : Int), ((onN s pre : Nat) : Int))) ((onN s l : Nat) : Int)]
 ·rfl
 ·intro pre x suf h
  have hx := hl x (by rw [h]; simp)
  have hp : bytesP pre := fun y hy => hl y (by rw [h]; simp [hy])
  have hu : up l = up pre ++ (x : Int) :: up suf := by rw [h, up_append, up_cons]
  have hl' : (up pre ++ (x : Int) :: up suf).length ≤ 4611686018427387904 := by rw [← hu, up_len]; omega
  have e1 : up (pre ++ [x]) = up pre ++ [(x : Int)] := by rw [up_append]; rfl
  simp only
  rw [hu, lt_mid, inR_mid, nth_mid, w_mid hl', e1, onN_append]
  unfold crc_On_1_s0
  rw [step_eq (onN_lt hs hp) hx]
  rfl
 ·simp only; rw [lt_end]; rfl
 ·omega
theorem on_eq {l : List Nat} {s : Nat} (hl : bytesP l) (hs : s < 4294967296) (hb : l.length ≤ 4294967296) : crc_On s (up l) = some ((4294967295 ^^^ onN (4294967295 ^^^ s) l : Nat) : Int) := by
 unfold crc_On
 have e0 : bits .xor .u32 4294967295 (s : Int) = ((4294967295 ^^^ s : Nat) : Int) := u32_xor_nat 4294967295 s (by decide) hs
 have h1 : 4294967295 ^^^ s < 4294967296 := x32 (by decide) hs
 rw [e0, through_eq hl h1 hb]
 simp only [Option.bind_some]
 have e1 : bits .xor .u32 4294967295 ((onN (4294967295 ^^^ s) l : Nat) : Int) = ((4294967295 ^^^ onN (4294967295 ^^^ s) l : Nat) : Int) := u32_xor_nat 4294967295 _ (by decide) (onN_lt h1 hl)
 rw [e1]
theorem of_eq {l : List Nat} (hl : bytesP l) (hb : l.length ≤ 4294967296) : crc_Of (up l) = some ((crcN l : Nat) : Int) := by
 unfold crc_Of
 have := on_eq (s := 0) hl (by decide) hb
 rw [show ((0 : Nat) : Int) = 0 from rfl] at this
 rw [this]; rfl
def tailN (y : Nat) : List Nat := [y % 256, y / 256 % 256, y / 65536 % 256, y / 16777216 % 256]
theorem tail_eq {l : List Nat} (hl : bytesP l) (hb : l.length ≤ 4294967296) : crc_tail (up l) = some ⟨((crcN l % 256 : Nat) : Int), ((crcN l / 256 % 256 : Nat) : Int), ((crcN l / 65536 % 256 : Nat) : Int), ((crcN l / 16777216 % 256 : Nat) : Int)⟩ := by
 unfold crc_tail
 rw [of_eq hl hb]
 simp only [Option.bind_some]
 generalize crcN l = y
 have f : ∀ k : Nat, Int.fdiv (y : Int) (k : Int) = ((y / k : Nat) : Int) := fun k => by rw [Int.fdiv_eq_ediv_of_nonneg _ (by omega)]; rfl
 have f1 : Int.fdiv (y : Int) 256 = ((y / 256 : Nat) : Int) := f 256
 have f2 : Int.fdiv (y : Int) 65536 = ((y / 65536 : Nat) : Int) := f 65536
 have f3 : Int.fdiv (y : Int) 16777216 = ((y / 16777216 : Nat) : Int) := f 16777216
 rw [f1, f2, f3, u8m, u8m, u8m, u8m]
 rfl
theorem cput_eq {l : List Nat} (hl : bytesP l) (hb : l.length ≤ 4294967290) : crc_Put (up l) = some (up (l ++ tailN (crcN l))) := by
 unfold crc_Put
 rw [tail_eq hl (by omega)]
 simp only [Option.bind_some]
 rw [clone_eq (by rw [up_len]; omega)]
 simp only [Option.bind_some]
 rw [room_of (by rw [up_len]; simp; omega), up_append]
 rfl
/-! What is put: numbers of sizes, one behind the other. -/
theorem u32m (n : Int) : IntKind.u32.wrap n = n % 4294967296 := by
 unfold IntKind.wrap
 simp only [IntKind.signed, IntKind.bits, Bool.false_and, Bool.false_eq_true, if_false]
 rfl
def putS (n : Int) (k : Nat) : Bool × List Nat :=
 if (n % 4294967296).toNat < 256 ^ k then (decide (¬ n = ((n % 4294967296).toNat : Int)), beN (n % 4294967296).toNat k) else (true, [])
def iB (I : List (Int × Nat)) : Bool := I.any fun x => (putS x.1 x.2).1
def iE (I : List (Int × Nat)) : List Nat := I.flatMap fun x => (putS x.1 x.2).2
theorem iB_app (I J : List (Int × Nat)) : iB (I ++ J) = (iB I || iB J) := by simp [iB]
theorem iE_app (I J : List (Int × Nat)) : iE (I ++ J) = iE I ++ iE J := by simp [iE]
theorem iB_cons (x : Int × Nat) (J : List (Int × Nat)) : iB (x :: J) = ((putS x.1 x.2).1 || iB J) := by simp [iB]
theorem iE_cons (x : Int × Nat) (J : List (Int × Nat)) : iE (x :: J) = (putS x.1 x.2).2 ++ iE J := by simp [iE]
theorem putS_len (n : Int) (k : Nat) : (putS n k).2.length ≤ k := by
 unfold putS
 split
 ·simp [beN_len]
 ·simp
theorem putS_bytes (n : Int) (k : Nat) : bytesP (putS n k).2 := by
 unfold putS
 split
 ·exact beN_bytes _ _
 ·intro c hc; cases hc
theorem iE_len : ∀ {I : List (Int × Nat)}, (∀ x ∈ I, x.2 ≤ 4) → (iE I).length ≤ 4 * I.length
 | [], _ => by simp [iE]
 | x :: I, h => by
  have h1 := iE_len (I := I) fun y hy => h y (List.mem_cons_of_mem _ hy)
  have h2 := putS_len x.1 x.2
  have h3 := h x (List.mem_cons_self ..)
  rw [iE_cons, List.length_append, List.length_cons]
  omega
theorem iE_bytes (I : List (Int × Nat)) : bytesP (iE I) := fun c hc => by
 unfold iE at hc
 obtain ⟨x, _, hx⟩ := List.mem_flatMap.1 hc
 exact putS_bytes _ _ c hx
theorem putS_fit {n : Int} {k : Nat} (h0 : 0 ≤ n) (h1 : n < 4294967296) (h : n.toNat < 256 ^ k) : putS n k = (false, beN n.toNat k) := by
 unfold putS
 have e : n % 4294967296 = n := by omega
 rw [e, if_pos h, dF (by omega)]
theorem putS_bad {n : Int} {k : Nat} (h : ¬ (0 ≤ n ∧ n < 4294967296 ∧ n.toNat < 256 ^ k)) : (putS n k).1 = true := by
 unfold putS
 split
 ·rename_i h1
  show decide _ = true
  refine dT fun e => h ⟨by omega, by omega, ?_⟩
  have : (n % 4294967296).toNat = n.toNat := by omega
  omega
 ·rfl
section
variable {x0 : Tx} {x1 x2 x3 x4 x5 x6 x7 : Int} {x8 x9 x10 x11 : Tx} {x12 : List St57} {x13 : List St59} {x14 : List St61} {x15 : List Tx} {bad : Bool} {out : List Nat}
theorem put16 {n : Int} {k : Nat} (hk : sz k) (hn : -9223372036854775808 ≤ n ∧ n < 9223372036854775808) {x16 : List Int} (hl : out.length ≤ 4000000000) :
  bund_writer__put_s0 n (k : Int) x0 x1 x2 x3 x4 x5 x6 x7 x8 x9 x10 x11 x12 x13 x14 x15 x16 bad (up out) = some (bad || (putS n k).1, up (out ++ (putS n k).2)) := by
 unfold bund_writer__put_s0 putS
 have h0 : (0 : Int) ≤ n % 4294967296 := by omega
 have h1 : n % 4294967296 < 4294967296 := by omega
 rw [u32m]
 generalize hm : (n % 4294967296).toNat = m
 have hm2 : n % 4294967296 = (m : Int) := by omega
 rw [hm2, show ([] : List Int) = up [] from rfl, put_eq (l := []) (by omega) (by simp)]
 unfold putV
 have hkl := sz_le hk
 by_cases h : m < 256 ^ k
 ·rw [if_pos ⟨hk, h⟩, if_pos h]
  simp only [Option.bind_some, not_true_eq_false, decide_false, cond_false, List.nil_append]
  rw [w64 (by omega) (by omega)]
  have hr : room ((up out).length + (up (beN m k)).length) = true := room_of (by rw [up_len, up_len, beN_len]; omega)
  by_cases he : n = (m : Int)
  ·rw [dF (fun g => g he)]
   simp only [cond_false, Option.bind_some]
   rw [hr, up_append]; simp
  ·rw [dT he]
   simp only [cond_true, Option.bind_some]
   rw [hr, up_append]; simp
 ·rw [if_neg (fun q => h q.2), if_neg h]
  simp only [Option.bind_some]
  rw [dT (by omega)]
  simp only [cond_true, Option.bind_some]
  have hr : room ((up out).length + (up []).length) = true := room_of (by rw [up_len, up_len]; simp; omega)
  rw [hr]; simp [up]
theorem put1 {n : Int} (hn : -9223372036854775808 ≤ n ∧ n < 9223372036854775808) {x16 : List Int} (hl : out.length ≤ 4000000000) :
  bund_writer__put_s0 n 1 x0 x1 x2 x3 x4 x5 x6 x7 x8 x9 x10 x11 x12 x13 x14 x15 x16 bad (up out) = some (bad || (putS n 1).1, up (out ++ (putS n 1).2)) := put16 (k := 1) (.inl rfl) hn hl
theorem put2 {n : Int} (hn : -9223372036854775808 ≤ n ∧ n < 9223372036854775808) {x16 : List Int} (hl : out.length ≤ 4000000000) :
  bund_writer__put_s0 n 2 x0 x1 x2 x3 x4 x5 x6 x7 x8 x9 x10 x11 x12 x13 x14 x15 x16 bad (up out) = some (bad || (putS n 2).1, up (out ++ (putS n 2).2)) := put16 (k := 2) (.inr (.inl rfl)) hn hl
theorem put4 {n : Int} (hn : -9223372036854775808 ≤ n ∧ n < 9223372036854775808) {x16 : List Int} (hl : out.length ≤ 4000000000) :
  bund_writer__put_s0 n 4 x0 x1 x2 x3 x4 x5 x6 x7 x8 x9 x10 x11 x12 x13 x14 x15 x16 bad (up out) = some (bad || (putS n 4).1, up (out ++ (putS n 4).2)) := put16 (k := 4) (.inr (.inr rfl)) hn hl
theorem cut1 {r : Nat} {R : List Nat} : cut (up (r :: R)) 1 ((up (r :: R)).length : Int) = up R := by
 unfold cut
 rw [Int.toNat_natCast, List.take_length]; rfl
theorem text2 {r : Nat} (hr : r < 4294967296) {R : List Nat} (hl : out.length ≤ 4000000000) :
  bund_writer__text_s0 x0 x1 x2 x3 x4 x5 x6 x7 x8 x9 x10 x11 x12 x13 x14 x15 (up (r :: R)) bad (up out) = some (bad || (putS r 2).1, up (out ++ (putS r 2).2)) := by
 unfold bund_writer__text_s0
 have h1 : inR 0 (up (r :: R)).length = true := inR_int (by omega) (by rw [up_len]; simp)
 have h2 : nth (up (r :: R)) 0 = (r : Int) := rfl
 rw [h1, h2, put2 (by omega) hl]
 simp only [cond_true, Option.bind_some]
 rw [inS_of (by omega) (by rw [up_len]; simp; omega) (by omega)]; rfl
def I2 (q : Tx → Nat) (t : Tx) (s : List Int) : List (Int × Nat) := ((q t : Int), 2) :: s.map fun n => (n, 4)
def I3 (q : Tx → Nat) (ps : List Tx) : List (Int × Nat) := ps.map fun t => ((q t : Int), 2)
def I4 (q : Tx → Nat) (n : Int) (rs : List St57) : List (Int × Nat) := (n, 2) :: rs.flatMap fun r => [(r.Cat_, 1), ((q r.Text_ : Int), 2)]
def I5 (q : Tx → Nat) (n : Int) (cs : List St59) : List (Int × Nat) := (n, 2) :: cs.flatMap fun c => [((q c.Code_ : Int), 2), ((q c.Sign_ : Int), 2), (c.Digits_, 1)]
def I6 (q : Tx → Nat) (n : Int) (cs : List St61) : List (Int × Nat) := (n, 2) :: cs.flatMap fun c => [(c.Mag_, 1), (c.Cat_, 1), ((q c.Pat_ : Int), 2)]
theorem I4_snoc (q : Tx → Nat) (n : Int) (rs : List St57) (r : St57) : I4 q n (rs ++ [r]) = I4 q n rs ++ [(r.Cat_, 1), ((q r.Text_ : Int), 2)] := by simp [I4]
theorem I5_snoc (q : Tx → Nat) (n : Int) (rs : List St59) (c : St59) : I5 q n (rs ++ [c]) = I5 q n rs ++ [((q c.Code_ : Int), 2), ((q c.Sign_ : Int), 2), (c.Digits_, 1)] := by simp [I5]
theorem I6_snoc (q : Tx → Nat) (n : Int) (rs : List St61) (c : St61) : I6 q n (rs ++ [c]) = I6 q n rs ++ [(c.Mag_, 1), (c.Cat_, 1), ((q c.Pat_ : Int), 2)] := by simp [I6]
theorem I4_len (q : Tx → Nat) (n : Int) (rs : List St57) : (iE (I4 q n rs)).length ≤ 4 * (1 + 2 * rs.length) := by
 refine Nat.le_trans (iE_len fun x hx => ?_) ?_
 ·unfold I4 at hx
  simp only [List.mem_cons, List.mem_flatMap, List.not_mem_nil, or_false] at hx
  rcases hx with rfl | ⟨r, _, rfl | rfl⟩ <;> simp
 ·unfold I4
  rw [List.length_cons, show (rs.flatMap fun r => [(r.Cat_, 1), ((q r.Text_ : Int), 2)]).length = 2 * rs.length from by induction rs with
   | nil => rfl
   | cons r rs ih => simp only [List.flatMap_cons, List.length_append, ih, List.length_cons, List.length_nil]; omega]
  omega
theorem I5_len (q : Tx → Nat) (n : Int) (rs : List St59) : (iE (I5 q n rs)).length ≤ 4 * (1 + 3 * rs.length) := by
 refine Nat.le_trans (iE_len fun x hx => ?_) ?_
 ·unfold I5 at hx
  simp only [List.mem_cons, List.mem_flatMap, List.not_mem_nil, or_false] at hx
  rcases hx with rfl | ⟨r, _, rfl | rfl | rfl⟩ <;> simp
 ·unfold I5
  rw [List.length_cons, show (rs.flatMap fun c => [((q c.Code_ : Int), 2), ((q c.Sign_ : Int), 2), (c.Digits_, 1)]).length = 3 * rs.length from by induction rs with
   | nil => rfl
   | cons r rs ih => simp only [List.flatMap_cons, List.length_append, ih, List.length_cons, List.length_nil]; omega]
  omega
theorem I6_len (q : Tx → Nat) (n : Int) (rs : List St61) : (iE (I6 q n rs)).length ≤ 4 * (1 + 3 * rs.length) := by
 refine Nat.le_trans (iE_len fun x hx => ?_) ?_
 ·unfold I6 at hx
  simp only [List.mem_cons, List.mem_flatMap, List.not_mem_nil, or_false] at hx
  rcases hx with rfl | ⟨r, _, rfl | rfl | rfl⟩ <;> simp
 ·unfold I6
  rw [List.length_cons, show (rs.flatMap fun c => [(c.Mag_, 1), (c.Cat_, 1), ((q c.Pat_ : Int), 2)]).length = 3 * rs.length from by induction rs with
   | nil => rfl
   | cons r rs ih => simp only [List.flatMap_cons, List.length_append, ih, List.length_cons, List.length_nil]; omega]
  omega
theorem names_eq {q : Tx → Nat} (hq : ∀ t, q t < 4294967296) {R : List Nat} (hs : ∀ n ∈ [x1, x2, x3, x4, x5, x6, x7], -2147483648 ≤ n ∧ n < 2147483648) (hl : out.length ≤ 3000000000) :
  bund_writer__names_s0 x0 x1 x2 x3 x4 x5 x6 x7 x8 x9 x10 x11 x12 x13 x14 x15 (up (q x0 :: R)) bad (up out) = some (bad || iB (I2 q x0 [x1, x2, x3, x4, x5, x6, x7]), up (out ++ iE (I2 q x0 [x1, x2, x3, x4, x5, x6, x7]))) := by
 have b1 := hs x1 (by simp)
 have b2 := hs x2 (by simp)
 have b3 := hs x3 (by simp)
 have b4 := hs x4 (by simp)
 have b5 := hs x5 (by simp)
 have b6 := hs x6 (by simp)
 have b7 := hs x7 (by simp)
 unfold bund_writer__names_s0
 rw [text2 (hq x0) (by omega), cut1]
 simp only [Option.bind_some]
 rw [w64 (n := x1) (by omega) (by omega), w64 (n := x2) (by omega) (by omega), w64 (n := x3) (by omega) (by omega), w64 (n := x4) (by omega) (by omega), w64 (n := x5) (by omega) (by omega), w64 (n := x6) (by omega) (by omega), w64 (n := x7) (by omega) (by omega)]
 have g0 := putS_len (q x0 : Int) 2
 have g1 := putS_len x1 4
 have g2 := putS_len x2 4
 have g3 := putS_len x3 4
 have g4 := putS_len x4 4
 have g5 := putS_len x5 4
 have g6 := putS_len x6 4
 have g7 := putS_len x7 4
 refine (loopN_next (n := 18446744073709551615) (s' := ((1 : Int), ((bad || (putS (q x0 : Int) 2).1) || (putS x1 4).1), up ((out ++ (putS (q x0 : Int) 2).2) ++ (putS x1 4).2))) ?_).trans ?_
 ·show Option.bind (bund_writer__put_s0 x1 4 x0 x1 x2 x3 x4 x5 x6 x7 x8 x9 x10 x11 x12 x13 x14 x15 (up R) (bad || (putS (q x0 : Int) 2).1) (up (out ++ (putS (q x0 : Int) 2).2))) _ = _
  rw [put4 (by omega) (by simp only [List.length_append]; omega)]; rfl
 refine (loopN_next (n := 18446744073709551614) (s' := ((2 : Int), (((bad || (putS (q x0 : Int) 2).1) || (putS x1 4).1) || (putS x2 4).1), up (((out ++ (putS (q x0 : Int) 2).2) ++ (putS x1 4).2) ++ (putS x2 4).2))) ?_).trans ?_
 ·show Option.bind (bund_writer__put_s0 x2 4 x0 x1 x2 x3 x4 x5 x6 x7 x8 x9 x10 x11 x12 x13 x14 x15 (up R) ((bad || (putS (q x0 : Int) 2).1) || (putS x1 4).1) (up ((out ++ (putS (q x0 : Int) 2).2) ++ (putS x1 4).2))) _ = _
  rw [put4 (by omega) (by simp only [List.length_append]; omega)]; rfl
 refine (loopN_next (n := 18446744073709551613) (s' := ((3 : Int), ((((bad || (putS (q x0 : Int) 2).1) || (putS x1 4).1) || (putS x2 4).1) || (putS x3 4).1), up ((((out ++ (putS (q x0 : Int) 2).2) ++ (putS x1 4).2) ++ (putS x2 4).2) ++ (putS x3 4).2))) ?_).trans ?_
 ·show Option.bind (bund_writer__put_s0 x3 4 x0 x1 x2 x3 x4 x5 x6 x7 x8 x9 x10 x11 x12 x13 x14 x15 (up R) (((bad || (putS (q x0 : Int) 2).1) || (putS x1 4).1) || (putS x2 4).1) (up (((out ++ (putS (q x0 : Int) 2).2) ++ (putS x1 4).2) ++ (putS x2 4).2))) _ = _
  rw [put4 (by omega) (by simp only [List.length_append]; omega)]; rfl
 refine (loopN_next (n := 18446744073709551612) (s' := ((4 : Int), (((((bad || (putS (q x0 : Int) 2).1) || (putS x1 4).1) || (putS x2 4).1) || (putS x3 4).1) || (putS x4 4).1), up (((((out ++ (putS (q x0 : Int) 2).2) ++ (putS x1 4).2) ++ (putS x2 4).2) ++ (putS x3 4).2) ++ (putS x4 4).2))) ?_).trans ?_
 ·show Option.bind (bund_writer__put_s0 x4 4 x0 x1 x2 x3 x4 x5 x6 x7 x8 x9 x10 x11 x12 x13 x14 x15 (up R) ((((bad || (putS (q x0 : Int) 2).1) || (putS x1 4).1) || (putS x2 4).1) || (putS x3 4).1) (up ((((out ++ (putS (q x0 : Int) 2).2) ++ (putS x1 4).2) ++ (putS x2 4).2) ++ (putS x3 4).2))) _ = _
  rw [put4 (by omega) (by simp only [List.length_append]; omega)]; rfl
 refine (loopN_next (n := 18446744073709551611) (s' := ((5 : Int), ((((((bad || (putS (q x0 : Int) 2).1) || (putS x1 4).1) || (putS x2 4).1) || (putS x3 4).1) || (putS x4 4).1) || (putS x5 4).1), up ((((((out ++ (putS (q x0 : Int) 2).2) ++ (putS x1 4).2) ++ (putS x2 4).2) ++ (putS x3 4).2) ++ (putS x4 4).2) ++ (putS x5 4).2))) ?_).trans ?_
 ·show Option.bind (bund_writer__put_s0 x5 4 x0 x1 x2 x3 x4 x5 x6 x7 x8 x9 x10 x11 x12 x13 x14 x15 (up R) (((((bad || (putS (q x0 : Int) 2).1) || (putS x1 4).1) || (putS x2 4).1) || (putS x3 4).1) || (putS x4 4).1) (up (((((out ++ (putS (q x0 : Int) 2).2) ++ (putS x1 4).2) ++ (putS x2 4).2) ++ (putS x3 4).2) ++ (putS x4 4).2))) _ = _
  rw [put4 (by omega) (by simp only [List.length_append]; omega)]; rfl
 refine (loopN_next (n := 18446744073709551610) (s' := ((6 : Int), (((((((bad || (putS (q x0 : Int) 2).1) || (putS x1 4).1) || (putS x2 4).1) || (putS x3 4).1) || (putS x4 4).1) || (putS x5 4).1) || (putS x6 4).1), up (((((((out ++ (putS (q x0 : Int) 2).2) ++ (putS x1 4).2) ++ (putS x2 4).2) ++ (putS x3 4).2) ++ (putS x4 4).2) ++ (putS x5 4).2) ++ (putS x6 4).2))) ?_).trans ?_
 ·show Option.bind (bund_writer__put_s0 x6 4 x0 x1 x2 x3 x4 x5 x6 x7 x8 x9 x10 x11 x12 x13 x14 x15 (up R) ((((((bad || (putS (q x0 : Int) 2).1) || (putS x1 4).1) || (putS x2 4).1) || (putS x3 4).1) || (putS x4 4).1) || (putS x5 4).1) (up ((((((out ++ (putS (q x0 : Int) 2).2) ++ (putS x1 4).2) ++ (putS x2 4).2) ++ (putS x3 4).2) ++ (putS x4 4).2) ++ (putS x5 4).2))) _ = _
  rw [put4 (by omega) (by simp only [List.length_append]; omega)]; rfl
 refine (loopN_next (n := 18446744073709551609) (s' := ((7 : Int), ((((((((bad || (putS (q x0 : Int) 2).1) || (putS x1 4).1) || (putS x2 4).1) || (putS x3 4).1) || (putS x4 4).1) || (putS x5 4).1) || (putS x6 4).1) || (putS x7 4).1), up ((((((((out ++ (putS (q x0 : Int) 2).2) ++ (putS x1 4).2) ++ (putS x2 4).2) ++ (putS x3 4).2) ++ (putS x4 4).2) ++ (putS x5 4).2) ++ (putS x6 4).2) ++ (putS x7 4).2))) ?_).trans ?_
 ·show Option.bind (bund_writer__put_s0 x7 4 x0 x1 x2 x3 x4 x5 x6 x7 x8 x9 x10 x11 x12 x13 x14 x15 (up R) (((((((bad || (putS (q x0 : Int) 2).1) || (putS x1 4).1) || (putS x2 4).1) || (putS x3 4).1) || (putS x4 4).1) || (putS x5 4).1) || (putS x6 4).1) (up (((((((out ++ (putS (q x0 : Int) 2).2) ++ (putS x1 4).2) ++ (putS x2 4).2) ++ (putS x3 4).2) ++ (putS x4 4).2) ++ (putS x5 4).2) ++ (putS x6 4).2))) _ = _
  rw [put4 (by omega) (by simp only [List.length_append]; omega)]; rfl
 refine (loopN_out (n := 18446744073709551608) rfl).trans ?_
 simp only [I2, List.map_cons, List.map_nil, iB_cons, iE_cons, Bool.or_assoc, List.append_assoc]
 simp [iB, iE]
theorem pats_eq {q : Tx → Nat} (hq : ∀ t, q t < 4294967296) {p0 p1 p2 p3 : Tx} {R : List Nat} (hl : out.length ≤ 3000000000) :
  bund_writer__patterns_s0 x0 x1 x2 x3 x4 x5 x6 x7 x8 x9 x10 x11 x12 x13 x14 x15 (up (q p0 :: q p1 :: q p2 :: q p3 :: R)) bad (up out) = some (up R, (bad || iB (I3 q [p0, p1, p2, p3])), up (out ++ iE (I3 q [p0, p1, p2, p3]))) := by
 unfold bund_writer__patterns_s0
 have g0 := putS_len (q p0 : Int) 2
 have g1 := putS_len (q p1 : Int) 2
 have g2 := putS_len (q p2 : Int) 2
 have g3 := putS_len (q p3 : Int) 2
 refine (loopN_next (n := 18446744073709551615) (s' := ((1 : Int), up (q p1 :: q p2 :: q p3 :: R), ((bad) || (putS (q p0 : Int) 2).1), up ((out) ++ (putS (q p0 : Int) 2).2))) ?_).trans ?_
 ·show Option.bind (bund_writer__text_s0 x0 x1 x2 x3 x4 x5 x6 x7 x8 x9 x10 x11 x12 x13 x14 x15 (up (q p0 :: q p1 :: q p2 :: q p3 :: R)) (bad) (up (out))) _ = _
  rw [text2 (hq p0) (by first | omega | (simp only [List.length_append]; omega))]
  simp only [Option.bind_some]
  rw [cut1]; rfl
 refine (loopN_next (n := 18446744073709551614) (s' := ((2 : Int), up (q p2 :: q p3 :: R), (((bad) || (putS (q p0 : Int) 2).1) || (putS (q p1 : Int) 2).1), up (((out) ++ (putS (q p0 : Int) 2).2) ++ (putS (q p1 : Int) 2).2))) ?_).trans ?_
 ·show Option.bind (bund_writer__text_s0 x0 x1 x2 x3 x4 x5 x6 x7 x8 x9 x10 x11 x12 x13 x14 x15 (up (q p1 :: q p2 :: q p3 :: R)) ((bad) || (putS (q p0 : Int) 2).1) (up ((out) ++ (putS (q p0 : Int) 2).2))) _ = _
  rw [text2 (hq p1) (by first | omega | (simp only [List.length_append]; omega))]
  simp only [Option.bind_some]
  rw [cut1]; rfl
 refine (loopN_next (n := 18446744073709551613) (s' := ((3 : Int), up (q p3 :: R), ((((bad) || (putS (q p0 : Int) 2).1) || (putS (q p1 : Int) 2).1) || (putS (q p2 : Int) 2).1), up ((((out) ++ (putS (q p0 : Int) 2).2) ++ (putS (q p1 : Int) 2).2) ++ (putS (q p2 : Int) 2).2))) ?_).trans ?_
 ·show Option.bind (bund_writer__text_s0 x0 x1 x2 x3 x4 x5 x6 x7 x8 x9 x10 x11 x12 x13 x14 x15 (up (q p2 :: q p3 :: R)) (((bad) || (putS (q p0 : Int) 2).1) || (putS (q p1 : Int) 2).1) (up (((out) ++ (putS (q p0 : Int) 2).2) ++ (putS (q p1 : Int) 2).2))) _ = _
  rw [text2 (hq p2) (by first | omega | (simp only [List.length_append]; omega))]
  simp only [Option.bind_some]
  rw [cut1]; rfl
 refine (loopN_next (n := 18446744073709551612) (s' := ((4 : Int), up (R), (((((bad) || (putS (q p0 : Int) 2).1) || (putS (q p1 : Int) 2).1) || (putS (q p2 : Int) 2).1) || (putS (q p3 : Int) 2).1), up (((((out) ++ (putS (q p0 : Int) 2).2) ++ (putS (q p1 : Int) 2).2) ++ (putS (q p2 : Int) 2).2) ++ (putS (q p3 : Int) 2).2))) ?_).trans ?_
 ·show Option.bind (bund_writer__text_s0 x0 x1 x2 x3 x4 x5 x6 x7 x8 x9 x10 x11 x12 x13 x14 x15 (up (q p3 :: R)) ((((bad) || (putS (q p0 : Int) 2).1) || (putS (q p1 : Int) 2).1) || (putS (q p2 : Int) 2).1) (up ((((out) ++ (putS (q p0 : Int) 2).2) ++ (putS (q p1 : Int) 2).2) ++ (putS (q p2 : Int) 2).2))) _ = _
  rw [text2 (hq p3) (by first | omega | (simp only [List.length_append]; omega))]
  simp only [Option.bind_some]
  rw [cut1]; rfl
 refine (loopN_out (n := 18446744073709551611) rfl).trans ?_
 simp only [I3, List.map_cons, List.map_nil, iB_cons, iE_cons, Bool.or_assoc, List.append_assoc]
 simp [iB, iE]
theorem rules_eq {q : Tx → Nat} (hq : ∀ t, q t < 4294967296) {S : List Nat} {rs : List St57} (hn : rs.length ≤ 10000000) (hs : ∀ r ∈ rs, -9223372036854775808 ≤ r.Cat_ ∧ r.Cat_ < 9223372036854775808) (hl : out.length ≤ 3000000000) :
  bund_writer__rules_s0 x0 x1 x2 x3 x4 x5 x6 x7 x8 x9 x10 x11 rs x13 x14 x15 (up (rs.map (fun r => q r.Text_) ++ S)) bad (up out) = some (up S, (bad || iB (I4 q rs.length rs)), up (out ++ iE (I4 q rs.length rs))) := by
 unfold bund_writer__rules_s0
 rw [put2 (by omega) (by omega)]
 simp only [Option.bind_some]
 refine loop_fold rs (fun pre => ((pre.length : Int), up ((rs.drop pre.length).map (fun r => q r.Text_) ++ S), (bad || iB (I4 q rs.length pre)), up (out ++ iE (I4 q rs.length pre)))) _ (by simp [I4, iB, iE]) (fun pre x suf h => ?_) (by simp only; rw [lt_end]; simp) (by omega)
 have hx := hs x (by rw [h]; simp)
 have hdrop : rs.drop pre.length = x :: suf := by rw [h]; simp
 have hdrop2 : rs.drop (pre ++ [x]).length = suf := by rw [h]; simp
 have hpl : pre.length < rs.length := by rw [h]; simp
 have hlen := I4_len q rs.length pre
 have hlen2 := putS_len x.Cat_ 1
 simp only
 rw [hdrop, hdrop2, I4_snoc]
 generalize hNN : (rs.length : Int) = N at *
 have hl' : (pre ++ x :: suf).length ≤ 4611686018427387904 := by rw [← h]; omega
 simp only [List.map_cons, List.cons_append]
 rw [dT (by omega), show inR (pre.length : Int) rs.length = true from inR_int (by omega) (by omega), show nth rs (pre.length : Int) = x from by rw [h]; exact nth_mid]
 simp only [cond_true]
 rw [put1 hx (by simp only [List.length_append]; omega)]
 simp only [Option.bind_some]
 rw [text2 (hq x.Text_) (by simp only [List.length_append]; omega), cut1]
 simp only [Option.bind_some]
 rw [w_mid hl', iB_app, iE_app]
 simp [iB, iE, Bool.or_assoc]
end
section
variable {x0 : Tx} {x1 x2 x3 x4 x5 x6 x7 : Int} {x8 x9 x10 x11 : Tx} {x12 : List St57} {x13 : List St59} {x14 : List St61} {x15 : List Tx} {bad : Bool} {out : List Nat}
theorem curs_eq {q : Tx → Nat} (hq : ∀ t, q t < 4294967296) {S : List Nat} {rs : List St59} (hn : rs.length ≤ 10000000) (hs : ∀ r ∈ rs, -9223372036854775808 ≤ r.Digits_ ∧ r.Digits_ < 9223372036854775808) (hl : out.length ≤ 3000000000) :
  bund_writer__currencies_s0 x0 x1 x2 x3 x4 x5 x6 x7 x8 x9 x10 x11 x12 rs x14 x15 (up (rs.flatMap (fun r => [q r.Code_, q r.Sign_]) ++ S)) bad (up out) = some (up S, (bad || iB (I5 q rs.length rs)), up (out ++ iE (I5 q rs.length rs))) := by
 unfold bund_writer__currencies_s0
 rw [put2 (by omega) (by omega)]
 simp only [Option.bind_some]
 refine loop_fold rs (fun pre => ((pre.length : Int), up ((rs.drop pre.length).flatMap (fun r => [q r.Code_, q r.Sign_]) ++ S), (bad || iB (I5 q rs.length pre)), up (out ++ iE (I5 q rs.length pre)))) _ (by simp [I5, iB, iE]) (fun pre x suf h => ?_) (by simp only; rw [lt_end]; simp) (by omega)
 have hx := hs x (by rw [h]; simp)
 have hdrop : rs.drop pre.length = x :: suf := by rw [h]; simp
 have hdrop2 : rs.drop (pre ++ [x]).length = suf := by rw [h]; simp
 have hpl : pre.length < rs.length := by rw [h]; simp
 have hlen := I5_len q rs.length pre
 have hlen2 := putS_len (q x.Code_ : Int) 2
 have hlen3 := putS_len (q x.Sign_ : Int) 2
 simp only
 rw [hdrop, hdrop2, I5_snoc]
 generalize hNN : (rs.length : Int) = N at *
 have hl' : (pre ++ x :: suf).length ≤ 4611686018427387904 := by rw [← h]; omega
 simp only [List.flatMap_cons, List.cons_append, List.nil_append]
 rw [dT (by omega), show inR (pre.length : Int) rs.length = true from inR_int (by omega) (by omega), show nth rs (pre.length : Int) = x from by rw [h]; exact nth_mid]
 simp only [cond_true]
 rw [text2 (hq x.Code_) (by simp only [List.length_append]; omega), cut1]
 simp only [Option.bind_some]
 rw [text2 (hq x.Sign_) (by simp only [List.length_append]; omega), cut1]
 simp only [Option.bind_some]
 rw [put1 hx (by simp only [List.length_append]; omega)]
 simp only [Option.bind_some]
 rw [w_mid hl', iB_app, iE_app]
 simp [iB, iE, Bool.or_assoc]
theorem comps_eq {q : Tx → Nat} (hq : ∀ t, q t < 4294967296) {S : List Nat} {rs : List St61} (hn : rs.length ≤ 10000000) (hs : ∀ r ∈ rs, (-9223372036854775808 ≤ r.Mag_ ∧ r.Mag_ < 9223372036854775808) ∧ (-9223372036854775808 ≤ r.Cat_ ∧ r.Cat_ < 9223372036854775808)) (hl : out.length ≤ 3000000000) :
  bund_writer__compacts_s0 x0 x1 x2 x3 x4 x5 x6 x7 x8 x9 x10 x11 x12 x13 rs x15 (up (rs.map (fun r => q r.Pat_) ++ S)) bad (up out) = some (up S, (bad || iB (I6 q rs.length rs)), up (out ++ iE (I6 q rs.length rs))) := by
 unfold bund_writer__compacts_s0
 rw [put2 (by omega) (by omega)]
 simp only [Option.bind_some]
 refine loop_fold rs (fun pre => ((pre.length : Int), up ((rs.drop pre.length).map (fun r => q r.Pat_) ++ S), (bad || iB (I6 q rs.length pre)), up (out ++ iE (I6 q rs.length pre)))) _ (by simp [I6, iB, iE]) (fun pre x suf h => ?_) (by simp only; rw [lt_end]; simp) (by omega)
 have hx := hs x (by rw [h]; simp)
 have hdrop : rs.drop pre.length = x :: suf := by rw [h]; simp
 have hdrop2 : rs.drop (pre ++ [x]).length = suf := by rw [h]; simp
 have hpl : pre.length < rs.length := by rw [h]; simp
 have hlen := I6_len q rs.length pre
 have hlen2 := putS_len x.Mag_ 1
 have hlen3 := putS_len x.Cat_ 1
 simp only
 rw [hdrop, hdrop2, I6_snoc]
 generalize hNN : (rs.length : Int) = N at *
 have hl' : (pre ++ x :: suf).length ≤ 4611686018427387904 := by rw [← h]; omega
 simp only [List.map_cons, List.cons_append]
 rw [dT (by omega), show inR (pre.length : Int) rs.length = true from inR_int (by omega) (by omega), show nth rs (pre.length : Int) = x from by rw [h]; exact nth_mid]
 simp only [cond_true]
 rw [put1 hx.1 (by simp only [List.length_append]; omega)]
 simp only [Option.bind_some]
 rw [put1 hx.2 (by simp only [List.length_append]; omega)]
 simp only [Option.bind_some]
 rw [text2 (hq x.Pat_) (by simp only [List.length_append]; omega), cut1]
 simp only [Option.bind_some]
 rw [w_mid hl', iB_app, iE_app]
 simp [iB, iE, Bool.or_assoc]
theorem words_eq {x16 : List Int} (hp : x15.length ≤ 4294967290) (hl : out.length ≤ 3000000000) :
  bund_writer__words_s1 x0 x1 x2 x3 x4 x5 x6 x7 x8 x9 x10 x11 x12 x13 x14 x15 x16 bad (up out) = some ((bad || !decide (poolP x15)), up (out ++ (putPV [] x15).1)) := by
 unfold bund_writer__words_s1
 rw [show ([] : List Int) = up [] from rfl, putp_eq (b := []) (by simp) hp]
 simp only [Option.bind_some]
 by_cases h : poolP x15
 ·have hb := pbytes_len h.2.1
  have h500 := h.1
  have e : putPV [] x15 = (beN x15.length 2 ++ pbytes x15, 0) := by unfold putPV; rw [if_pos h]; simp
  rw [e, dT h]
  simp only [not_true_eq_false, decide_false, cond_false, Option.bind_some]
  rw [room_of (by simp only [up_len, List.length_append, beN_len]; omega), up_append]; simp [up_append]
 ·have e : putPV [] x15 = ([], 1) := by unfold putPV; rw [if_neg h]
  rw [e, dF h]
  simp only [show decide (¬ (1 : Int) = 0) = true from rfl, cond_true, Option.bind_some]
  rw [room_of (by simp only [up_len, List.length_nil]; omega)]; simp [up]
def IH (T : List (Int × Int)) : List (Int × Nat) := [(1, 2), (6, 2)] ++ T.flatMap fun r => [(r.1, 4), (r.2, 4)]
theorem head_eq {a0 b0 a1 b1 a2 b2 a3 b3 a4 b4 a5 b5 : Int} (hs : ∀ n ∈ [a0, b0, a1, b1, a2, b2, a3, b3, a4, b4, a5, b5], 0 ≤ n ∧ n < 9223372036854775808) {x16 : List Int} (hl : out.length ≤ 3000000000) :
  bund_writer__head_s0 (⟨⟨a0, b0⟩, ⟨a1, b1⟩, ⟨a2, b2⟩, ⟨a3, b3⟩, ⟨a4, b4⟩, ⟨a5, b5⟩⟩ : St66) x0 x1 x2 x3 x4 x5 x6 x7 x8 x9 x10 x11 x12 x13 x14 x15 x16 bad (up out) = some (bad || iB (IH [(a0, b0), (a1, b1), (a2, b2), (a3, b3), (a4, b4), (a5, b5)]), up (out ++ iE (IH [(a0, b0), (a1, b1), (a2, b2), (a3, b3), (a4, b4), (a5, b5)]))) := by
 unfold bund_writer__head_s0
 have ha0 := hs a0 (by simp)
 have hb0 := hs b0 (by simp)
 have ga0 := putS_len a0 4
 have gb0 := putS_len b0 4
 have ha1 := hs a1 (by simp)
 have hb1 := hs b1 (by simp)
 have ga1 := putS_len a1 4
 have gb1 := putS_len b1 4
 have ha2 := hs a2 (by simp)
 have hb2 := hs b2 (by simp)
 have ga2 := putS_len a2 4
 have gb2 := putS_len b2 4
 have ha3 := hs a3 (by simp)
 have hb3 := hs b3 (by simp)
 have ga3 := putS_len a3 4
 have gb3 := putS_len b3 4
 have ha4 := hs a4 (by simp)
 have hb4 := hs b4 (by simp)
 have ga4 := putS_len a4 4
 have gb4 := putS_len b4 4
 have ha5 := hs a5 (by simp)
 have hb5 := hs b5 (by simp)
 have ga5 := putS_len a5 4
 have gb5 := putS_len b5 4
 have g0 := putS_len 1 2
 have g1 := putS_len 6 2
 rw [put2 (by omega) (by omega)]
 simp only [Option.bind_some]
 rw [put2 (by omega) (by simp only [List.length_append]; omega)]
 simp only [Option.bind_some]
 refine (loopN_next (n := 18446744073709551615) (s' := ((1 : Int), (((bad || (putS 1 2).1 || (putS 6 2).1) || (putS a0 4).1) || (putS b0 4).1), up (((out ++ (putS 1 2).2 ++ (putS 6 2).2) ++ (putS a0 4).2) ++ (putS b0 4).2))) ?_).trans ?_
 ·show Option.bind (bund_writer__put_s0 a0 4 x0 x1 x2 x3 x4 x5 x6 x7 x8 x9 x10 x11 x12 x13 x14 x15 x16 (bad || (putS 1 2).1 || (putS 6 2).1) (up (out ++ (putS 1 2).2 ++ (putS 6 2).2))) _ = _
  rw [put4 (by omega) (by simp only [List.length_append]; omega)]
  show Option.bind (bund_writer__put_s0 b0 4 x0 x1 x2 x3 x4 x5 x6 x7 x8 x9 x10 x11 x12 x13 x14 x15 x16 ((bad || (putS 1 2).1 || (putS 6 2).1) || (putS a0 4).1) (up ((out ++ (putS 1 2).2 ++ (putS 6 2).2) ++ (putS a0 4).2))) _ = _
  rw [put4 (by omega) (by simp only [List.length_append]; omega)]; rfl
 refine (loopN_next (n := 18446744073709551614) (s' := ((2 : Int), (((((bad || (putS 1 2).1 || (putS 6 2).1) || (putS a0 4).1) || (putS b0 4).1) || (putS a1 4).1) || (putS b1 4).1), up (((((out ++ (putS 1 2).2 ++ (putS 6 2).2) ++ (putS a0 4).2) ++ (putS b0 4).2) ++ (putS a1 4).2) ++ (putS b1 4).2))) ?_).trans ?_
 ·show Option.bind (bund_writer__put_s0 a1 4 x0 x1 x2 x3 x4 x5 x6 x7 x8 x9 x10 x11 x12 x13 x14 x15 x16 (((bad || (putS 1 2).1 || (putS 6 2).1) || (putS a0 4).1) || (putS b0 4).1) (up (((out ++ (putS 1 2).2 ++ (putS 6 2).2) ++ (putS a0 4).2) ++ (putS b0 4).2))) _ = _
  rw [put4 (by omega) (by simp only [List.length_append]; omega)]
  show Option.bind (bund_writer__put_s0 b1 4 x0 x1 x2 x3 x4 x5 x6 x7 x8 x9 x10 x11 x12 x13 x14 x15 x16 ((((bad || (putS 1 2).1 || (putS 6 2).1) || (putS a0 4).1) || (putS b0 4).1) || (putS a1 4).1) (up ((((out ++ (putS 1 2).2 ++ (putS 6 2).2) ++ (putS a0 4).2) ++ (putS b0 4).2) ++ (putS a1 4).2))) _ = _
  rw [put4 (by omega) (by simp only [List.length_append]; omega)]; rfl
 refine (loopN_next (n := 18446744073709551613) (s' := ((3 : Int), (((((((bad || (putS 1 2).1 || (putS 6 2).1) || (putS a0 4).1) || (putS b0 4).1) || (putS a1 4).1) || (putS b1 4).1) || (putS a2 4).1) || (putS b2 4).1), up (((((((out ++ (putS 1 2).2 ++ (putS 6 2).2) ++ (putS a0 4).2) ++ (putS b0 4).2) ++ (putS a1 4).2) ++ (putS b1 4).2) ++ (putS a2 4).2) ++ (putS b2 4).2))) ?_).trans ?_
 ·show Option.bind (bund_writer__put_s0 a2 4 x0 x1 x2 x3 x4 x5 x6 x7 x8 x9 x10 x11 x12 x13 x14 x15 x16 (((((bad || (putS 1 2).1 || (putS 6 2).1) || (putS a0 4).1) || (putS b0 4).1) || (putS a1 4).1) || (putS b1 4).1) (up (((((out ++ (putS 1 2).2 ++ (putS 6 2).2) ++ (putS a0 4).2) ++ (putS b0 4).2) ++ (putS a1 4).2) ++ (putS b1 4).2))) _ = _
  rw [put4 (by omega) (by simp only [List.length_append]; omega)]
  show Option.bind (bund_writer__put_s0 b2 4 x0 x1 x2 x3 x4 x5 x6 x7 x8 x9 x10 x11 x12 x13 x14 x15 x16 ((((((bad || (putS 1 2).1 || (putS 6 2).1) || (putS a0 4).1) || (putS b0 4).1) || (putS a1 4).1) || (putS b1 4).1) || (putS a2 4).1) (up ((((((out ++ (putS 1 2).2 ++ (putS 6 2).2) ++ (putS a0 4).2) ++ (putS b0 4).2) ++ (putS a1 4).2) ++ (putS b1 4).2) ++ (putS a2 4).2))) _ = _
  rw [put4 (by omega) (by simp only [List.length_append]; omega)]; rfl
 refine (loopN_next (n := 18446744073709551612) (s' := ((4 : Int), (((((((((bad || (putS 1 2).1 || (putS 6 2).1) || (putS a0 4).1) || (putS b0 4).1) || (putS a1 4).1) || (putS b1 4).1) || (putS a2 4).1) || (putS b2 4).1) || (putS a3 4).1) || (putS b3 4).1), up (((((((((out ++ (putS 1 2).2 ++ (putS 6 2).2) ++ (putS a0 4).2) ++ (putS b0 4).2) ++ (putS a1 4).2) ++ (putS b1 4).2) ++ (putS a2 4).2) ++ (putS b2 4).2) ++ (putS a3 4).2) ++ (putS b3 4).2))) ?_).trans ?_
 ·show Option.bind (bund_writer__put_s0 a3 4 x0 x1 x2 x3 x4 x5 x6 x7 x8 x9 x10 x11 x12 x13 x14 x15 x16 (((((((bad || (putS 1 2).1 || (putS 6 2).1) || (putS a0 4).1) || (putS b0 4).1) || (putS a1 4).1) || (putS b1 4).1) || (putS a2 4).1) || (putS b2 4).1) (up (((((((out ++ (putS 1 2).2 ++ (putS 6 2).2) ++ (putS a0 4).2) ++ (putS b0 4).2) ++ (putS a1 4).2) ++ (putS b1 4).2) ++ (putS a2 4).2) ++ (putS b2 4).2))) _ = _
  rw [put4 (by omega) (by simp only [List.length_append]; omega)]
  show Option.bind (bund_writer__put_s0 b3 4 x0 x1 x2 x3 x4 x5 x6 x7 x8 x9 x10 x11 x12 x13 x14 x15 x16 ((((((((bad || (putS 1 2).1 || (putS 6 2).1) || (putS a0 4).1) || (putS b0 4).1) || (putS a1 4).1) || (putS b1 4).1) || (putS a2 4).1) || (putS b2 4).1) || (putS a3 4).1) (up ((((((((out ++ (putS 1 2).2 ++ (putS 6 2).2) ++ (putS a0 4).2) ++ (putS b0 4).2) ++ (putS a1 4).2) ++ (putS b1 4).2) ++ (putS a2 4).2) ++ (putS b2 4).2) ++ (putS a3 4).2))) _ = _
  rw [put4 (by omega) (by simp only [List.length_append]; omega)]; rfl
 refine (loopN_next (n := 18446744073709551611) (s' := ((5 : Int), (((((((((((bad || (putS 1 2).1 || (putS 6 2).1) || (putS a0 4).1) || (putS b0 4).1) || (putS a1 4).1) || (putS b1 4).1) || (putS a2 4).1) || (putS b2 4).1) || (putS a3 4).1) || (putS b3 4).1) || (putS a4 4).1) || (putS b4 4).1), up (((((((((((out ++ (putS 1 2).2 ++ (putS 6 2).2) ++ (putS a0 4).2) ++ (putS b0 4).2) ++ (putS a1 4).2) ++ (putS b1 4).2) ++ (putS a2 4).2) ++ (putS b2 4).2) ++ (putS a3 4).2) ++ (putS b3 4).2) ++ (putS a4 4).2) ++ (putS b4 4).2))) ?_).trans ?_
 ·show Option.bind (bund_writer__put_s0 a4 4 x0 x1 x2 x3 x4 x5 x6 x7 x8 x9 x10 x11 x12 x13 x14 x15 x16 (((((((((bad || (putS 1 2).1 || (putS 6 2).1) || (putS a0 4).1) || (putS b0 4).1) || (putS a1 4).1) || (putS b1 4).1) || (putS a2 4).1) || (putS b2 4).1) || (putS a3 4).1) || (putS b3 4).1) (up (((((((((out ++ (putS 1 2).2 ++ (putS 6 2).2) ++ (putS a0 4).2) ++ (putS b0 4).2) ++ (putS a1 4).2) ++ (putS b1 4).2) ++ (putS a2 4).2) ++ (putS b2 4).2) ++ (putS a3 4).2) ++ (putS b3 4).2))) _ = _
  rw [put4 (by omega) (by simp only [List.length_append]; omega)]
  show Option.bind (bund_writer__put_s0 b4 4 x0 x1 x2 x3 x4 x5 x6 x7 x8 x9 x10 x11 x12 x13 x14 x15 x16 ((((((((((bad || (putS 1 2).1 || (putS 6 2).1) || (putS a0 4).1) || (putS b0 4).1) || (putS a1 4).1) || (putS b1 4).1) || (putS a2 4).1) || (putS b2 4).1) || (putS a3 4).1) || (putS b3 4).1) || (putS a4 4).1) (up ((((((((((out ++ (putS 1 2).2 ++ (putS 6 2).2) ++ (putS a0 4).2) ++ (putS b0 4).2) ++ (putS a1 4).2) ++ (putS b1 4).2) ++ (putS a2 4).2) ++ (putS b2 4).2) ++ (putS a3 4).2) ++ (putS b3 4).2) ++ (putS a4 4).2))) _ = _
  rw [put4 (by omega) (by simp only [List.length_append]; omega)]; rfl
 refine (loopN_next (n := 18446744073709551610) (s' := ((6 : Int), (((((((((((((bad || (putS 1 2).1 || (putS 6 2).1) || (putS a0 4).1) || (putS b0 4).1) || (putS a1 4).1) || (putS b1 4).1) || (putS a2 4).1) || (putS b2 4).1) || (putS a3 4).1) || (putS b3 4).1) || (putS a4 4).1) || (putS b4 4).1) || (putS a5 4).1) || (putS b5 4).1), up (((((((((((((out ++ (putS 1 2).2 ++ (putS 6 2).2) ++ (putS a0 4).2) ++ (putS b0 4).2) ++ (putS a1 4).2) ++ (putS b1 4).2) ++ (putS a2 4).2) ++ (putS b2 4).2) ++ (putS a3 4).2) ++ (putS b3 4).2) ++ (putS a4 4).2) ++ (putS b4 4).2) ++ (putS a5 4).2) ++ (putS b5 4).2))) ?_).trans ?_
 ·show Option.bind (bund_writer__put_s0 a5 4 x0 x1 x2 x3 x4 x5 x6 x7 x8 x9 x10 x11 x12 x13 x14 x15 x16 (((((((((((bad || (putS 1 2).1 || (putS 6 2).1) || (putS a0 4).1) || (putS b0 4).1) || (putS a1 4).1) || (putS b1 4).1) || (putS a2 4).1) || (putS b2 4).1) || (putS a3 4).1) || (putS b3 4).1) || (putS a4 4).1) || (putS b4 4).1) (up (((((((((((out ++ (putS 1 2).2 ++ (putS 6 2).2) ++ (putS a0 4).2) ++ (putS b0 4).2) ++ (putS a1 4).2) ++ (putS b1 4).2) ++ (putS a2 4).2) ++ (putS b2 4).2) ++ (putS a3 4).2) ++ (putS b3 4).2) ++ (putS a4 4).2) ++ (putS b4 4).2))) _ = _
  rw [put4 (by omega) (by simp only [List.length_append]; omega)]
  show Option.bind (bund_writer__put_s0 b5 4 x0 x1 x2 x3 x4 x5 x6 x7 x8 x9 x10 x11 x12 x13 x14 x15 x16 ((((((((((((bad || (putS 1 2).1 || (putS 6 2).1) || (putS a0 4).1) || (putS b0 4).1) || (putS a1 4).1) || (putS b1 4).1) || (putS a2 4).1) || (putS b2 4).1) || (putS a3 4).1) || (putS b3 4).1) || (putS a4 4).1) || (putS b4 4).1) || (putS a5 4).1) (up ((((((((((((out ++ (putS 1 2).2 ++ (putS 6 2).2) ++ (putS a0 4).2) ++ (putS b0 4).2) ++ (putS a1 4).2) ++ (putS b1 4).2) ++ (putS a2 4).2) ++ (putS b2 4).2) ++ (putS a3 4).2) ++ (putS b3 4).2) ++ (putS a4 4).2) ++ (putS b4 4).2) ++ (putS a5 4).2))) _ = _
  rw [put4 (by omega) (by simp only [List.length_append]; omega)]; rfl
 refine (loopN_out (n := 18446744073709551609) rfl).trans ?_
 simp only [IH, List.flatMap_cons, List.flatMap_nil, List.cons_append, List.nil_append, iB_cons, iE_cons, Bool.or_assoc, List.append_assoc]
 simp [iB, iE]
end
def textsL (l : St28) : List Tx := l.Tag_ :: l.Pats_.a0_ :: l.Pats_.a1_ :: l.Pats_.a2_ :: l.Pats_.a3_ :: (l.Rules_.map (fun r => r.Text_) ++ (l.Curs_.flatMap (fun c => [c.Code_, c.Sign_]) ++ l.Comps_.map fun c => c.Pat_))
structure Med (l : St28) : Prop where
 s : ∀ n ∈ [l.S_.Zero_, l.S_.Dec_, l.S_.Group_, l.S_.Minus_, l.S_.Plus_, l.S_.Percent_, l.S_.Exp_], -2147483648 ≤ n ∧ n < 2147483648
 r : l.Rules_.length ≤ 60000 ∧ ∀ r ∈ l.Rules_, -9223372036854775808 ≤ r.Cat_ ∧ r.Cat_ < 9223372036854775808
 c : l.Curs_.length ≤ 60000 ∧ ∀ r ∈ l.Curs_, -9223372036854775808 ≤ r.Digits_ ∧ r.Digits_ < 9223372036854775808
 k : l.Comps_.length ≤ 60000 ∧ ∀ r ∈ l.Comps_, (-9223372036854775808 ≤ r.Mag_ ∧ r.Mag_ < 9223372036854775808) ∧ (-9223372036854775808 ≤ r.Cat_ ∧ r.Cat_ < 9223372036854775808)
theorem flat2_len (cs : List St59) : (cs.flatMap (fun c => [c.Code_, c.Sign_])).length = 2 * cs.length := by
 induction cs with
 | nil => rfl
 | cons c cs ih => simp only [List.flatMap_cons, List.length_append, ih, List.length_cons, List.length_nil]; omega
theorem textsL_len (l : St28) : (textsL l).length = 5 + l.Rules_.length + 2 * l.Curs_.length + l.Comps_.length := by
 unfold textsL
 simp only [List.length_cons, List.length_append, List.length_map, flat2_len]
 omega
theorem texts_eq {x0 : St28} (hm : Med x0) : bund_Texts x0 = some (textsL x0) := by
 have h1 := hm.r.1
 have h2 := hm.c.1
 have h3 := hm.k.1
 unfold bund_Texts
 refine bind_of (fun o => o = [x0.Tag_, x0.Pats_.a0_, x0.Pats_.a1_, x0.Pats_.a2_, x0.Pats_.a3_]) ⟨[x0.Tag_, x0.Pats_.a0_, x0.Pats_.a1_, x0.Pats_.a2_, x0.Pats_.a3_], rfl, rfl⟩ (fun o h => ?_)
 subst h
 generalize A0def : [x0.Tag_, x0.Pats_.a0_, x0.Pats_.a1_, x0.Pats_.a2_, x0.Pats_.a3_] = A0
 have hAl : A0.length = 5 := by rw [← A0def]; rfl
 refine bind_of (fun o => o = A0 ++ x0.Rules_.map fun r => r.Text_) ⟨_, loop_fold x0.Rules_ (fun pre => ((pre.length : Int), A0 ++ pre.map fun r => r.Text_)) _ (by simp [A0def]) (fun pre x suf h => ?_) (by simp only; rw [lt_end]; rfl) (by omega), rfl⟩ (fun o h => ?_)
 ·have hl' : (pre ++ x :: suf).length ≤ 4611686018427387904 := by rw [← h]; omega
  have hpl : pre.length < x0.Rules_.length := by rw [h]; simp
  simp only
  rw [h, lt_mid, inR_mid, nth_mid, w_mid hl', room_of (by simp; omega)]
  simp
 subst h
 generalize hB : A0 ++ x0.Rules_.map (fun r => r.Text_) = B
 have hBl : B.length ≤ 5 + x0.Rules_.length := by rw [← hB]; simp; omega
 refine bind_of (fun o => o = B ++ x0.Curs_.flatMap fun c => [c.Code_, c.Sign_]) ⟨_, loop_fold x0.Curs_ (fun pre => ((pre.length : Int), B ++ pre.flatMap fun c => [c.Code_, c.Sign_])) _ (by simp) (fun pre x suf h => ?_) (by simp only; rw [lt_end]; rfl) (by omega), rfl⟩ (fun o h => ?_)
 ·have hl' : (pre ++ x :: suf).length ≤ 4611686018427387904 := by rw [← h]; omega
  have hpl : pre.length < x0.Curs_.length := by rw [h]; simp
  have hfl := flat2_len pre
  simp only
  rw [h, lt_mid, inR_mid, nth_mid, w_mid hl', room_of (by rw [List.length_append, flat2_len]; simp; omega)]
  simp
 subst h
 generalize hC : B ++ x0.Curs_.flatMap (fun c => [c.Code_, c.Sign_]) = C
 have hCl : C.length ≤ 5 + x0.Rules_.length + 2 * x0.Curs_.length := by rw [← hC, List.length_append, flat2_len]; omega
 refine bind_of (fun o => o = C ++ x0.Comps_.map fun r => r.Pat_) ⟨_, loop_fold x0.Comps_ (fun pre => ((pre.length : Int), C ++ pre.map fun r => r.Pat_)) _ (by simp) (fun pre x suf h => ?_) (by simp only; rw [lt_end]; rfl) (by omega), rfl⟩ (fun o h => ?_)
 ·have hl' : (pre ++ x :: suf).length ≤ 4611686018427387904 := by rw [← h]; omega
  have hpl : pre.length < x0.Comps_.length := by rw [h]; simp
  simp only
  rw [h, lt_mid, inR_mid, nth_mid, w_mid hl', room_of (by simp; omega)]
  simp
 subst h
 rw [← hC, ← hB, ← A0def]
 simp [textsL]
theorem pos_nodup {l : List Tx} (hn : l.Nodup) {j : Nat} {t : Tx} (h : l[j]? = some t) : posOf l t = some j := by
 cases hp : posOf l t with
 | none => exact absurd (List.mem_of_getElem? h) (posOf_none.1 hp)
 | some i =>
  obtain ⟨h1, h2⟩ := posOf_lt hp
  obtain ⟨h3, h4⟩ := List.getElem?_eq_some_iff.1 h
  obtain ⟨_, h5⟩ := List.getElem?_eq_some_iff.1 h2
  have hpw := List.pairwise_iff_getElem.1 hn
  rcases Nat.lt_trichotomy i j with hij | hij | hij
  ·exact absurd (h5.trans h4.symm) (hpw i j h1 h3 hij)
  ·rw [hij]
  ·exact absurd (h4.trans h5.symm) (hpw j i h3 h1 hij)
theorem gat_refs (T : List Tx) : (gat T).2 = T.map fun t => (posOf (gat T).1 t).getD 0 := by
 apply List.ext_getElem?
 intro i
 by_cases hi : i < T.length
 ·obtain ⟨j, h1, h2⟩ := gat_back T i hi
  rw [h1, List.getElem?_map, List.getElem?_eq_getElem hi]
  rw [List.getElem?_eq_getElem hi] at h2
  simp only [Option.map_some]
  rw [pos_nodup (gat_nodup T) h2]; rfl
 ·rw [List.getElem?_eq_none (by rw [(gat_len T).2]; omega), List.getElem?_eq_none (by simp; omega)]
def poolL (l : St28) : List Tx := (gat (textsL l)).1
def placeL (l : St28) (t : Tx) : Nat := (posOf (poolL l) t).getD 0
def signsL (s : St22) : List Int := [s.Zero_, s.Dec_, s.Group_, s.Minus_, s.Plus_, s.Percent_, s.Exp_]
def patsL (l : St28) : List Tx := [l.Pats_.a0_, l.Pats_.a1_, l.Pats_.a2_, l.Pats_.a3_]
def i2 (l : St28) : List (Int × Nat) := I2 (placeL l) l.Tag_ (signsL l.S_)
def i3 (l : St28) : List (Int × Nat) := I3 (placeL l) (patsL l)
def i4 (l : St28) : List (Int × Nat) := I4 (placeL l) l.Rules_.length l.Rules_
def i5 (l : St28) : List (Int × Nat) := I5 (placeL l) l.Curs_.length l.Curs_
def i6 (l : St28) : List (Int × Nat) := I6 (placeL l) l.Comps_.length l.Comps_
def secsL (l : St28) : List (List Nat) := [(putPV [] (poolL l)).1, iE (i2 l), iE (i3 l), iE (i4 l), iE (i5 l), iE (i6 l)]
def tabl : Nat → List (List Nat) → List (Int × Int)
 | _, [] => []
 | i, s :: r => ((i : Int), (s.length : Int)) :: tabl (i + s.length) r
def badL (l : St28) : Bool := !decide (poolP (poolL l)) || iB (i2 l) || iB (i3 l) || iB (i4 l) || iB (i5 l) || iB (i6 l) || iB (IH (tabl 56 (secsL l)))
def bytesL (l : St28) : List Nat := [69, 88, 76, 66] ++ iE (IH (tabl 56 (secsL l))) ++ (secsL l).flatten
def summed (m : List Nat) : List Nat := m ++ tailN (crcN m)
def encV (l : St28) : List Nat × Int := if badL l = true then ([], 1) else (summed (bytesL l), 0)
theorem placeL_lt {l : St28} (hm : Med l) (t : Tx) : placeL l t < 4294967296 := by
 unfold placeL
 have h := (gat_len (textsL l)).1
 rw [textsL_len] at h
 have h1 := hm.r.1
 have h2 := hm.c.1
 have h3 := hm.k.1
 cases hp : posOf (poolL l) t with
 | none => simp
 | some i =>
  have := (posOf_lt hp).1
  unfold poolL at this
  simp only [Option.getD_some]
  omega
theorem s1_len (p : List Tx) : (putPV [] p).1.length ≤ 201002 := by
 unfold putPV
 split
 ·rename_i h
  have := pbytes_len h.2.1
  have := h.1
  simp only [List.nil_append, List.length_append, beN_len]; omega
 ·simp
theorem i2_len (q : Tx → Nat) (t : Tx) (s : St22) : (iE (I2 q t (signsL s))).length ≤ 32 := Nat.le_trans (iE_len fun x hx => by
 simp only [I2, signsL, List.map_cons, List.map_nil, List.mem_cons, List.not_mem_nil, or_false] at hx
 rcases hx with rfl | rfl | rfl | rfl | rfl | rfl | rfl | rfl <;> simp) (by simp [I2, signsL])
theorem i3_len (q : Tx → Nat) (l : St28) : (iE (I3 q (patsL l))).length ≤ 16 := Nat.le_trans (iE_len fun x hx => by
 simp only [I3, patsL, List.map_cons, List.map_nil, List.mem_cons, List.not_mem_nil, or_false] at hx
 rcases hx with rfl | rfl | rfl | rfl <;> simp) (by simp [I3, patsL])
theorem s1_bytes (p : List Tx) : bytesP (putPV [] p).1 := by
 unfold putPV
 split
 ·exact bytes_append (fun _ h => by cases h) (bytes_append (beN_bytes _ _) (pbytes_bytes _))
 ·exact fun _ h => by cases h
theorem tabl_len : ∀ (S : List (List Nat)) (i : Nat), (tabl i S).length = S.length
 | [], _ => rfl
 | s :: S, i => by simp [tabl, tabl_len S]
theorem IH_len (T : List (Int × Int)) : (iE (IH T)).length ≤ 4 * (2 + 2 * T.length) := by
 refine Nat.le_trans (iE_len fun x hx => ?_) ?_
 ·unfold IH at hx
  simp only [List.mem_append, List.mem_cons, List.mem_flatMap, List.not_mem_nil, or_false] at hx
  rcases hx with (rfl | rfl) | ⟨r, _, rfl | rfl⟩ <;> simp
 ·unfold IH
  rw [List.length_append, show (T.flatMap fun r => [(r.1, 4), (r.2, 4)]).length = 2 * T.length from by induction T with
   | nil => rfl
   | cons r rs ih => simp only [List.flatMap_cons, List.length_append, ih, List.length_cons, List.length_nil]; omega]
  simp only [List.length_cons, List.length_nil]; omega
theorem secs_len {l : St28} (hm : Med l) : (secsL l).flatten.length ≤ 3000000 := by
 have h1 := hm.r.1
 have h2 := hm.c.1
 have h3 := hm.k.1
 have g1 := s1_len (poolL l)
 have g2 := i2_len (placeL l) l.Tag_ l.S_
 have g3 := i3_len (placeL l) l
 have g4 := I4_len (placeL l) l.Rules_.length l.Rules_
 have g5 := I5_len (placeL l) l.Curs_.length l.Curs_
 have g6 := I6_len (placeL l) l.Comps_.length l.Comps_
 unfold secsL i2 i3 i4 i5 i6
 simp only [List.flatten_cons, List.flatten_nil, List.length_append, List.length_nil]
 omega
theorem bytesL_len {l : St28} (hm : Med l) : (bytesL l).length ≤ 3000100 := by
 have h1 := secs_len hm
 have h2 := IH_len (tabl 56 (secsL l))
 rw [tabl_len] at h2
 have h3 : (secsL l).length = 6 := rfl
 unfold bytesL
 simp only [List.length_append, List.length_cons, List.length_nil]
 omega
theorem bytesL_bytes (l : St28) : bytesP (bytesL l) := by
 unfold bytesL secsL
 refine bytes_append (bytes_append (fun c hc => ?_) (iE_bytes _)) (fun c hc => ?_)
 ·simp only [List.mem_cons, List.not_mem_nil, or_false] at hc
  omega
 ·simp only [List.flatten_cons, List.flatten_nil, List.mem_append, List.not_mem_nil, or_false] at hc
  rcases hc with hc | hc | hc | hc | hc | hc
  ·exact s1_bytes _ c hc
  all_goals exact iE_bytes _ c hc
theorem wA {out : List Nat} (h : out.length ≤ 4000000000) : IntKind.wrap .i64 (56 + ((up out).length : Int)) = 56 + (out.length : Int) := by rw [up_len, w64 (by omega) (by omega)]
theorem wB {out s : List Nat} (h : (out ++ s).length ≤ 4000000000) : IntKind.wrap .i64 (((up (out ++ s)).length : Int) - ((up out).length : Int)) = (s.length : Int) := by
 rw [List.length_append] at h
 rw [up_len, up_len, List.length_append, w64 (by omega) (by omega)]; omega
theorem encode_eq {l : St28} (hm : Med l) : bund_Encode l = some (up (encV l).1, (encV l).2) := by
 have h1 := hm.r.1
 have h2 := hm.c.1
 have h3 := hm.k.1
 have g1 := s1_len (poolL l)
 have g2 := i2_len (placeL l) l.Tag_ l.S_
 have g3 := i3_len (placeL l) l
 have g4 := I4_len (placeL l) l.Rules_.length l.Rules_
 have g5 := I5_len (placeL l) l.Curs_.length l.Curs_
 have g6 := I6_len (placeL l) l.Comps_.length l.Comps_
 have hq := placeL_lt hm
 have hT := textsL_len l
 have hgl := (gat_len (textsL l)).1
 have hblen := bytesL_len hm
 have hbb := bytesL_bytes l
 unfold encV badL bytesL at *
 unfold bund_Encode bund_newWriter_s0
 rw [texts_eq hm]
 simp only [Option.bind_some]
 rw [gather_eq (by omega)]
 simp only [Option.bind_some]
 rw [gat_refs]
 have hrefs : (textsL l).map (fun t => (posOf (gat (textsL l)).1 t).getD 0) = placeL l l.Tag_ :: placeL l l.Pats_.a0_ :: placeL l l.Pats_.a1_ :: placeL l l.Pats_.a2_ :: placeL l l.Pats_.a3_ :: (l.Rules_.map (fun r => placeL l r.Text_) ++ (l.Curs_.flatMap (fun c => [placeL l c.Code_, placeL l c.Sign_]) ++ (l.Comps_.map (fun c => placeL l c.Pat_) ++ []))) := by
  show (textsL l).map (placeL l) = _
  unfold textsL
  simp [List.map_flatMap, Function.comp_def]
 rw [hrefs]
 clear hrefs
 have hp : poolL l = (gat (textsL l)).1 := rfl
 have hpl : (poolL l).length ≤ 4294967290 := by rw [hp]; omega
 rw [← hp]
 clear hp hgl
 refine bind_of (fun o => o = (up [], ((((((false || !decide (poolP (poolL l))) || iB (i2 l)) || iB (i3 l)) || iB (i4 l)) || iB (i5 l)) || iB (i6 l)), up ((((((([] : List Nat) ++ (putPV [] (poolL l)).1) ++ iE (i2 l)) ++ iE (i3 l)) ++ iE (i4 l)) ++ iE (i5 l)) ++ iE (i6 l)), 56 + ((([] : List Nat)).length : Int), (((putPV [] (poolL l)).1).length : Int), 56 + (((([] : List Nat) ++ (putPV [] (poolL l)).1)).length : Int), ((iE (i2 l)).length : Int), 56 + ((((([] : List Nat) ++ (putPV [] (poolL l)).1) ++ iE (i2 l))).length : Int), ((iE (i3 l)).length : Int), 56 + (((((([] : List Nat) ++ (putPV [] (poolL l)).1) ++ iE (i2 l)) ++ iE (i3 l))).length : Int), ((iE (i4 l)).length : Int), 56 + ((((((([] : List Nat) ++ (putPV [] (poolL l)).1) ++ iE (i2 l)) ++ iE (i3 l)) ++ iE (i4 l))).length : Int), ((iE (i5 l)).length : Int), 56 + (((((((([] : List Nat) ++ (putPV [] (poolL l)).1) ++ iE (i2 l)) ++ iE (i3 l)) ++ iE (i4 l)) ++ iE (i5 l))).length : Int), ((iE (i6 l)).length : Int))) ⟨_, ?_, rfl⟩ (fun o h => ?_)
 ·show loopN _ big (0, up (placeL l l.Tag_ :: (placeL l l.Pats_.a0_ :: placeL l l.Pats_.a1_ :: placeL l l.Pats_.a2_ :: placeL l l.Pats_.a3_ :: (l.Rules_.map (fun r => placeL l r.Text_) ++ (l.Curs_.flatMap (fun c => [placeL l c.Code_, placeL l c.Sign_]) ++ (l.Comps_.map (fun c => placeL l c.Pat_) ++ []))))), false, up [], 0, 0, 0, 0, 0, 0, 0, 0, 0, 0, 0, 0) = _
  have e0 : (((([] : List Nat) ++ (putPV [] (poolL l)).1)).length ≤ 3000000) := by simp only [List.length_append, List.length_nil, i2, i3, i4, i5, i6]; omega
  refine (loopN_next (n := 18446744073709551615) (s' := ((1 : Int), up (placeL l l.Tag_ :: (placeL l l.Pats_.a0_ :: placeL l l.Pats_.a1_ :: placeL l l.Pats_.a2_ :: placeL l l.Pats_.a3_ :: (l.Rules_.map (fun r => placeL l r.Text_) ++ (l.Curs_.flatMap (fun c => [placeL l c.Code_, placeL l c.Sign_]) ++ (l.Comps_.map (fun c => placeL l c.Pat_) ++ []))))), (false || !decide (poolP (poolL l))), up (([] : List Nat) ++ (putPV [] (poolL l)).1), 56 + ((([] : List Nat)).length : Int), (((putPV [] (poolL l)).1).length : Int), 0, 0, 0, 0, 0, 0, 0, 0, 0, 0)) ?_).trans ?_
  ·show Option.bind (bund_writer__words_s1 l.Tag_ l.S_.Zero_ l.S_.Dec_ l.S_.Group_ l.S_.Minus_ l.S_.Plus_ l.S_.Percent_ l.S_.Exp_ l.Pats_.a0_ l.Pats_.a1_ l.Pats_.a2_ l.Pats_.a3_ l.Rules_ l.Curs_ l.Comps_ (poolL l) (up (placeL l l.Tag_ :: (placeL l l.Pats_.a0_ :: placeL l l.Pats_.a1_ :: placeL l l.Pats_.a2_ :: placeL l l.Pats_.a3_ :: (l.Rules_.map (fun r => placeL l r.Text_) ++ (l.Curs_.flatMap (fun c => [placeL l c.Code_, placeL l c.Sign_]) ++ (l.Comps_.map (fun c => placeL l c.Pat_) ++ [])))))) (false) (up ([] : List Nat))) _ = _
   rw [words_eq hpl (by simp)]
   simp only [Option.bind_some]
   rw [wA (out := []) (by simp), wB (by exact Nat.le_trans e0 (by omega))]
   rfl
  have e1 : ((((([] : List Nat) ++ (putPV [] (poolL l)).1) ++ iE (i2 l))).length ≤ 3000000) := by simp only [List.length_append, List.length_nil, i2, i3, i4, i5, i6]; omega
  refine (loopN_next (n := 18446744073709551614) (s' := ((2 : Int), up (placeL l l.Pats_.a0_ :: placeL l l.Pats_.a1_ :: placeL l l.Pats_.a2_ :: placeL l l.Pats_.a3_ :: (l.Rules_.map (fun r => placeL l r.Text_) ++ (l.Curs_.flatMap (fun c => [placeL l c.Code_, placeL l c.Sign_]) ++ (l.Comps_.map (fun c => placeL l c.Pat_) ++ [])))), ((false || !decide (poolP (poolL l))) || iB (i2 l)), up ((([] : List Nat) ++ (putPV [] (poolL l)).1) ++ iE (i2 l)), 56 + ((([] : List Nat)).length : Int), (((putPV [] (poolL l)).1).length : Int), 56 + (((([] : List Nat) ++ (putPV [] (poolL l)).1)).length : Int), ((iE (i2 l)).length : Int), 0, 0, 0, 0, 0, 0, 0, 0)) ?_).trans ?_
  ·show Option.bind (bund_writer__names_s0 l.Tag_ l.S_.Zero_ l.S_.Dec_ l.S_.Group_ l.S_.Minus_ l.S_.Plus_ l.S_.Percent_ l.S_.Exp_ l.Pats_.a0_ l.Pats_.a1_ l.Pats_.a2_ l.Pats_.a3_ l.Rules_ l.Curs_ l.Comps_ (poolL l) (up (placeL l l.Tag_ :: (placeL l l.Pats_.a0_ :: placeL l l.Pats_.a1_ :: placeL l l.Pats_.a2_ :: placeL l l.Pats_.a3_ :: (l.Rules_.map (fun r => placeL l r.Text_) ++ (l.Curs_.flatMap (fun c => [placeL l c.Code_, placeL l c.Sign_]) ++ (l.Comps_.map (fun c => placeL l c.Pat_) ++ [])))))) ((false || !decide (poolP (poolL l)))) (up (([] : List Nat) ++ (putPV [] (poolL l)).1))) _ = _
   rw [names_eq hq hm.s (by simp only [List.length_append, List.length_nil, i2, i3, i4, i5, i6]; omega)]
   simp only [Option.bind_some]
   rw [cut1]
   rw [wA (by exact Nat.le_trans e0 (by omega)), wB (by exact Nat.le_trans e1 (by omega))]
   rfl
  have e2 : (((((([] : List Nat) ++ (putPV [] (poolL l)).1) ++ iE (i2 l)) ++ iE (i3 l))).length ≤ 3000000) := by simp only [List.length_append, List.length_nil, i2, i3, i4, i5, i6]; omega
  refine (loopN_next (n := 18446744073709551613) (s' := ((3 : Int), up (l.Rules_.map (fun r => placeL l r.Text_) ++ (l.Curs_.flatMap (fun c => [placeL l c.Code_, placeL l c.Sign_]) ++ (l.Comps_.map (fun c => placeL l c.Pat_) ++ []))), (((false || !decide (poolP (poolL l))) || iB (i2 l)) || iB (i3 l)), up (((([] : List Nat) ++ (putPV [] (poolL l)).1) ++ iE (i2 l)) ++ iE (i3 l)), 56 + ((([] : List Nat)).length : Int), (((putPV [] (poolL l)).1).length : Int), 56 + (((([] : List Nat) ++ (putPV [] (poolL l)).1)).length : Int), ((iE (i2 l)).length : Int), 56 + ((((([] : List Nat) ++ (putPV [] (poolL l)).1) ++ iE (i2 l))).length : Int), ((iE (i3 l)).length : Int), 0, 0, 0, 0, 0, 0)) ?_).trans ?_
  ·show Option.bind (bund_writer__patterns_s0 l.Tag_ l.S_.Zero_ l.S_.Dec_ l.S_.Group_ l.S_.Minus_ l.S_.Plus_ l.S_.Percent_ l.S_.Exp_ l.Pats_.a0_ l.Pats_.a1_ l.Pats_.a2_ l.Pats_.a3_ l.Rules_ l.Curs_ l.Comps_ (poolL l) (up (placeL l l.Pats_.a0_ :: placeL l l.Pats_.a1_ :: placeL l l.Pats_.a2_ :: placeL l l.Pats_.a3_ :: (l.Rules_.map (fun r => placeL l r.Text_) ++ (l.Curs_.flatMap (fun c => [placeL l c.Code_, placeL l c.Sign_]) ++ (l.Comps_.map (fun c => placeL l c.Pat_) ++ []))))) (((false || !decide (poolP (poolL l))) || iB (i2 l))) (up ((([] : List Nat) ++ (putPV [] (poolL l)).1) ++ iE (i2 l)))) _ = _
   rw [pats_eq hq (by simp only [List.length_append, List.length_nil, i2, i3, i4, i5, i6]; omega)]
   simp only [Option.bind_some]
   rw [wA (by exact Nat.le_trans e1 (by omega)), wB (by exact Nat.le_trans e2 (by omega))]
   rfl
  have e3 : ((((((([] : List Nat) ++ (putPV [] (poolL l)).1) ++ iE (i2 l)) ++ iE (i3 l)) ++ iE (i4 l))).length ≤ 3000000) := by simp only [List.length_append, List.length_nil, i2, i3, i4, i5, i6]; omega
  refine (loopN_next (n := 18446744073709551612) (s' := ((4 : Int), up (l.Curs_.flatMap (fun c => [placeL l c.Code_, placeL l c.Sign_]) ++ (l.Comps_.map (fun c => placeL l c.Pat_) ++ [])), ((((false || !decide (poolP (poolL l))) || iB (i2 l)) || iB (i3 l)) || iB (i4 l)), up ((((([] : List Nat) ++ (putPV [] (poolL l)).1) ++ iE (i2 l)) ++ iE (i3 l)) ++ iE (i4 l)), 56 + ((([] : List Nat)).length : Int), (((putPV [] (poolL l)).1).length : Int), 56 + (((([] : List Nat) ++ (putPV [] (poolL l)).1)).length : Int), ((iE (i2 l)).length : Int), 56 + ((((([] : List Nat) ++ (putPV [] (poolL l)).1) ++ iE (i2 l))).length : Int), ((iE (i3 l)).length : Int), 56 + (((((([] : List Nat) ++ (putPV [] (poolL l)).1) ++ iE (i2 l)) ++ iE (i3 l))).length : Int), ((iE (i4 l)).length : Int), 0, 0, 0, 0)) ?_).trans ?_
  ·show Option.bind (bund_writer__rules_s0 l.Tag_ l.S_.Zero_ l.S_.Dec_ l.S_.Group_ l.S_.Minus_ l.S_.Plus_ l.S_.Percent_ l.S_.Exp_ l.Pats_.a0_ l.Pats_.a1_ l.Pats_.a2_ l.Pats_.a3_ l.Rules_ l.Curs_ l.Comps_ (poolL l) (up (l.Rules_.map (fun r => placeL l r.Text_) ++ (l.Curs_.flatMap (fun c => [placeL l c.Code_, placeL l c.Sign_]) ++ (l.Comps_.map (fun c => placeL l c.Pat_) ++ [])))) ((((false || !decide (poolP (poolL l))) || iB (i2 l)) || iB (i3 l))) (up (((([] : List Nat) ++ (putPV [] (poolL l)).1) ++ iE (i2 l)) ++ iE (i3 l)))) _ = _
   rw [rules_eq hq (by omega) hm.r.2 (by simp only [List.length_append, List.length_nil, i2, i3, i4, i5, i6]; omega)]
   simp only [Option.bind_some]
   rw [wA (by exact Nat.le_trans e2 (by omega)), wB (by exact Nat.le_trans e3 (by omega))]
   rfl
  have e4 : (((((((([] : List Nat) ++ (putPV [] (poolL l)).1) ++ iE (i2 l)) ++ iE (i3 l)) ++ iE (i4 l)) ++ iE (i5 l))).length ≤ 3000000) := by simp only [List.length_append, List.length_nil, i2, i3, i4, i5, i6]; omega
  refine (loopN_next (n := 18446744073709551611) (s' := ((5 : Int), up (l.Comps_.map (fun c => placeL l c.Pat_) ++ []), (((((false || !decide (poolP (poolL l))) || iB (i2 l)) || iB (i3 l)) || iB (i4 l)) || iB (i5 l)), up (((((([] : List Nat) ++ (putPV [] (poolL l)).1) ++ iE (i2 l)) ++ iE (i3 l)) ++ iE (i4 l)) ++ iE (i5 l)), 56 + ((([] : List Nat)).length : Int), (((putPV [] (poolL l)).1).length : Int), 56 + (((([] : List Nat) ++ (putPV [] (poolL l)).1)).length : Int), ((iE (i2 l)).length : Int), 56 + ((((([] : List Nat) ++ (putPV [] (poolL l)).1) ++ iE (i2 l))).length : Int), ((iE (i3 l)).length : Int), 56 + (((((([] : List Nat) ++ (putPV [] (poolL l)).1) ++ iE (i2 l)) ++ iE (i3 l))).length : Int), ((iE (i4 l)).length : Int), 56 + ((((((([] : List Nat) ++ (putPV [] (poolL l)).1) ++ iE (i2 l)) ++ iE (i3 l)) ++ iE (i4 l))).length : Int), ((iE (i5 l)).length : Int), 0, 0)) ?_).trans ?_
  ·show Option.bind (bund_writer__currencies_s0 l.Tag_ l.S_.Zero_ l.S_.Dec_ l.S_.Group_ l.S_.Minus_ l.S_.Plus_ l.S_.Percent_ l.S_.Exp_ l.Pats_.a0_ l.Pats_.a1_ l.Pats_.a2_ l.Pats_.a3_ l.Rules_ l.Curs_ l.Comps_ (poolL l) (up (l.Curs_.flatMap (fun c => [placeL l c.Code_, placeL l c.Sign_]) ++ (l.Comps_.map (fun c => placeL l c.Pat_) ++ []))) (((((false || !decide (poolP (poolL l))) || iB (i2 l)) || iB (i3 l)) || iB (i4 l))) (up ((((([] : List Nat) ++ (putPV [] (poolL l)).1) ++ iE (i2 l)) ++ iE (i3 l)) ++ iE (i4 l)))) _ = _
   rw [curs_eq hq (by omega) hm.c.2 (by simp only [List.length_append, List.length_nil, i2, i3, i4, i5, i6]; omega)]
   simp only [Option.bind_some]
   rw [wA (by exact Nat.le_trans e3 (by omega)), wB (by exact Nat.le_trans e4 (by omega))]
   rfl
  have e5 : ((((((((([] : List Nat) ++ (putPV [] (poolL l)).1) ++ iE (i2 l)) ++ iE (i3 l)) ++ iE (i4 l)) ++ iE (i5 l)) ++ iE (i6 l))).length ≤ 3000000) := by simp only [List.length_append, List.length_nil, i2, i3, i4, i5, i6]; omega
  refine (loopN_next (n := 18446744073709551610) (s' := ((6 : Int), up [], ((((((false || !decide (poolP (poolL l))) || iB (i2 l)) || iB (i3 l)) || iB (i4 l)) || iB (i5 l)) || iB (i6 l)), up ((((((([] : List Nat) ++ (putPV [] (poolL l)).1) ++ iE (i2 l)) ++ iE (i3 l)) ++ iE (i4 l)) ++ iE (i5 l)) ++ iE (i6 l)), 56 + ((([] : List Nat)).length : Int), (((putPV [] (poolL l)).1).length : Int), 56 + (((([] : List Nat) ++ (putPV [] (poolL l)).1)).length : Int), ((iE (i2 l)).length : Int), 56 + ((((([] : List Nat) ++ (putPV [] (poolL l)).1) ++ iE (i2 l))).length : Int), ((iE (i3 l)).length : Int), 56 + (((((([] : List Nat) ++ (putPV [] (poolL l)).1) ++ iE (i2 l)) ++ iE (i3 l))).length : Int), ((iE (i4 l)).length : Int), 56 + ((((((([] : List Nat) ++ (putPV [] (poolL l)).1) ++ iE (i2 l)) ++ iE (i3 l)) ++ iE (i4 l))).length : Int), ((iE (i5 l)).length : Int), 56 + (((((((([] : List Nat) ++ (putPV [] (poolL l)).1) ++ iE (i2 l)) ++ iE (i3 l)) ++ iE (i4 l)) ++ iE (i5 l))).length : Int), ((iE (i6 l)).length : Int))) ?_).trans ?_
  ·show Option.bind (bund_writer__compacts_s0 l.Tag_ l.S_.Zero_ l.S_.Dec_ l.S_.Group_ l.S_.Minus_ l.S_.Plus_ l.S_.Percent_ l.S_.Exp_ l.Pats_.a0_ l.Pats_.a1_ l.Pats_.a2_ l.Pats_.a3_ l.Rules_ l.Curs_ l.Comps_ (poolL l) (up (l.Comps_.map (fun c => placeL l c.Pat_) ++ [])) ((((((false || !decide (poolP (poolL l))) || iB (i2 l)) || iB (i3 l)) || iB (i4 l)) || iB (i5 l))) (up (((((([] : List Nat) ++ (putPV [] (poolL l)).1) ++ iE (i2 l)) ++ iE (i3 l)) ++ iE (i4 l)) ++ iE (i5 l)))) _ = _
   rw [comps_eq hq (by omega) hm.k.2 (by simp only [List.length_append, List.length_nil, i2, i3, i4, i5, i6]; omega)]
   simp only [Option.bind_some]
   rw [wA (by exact Nat.le_trans e4 (by omega)), wB (by exact Nat.le_trans e5 (by omega))]
   rfl
  exact loopN_out (n := 18446744073709551609) rfl
 subst h
 simp only
 have hsec := secs_len hm
 have hfl : ((((((([] : List Nat) ++ (putPV [] (poolL l)).1) ++ iE (i2 l)) ++ iE (i3 l)) ++ iE (i4 l)) ++ iE (i5 l)) ++ iE (i6 l)) = (secsL l).flatten := by simp [secsL]
 have htab : [(56 + ((([] : List Nat)).length : Int), (((putPV [] (poolL l)).1).length : Int)), (56 + (((([] : List Nat) ++ (putPV [] (poolL l)).1)).length : Int), ((iE (i2 l)).length : Int)), (56 + ((((([] : List Nat) ++ (putPV [] (poolL l)).1) ++ iE (i2 l))).length : Int), ((iE (i3 l)).length : Int)), (56 + (((((([] : List Nat) ++ (putPV [] (poolL l)).1) ++ iE (i2 l)) ++ iE (i3 l))).length : Int), ((iE (i4 l)).length : Int)), (56 + ((((((([] : List Nat) ++ (putPV [] (poolL l)).1) ++ iE (i2 l)) ++ iE (i3 l)) ++ iE (i4 l))).length : Int), ((iE (i5 l)).length : Int)), (56 + (((((((([] : List Nat) ++ (putPV [] (poolL l)).1) ++ iE (i2 l)) ++ iE (i3 l)) ++ iE (i4 l)) ++ iE (i5 l))).length : Int), ((iE (i6 l)).length : Int))] = tabl 56 (secsL l) := by
  simp only [tabl, secsL, List.length_append, List.length_nil, List.nil_append]
  simp only [List.cons.injEq, Prod.mk.injEq, and_true]
  refine ⟨?_, ?_, ?_, ?_, ?_, ?_⟩ <;> omega
 rw [hfl]
 rw [show ([69, 88, 76, 66] : List Int) = up [69, 88, 76, 66] from rfl, head_eq (fun n hn => by
  unfold secsL at hsec
  simp only [List.flatten_cons, List.flatten_nil, List.length_append, List.length_nil] at hsec
  simp only [List.mem_cons, List.not_mem_nil, or_false, List.length_append, List.length_nil] at hn
  rcases hn with rfl | rfl | rfl | rfl | rfl | rfl | rfl | rfl | rfl | rfl | rfl | rfl <;> omega) (by simp), htab]
 simp only [Option.bind_some, Bool.false_or]
 generalize (!decide (poolP (poolL l)) || iB (i2 l) || iB (i3 l) || iB (i4 l) || iB (i5 l) || iB (i6 l) || iB (IH (tabl 56 (secsL l)))) = bd
 cases bd with
 | true => rfl
 | false =>
  simp only [cond_false, Bool.false_eq_true, if_false]
  rw [← up_append, room_of (by rw [up_len, up_len]; rw [List.length_append] at hblen; omega)]
  simp only [cond_true]
  rw [cput_eq hbb (by omega)]; rfl
theorem bif_or (a b : Bool) : (bif a then some true else some b) = some (a || b) := by cases a <;> rfl
def bt (n : Int) : Bool := decide (0 ≤ n) && decide (n ≤ 255)
def okL (l : St28) : Bool := (signsL l.S_).all (fun n => decide (0 ≤ n)) && (l.Rules_.all (fun r => bt r.Cat_) && (l.Curs_.all (fun c => bt c.Digits_) && l.Comps_.all (fun c => bt c.Mag_ && bt c.Cat_)))
theorem bt_iff {n : Int} : bt n = true ↔ 0 ≤ n ∧ n ≤ 255 := by simp [bt]
theorem put1_bt (n : Int) : (putS n 1).1 = !bt n := by
 cases hb : bt n with
 | true => rw [bt_iff] at hb; rw [putS_fit (by omega) (by omega) (by omega)]; rfl
 | false =>
  have : ¬ (0 ≤ n ∧ n ≤ 255) := fun h => by rw [bt_iff.2 h] at hb; cases hb
  rw [putS_bad (by omega)]; rfl
theorem put4_nn {n : Int} (h : n < 4294967296) : (putS n 4).1 = !decide (0 ≤ n) := by
 by_cases h0 : 0 ≤ n
 ·rw [putS_fit h0 (by omega) (by omega), dT h0]; rfl
 ·rw [putS_bad (by omega), dF h0]; rfl
theorem put2_fit {n : Int} (h0 : 0 ≤ n) (h : n < 65536) : putS n 2 = (false, beN n.toNat 2) := putS_fit h0 (by omega) (by omega)
theorem place_small {l : St28} (hp : poolP (poolL l)) (t : Tx) : placeL l t < 65536 := by
 unfold placeL
 cases hq : posOf (poolL l) t with
 | none => simp
 | some i =>
  have := (posOf_lt hq).1
  have := hp.1
  simp only [Option.getD_some]; omega
theorem iB_flat {T : Type} (f : T → List (Int × Nat)) (xs : List T) : iB (xs.flatMap f) = xs.any fun x => iB (f x) := by
 induction xs with
 | nil => rfl
 | cons x xs ih => rw [List.flatMap_cons, iB_app, ih]; rfl
theorem any_not {T : Type} (p : T → Bool) (xs : List T) : (xs.any fun x => !p x) = !xs.all p := by
 induction xs with
 | nil => rfl
 | cons x xs ih => rw [List.any_cons, ih, List.all_cons, Bool.not_and]
theorem tabl_fit : ∀ (S : List (List Nat)) (i : Nat), i + S.flatten.length < 4294967296 → ∀ r ∈ tabl i S, (0 ≤ r.1 ∧ r.1 < 4294967296) ∧ (0 ≤ r.2 ∧ r.2 < 4294967296)
 | [], _, _, r, hr => by cases hr
 | s :: S, i, h, r, hr => by
  rw [List.flatten_cons, List.length_append] at h
  rcases List.mem_cons.1 hr with rfl | hr
  ·simp only; omega
  ·exact tabl_fit S (i + s.length) (by omega) r hr
theorem badL_eq {l : St28} (hm : Med l) : badL l = !(decide (poolP (poolL l)) && okL l) := by
 have h1 := hm.r.1
 have h2 := hm.c.1
 have h3 := hm.k.1
 unfold badL
 by_cases hp : poolP (poolL l)
 ·have hq := fun t => place_small hp t
  have hq2 : ∀ t, (putS (placeL l t : Int) 2).1 = false := fun t => by have := hq t; rw [put2_fit (by omega) (by omega)]
  have e2 : iB (i2 l) = !(signsL l.S_).all (fun n => decide (0 ≤ n)) := by
   unfold i2 I2
   rw [iB_cons, hq2, Bool.false_or]
   have hs := hm.s
   change ∀ n ∈ signsL l.S_, _ at hs
   revert hs
   generalize signsL l.S_ = s
   intro hs
   induction s with
   | nil => rfl
   | cons n s ih =>
    have hn := hs n (List.mem_cons_self ..)
    rw [List.map_cons, iB_cons, ih (fun x hx => hs x (List.mem_cons_of_mem _ hx)), put4_nn (by omega), List.all_cons, Bool.not_and]
  have e3 : iB (i3 l) = false := by
   unfold i3 I3
   rw [iB, List.any_eq_false]
   intro x hx
   obtain ⟨t, _, rfl⟩ := List.mem_map.1 hx
   simp only [hq2]; simp
  have e4 : iB (i4 l) = !l.Rules_.all (fun r => bt r.Cat_) := by
   unfold i4 I4
   rw [iB_cons, put2_fit (by omega) (by omega), Bool.false_or, iB_flat, ← any_not]
   refine congrArg _ (funext fun r => ?_)
   simp only [iB_cons, hq2, put1_bt]; simp [iB]
  have e5 : iB (i5 l) = !l.Curs_.all (fun r => bt r.Digits_) := by
   unfold i5 I5
   rw [iB_cons, put2_fit (by omega) (by omega), Bool.false_or, iB_flat, ← any_not]
   refine congrArg _ (funext fun r => ?_)
   simp only [iB_cons, hq2, put1_bt]; simp [iB]
  have e6 : iB (i6 l) = !l.Comps_.all (fun c => bt c.Mag_ && bt c.Cat_) := by
   unfold i6 I6
   rw [iB_cons, put2_fit (by omega) (by omega), Bool.false_or, iB_flat, ← any_not]
   refine congrArg _ (funext fun r => ?_)
   simp only [iB_cons, hq2, put1_bt]; simp [iB]
  have e7 : iB (IH (tabl 56 (secsL l))) = false := by
   have hf := tabl_fit (secsL l) 56 (by have := secs_len hm; omega)
   revert hf
   generalize tabl 56 (secsL l) = T
   intro hf
   unfold IH
   rw [iB_app, iB_flat]
   have : (T.any fun x => iB [(x.1, 4), (x.2, 4)]) = false := by
    rw [List.any_eq_false]
    intro x hx
    obtain ⟨⟨a1, a2⟩, b1, b2⟩ := hf x hx
    simp only [iB_cons, put4_nn a2, put4_nn b2, dT a1, dT b1]; simp [iB]
   rw [this]; rfl
  rw [e2, e3, e4, e5, e6, e7, dT hp]
  unfold okL
  simp only [Bool.not_true, Bool.false_or, Bool.or_false, Bool.true_and, Bool.not_and, Bool.or_assoc]
 ·rw [dF hp]; simp
theorem encV_eq {l : St28} (hm : Med l) : encV l = if poolP (poolL l) ∧ okL l = true then (summed (bytesL l), 0) else ([], 1) := by
 unfold encV
 rw [badL_eq hm]
 by_cases hp : poolP (poolL l)
 ·rw [dT hp]
  cases ho : okL l with
  | true => rw [if_neg (by simp), if_pos ⟨hp, rfl⟩]
  | false => rw [if_pos (by rfl), if_neg (fun h => by cases h.2)]
 ·rw [dF hp, if_pos (by rfl), if_neg (fun h => hp h.1)]
/-! The document's way to put. -/
structure Ok (l : St28) : Prop where
 m : Med l
 p : poolP (poolL l)
 s : ∀ n ∈ signsL l.S_, 0 ≤ n
 r : ∀ r ∈ l.Rules_, bt r.Cat_ = true
 c : ∀ c ∈ l.Curs_, bt c.Digits_ = true
 k : ∀ c ∈ l.Comps_, bt c.Mag_ = true ∧ bt c.Cat_ = true
theorem Ok.of {l : St28} (hm : Med l) (hp : poolP (poolL l)) (ho : okL l = true) : Ok l := by
 unfold okL at ho
 simp only [Bool.and_eq_true, List.all_eq_true] at ho
 exact ⟨hm, hp, fun n hn => of_decide_eq_true (ho.1 n hn), ho.2.1, ho.2.2.1, ho.2.2.2⟩
/-! What is read. -/
section
variable {b : List Nat} {p : List Tx} {i : Nat}
end
theorem ex_bind {α β : Type} {x : Option α} {k : α → Option β} {Q : β → Prop} (post : α → Prop) (h : ∃ o, x = some o ∧ post o) (hk : ∀ o, post o → ∃ b, k o = some b ∧ Q b) : ∃ b, Option.bind x k = some b ∧ Q b := by
 obtain ⟨o, rfl, h2⟩ := h; exact hk o h2
theorem ex_jl {α γ : Type} {x : α} {k : α → Option γ} {Q : γ → Prop} (h : ∃ b, k x = some b ∧ Q b) : ∃ b, joinX k (.inl x) = some b ∧ Q b := h
theorem ex_some {α β : Type} {a : α} {k : α → Option β} {Q : β → Prop} (h : ∃ b, k a = some b ∧ Q b) : ∃ b, Option.bind (some a) k = some b ∧ Q b := h
theorem tEq (a b : Tx) : (a == b) = decide (a = b) := by by_cases h : a = b <;> simp [h]
theorem small_eq (l : St28) (hl : l.Rules_.length < 18446744073709551616 ∧ l.Curs_.length < 18446744073709551616 ∧ l.Comps_.length < 18446744073709551616) : ∃ b, exergueref15_Small l = some b ∧ (b = true → l.Rules_.length ≤ 8 ∧ l.Curs_.length ≤ 105 ∧ l.Comps_.length ≤ 95) := by
 unfold exergueref15_Small
 refine ex_bind (fun _ => True) ⟨_, rfl, trivial⟩ (fun s4 _ => ?_)
 simp only [bif_or, Option.bind_some]
 by_cases h1 : l.Rules_.length ≤ 8
 rotate_left
 ·rw [dT (show (l.Rules_.length : Int) > 8 by omega)]; exact ⟨false, rfl, fun h => by cases h⟩
 by_cases h2 : l.Curs_.length ≤ 105
 rotate_left
 ·rw [dT (show (l.Curs_.length : Int) > 105 by omega), Bool.true_or, Bool.or_true]; exact ⟨false, rfl, fun h => by cases h⟩
 by_cases h3 : l.Comps_.length ≤ 95
 rotate_left
 ·rw [dT (show (l.Comps_.length : Int) > 95 by omega), Bool.or_true, Bool.or_true]; exact ⟨false, rfl, fun h => by cases h⟩
 rw [dF (by omega), dF (by omega), dF (by omega)]
 refine ex_some (ex_jl ?_)
 refine ex_bind (fun _ => True) ⟨_, loop_fold l.Rules_ (fun pre => (pre.foldl (fun n r => IntKind.wrap .i64 (n + (r.Text_.length : Int))) s4, (pre.length : Int))) _ rfl (fun pre x suf h => ?_) (by simp only; rw [lt_end]; rfl) hl.1, trivial⟩ (fun s6 _ => ?_)
 ·have hl' : (pre ++ x :: suf).length ≤ 4611686018427387904 := by rw [← h]; omega
  simp only
  rw [h, lt_mid, inR_mid, nth_mid, w_mid hl', List.foldl_append]; rfl
 refine ex_bind (fun _ => True) ⟨_, loop_fold l.Curs_ (fun pre => (pre.foldl (fun n r => IntKind.wrap .i64 (IntKind.wrap .i64 (n + (r.Code_.length : Int)) + (r.Sign_.length : Int))) s6, (pre.length : Int))) _ rfl (fun pre x suf h => ?_) (by simp only; rw [lt_end]; rfl) hl.2.1, trivial⟩ (fun s7 _ => ?_)
 ·have hl' : (pre ++ x :: suf).length ≤ 4611686018427387904 := by rw [← h]; omega
  simp only
  rw [h, lt_mid, inR_mid, nth_mid, w_mid hl', List.foldl_append]; rfl
 refine ex_bind (fun _ => True) ⟨_, loop_fold l.Comps_ (fun pre => (pre.foldl (fun n r => IntKind.wrap .i64 (n + (r.Pat_.length : Int))) s7, (pre.length : Int))) _ rfl (fun pre x suf h => ?_) (by simp only; rw [lt_end]; rfl) hl.2.2, trivial⟩ (fun s8 _ => ?_)
 ·have hl' : (pre ++ x :: suf).length ≤ 4611686018427387904 := by rw [← h]; omega
  simp only
  rw [h, lt_mid, inR_mid, nth_mid, w_mid hl', List.foldl_append]; rfl
 exact ⟨_, rfl, fun _ => ⟨h1, h2, h3⟩⟩
/-! Bytes, taken for a bundle. -/
/-! The document's reader. -/
section
variable {b : List Nat} {p : List Tx} {i : Nat}
end
section
variable {b : List Nat} (hb : bytesP b) (hl : b.length ≤ 50000) {p : List Tx}
include hb hl
end
section
variable {b : List Nat} (hb : bytesP b) (hl : b.length ≤ 50000) {p : List Tx}
include hb hl
end
section
variable {b : List Nat} (hb : bytesP b) (hl : b.length ≤ 50000) {p : List Tx}
include hb hl
end
theorem shown_eq : exerguelaw16_shown = some true := by kernel_rfl
/-! What is written is read. -/
theorem iE_fit : ∀ {I : List (Int × Nat)}, iB I = false → (iE I).length = (I.map Prod.snd).sum
 | [], _ => rfl
 | x :: I, h => by
  rw [iB_cons, Bool.or_eq_false_iff] at h
  have h1 : (putS x.1 x.2).2.length = x.2 := by
   have := h.1
   unfold putS at this ⊢
   split
   ·simp [beN_len]
   ·rename_i hh; rw [if_neg hh] at this; cases this
  rw [iE_cons, List.length_append, h1, iE_fit h.2]; rfl
theorem Ok.bad {l : St28} (h : Ok l) : badL l = false := by
 rw [badL_eq h.m, dT h.p]
 unfold okL
 have e1 : (signsL l.S_).all (fun n => decide (0 ≤ n)) = true := List.all_eq_true.2 fun n hn => dT (h.s n hn)
 have e2 : l.Rules_.all (fun r => bt r.Cat_) = true := List.all_eq_true.2 h.r
 have e3 : l.Curs_.all (fun c => bt c.Digits_) = true := List.all_eq_true.2 h.c
 have e4 : l.Comps_.all (fun c => bt c.Mag_ && bt c.Cat_) = true := List.all_eq_true.2 fun c hc => by rw [(h.k c hc).1, (h.k c hc).2]; rfl
 rw [e1, e2, e3, e4]; rfl
theorem head_len {l : St28} (h : Ok l) : ([69, 88, 76, 66] ++ iE (IH (tabl 56 (secsL l))) : List Nat).length = 56 := by
 have hb := h.bad
 unfold badL at hb
 rw [Bool.or_eq_false_iff] at hb
 rw [List.length_append, iE_fit hb.2]
 unfold IH
 have : ∀ T : List (Int × Int), ((T.flatMap fun r => [(r.1, 4), (r.2, 4)]).map Prod.snd : List Nat).sum = 8 * T.length := fun T => by
  induction T with
  | nil => rfl
  | cons r rs ih => simp only [List.flatMap_cons, List.map_append, List.sum_append, ih, List.map_cons, List.map_nil, List.sum_cons, List.sum_nil, List.length_cons]; omega
 rw [List.map_append, List.sum_append, this, tabl_len]; rfl
theorem summed_len (m : List Nat) : (summed m).length = m.length + 4 := by simp [summed, tailN]
theorem encV_ok {l : St28} (h : Ok l) : encV l = (summed (bytesL l), 0) := by
 unfold encV; rw [h.bad]; rfl
theorem encV_two {l : St28} (hm : Med l) : Ok l ∨ encV l = ([], 1) := by
 rw [encV_eq hm]
 by_cases h : poolP (poolL l) ∧ okL l = true
 ·exact .inl (Ok.of hm h.1 h.2)
 ·rw [if_neg h]; exact .inr rfl
theorem bytesL_small {l : St28} (h : Ok l) (hr : l.Rules_.length ≤ 8) (hc : l.Curs_.length ≤ 105) (hk : l.Comps_.length ≤ 95) : (bytesL l).length ≤ 140000 := by
 have hh := head_len h
 have hl := (gat_len (textsL l)).1
 rw [textsL_len] at hl
 have hp := h.p
 have e1 : (putPV [] (poolL l)).1 = beN (poolL l).length 2 ++ pbytes (poolL l) := by unfold putPV; rw [if_pos hp]; simp
 have hpb := pbytes_len hp.2.1
 have hpl : (poolL l).length ≤ 318 := by unfold poolL; omega
 have g2 := i2_len (placeL l) l.Tag_ l.S_
 have g3 := i3_len (placeL l) l
 have g4 := I4_len (placeL l) l.Rules_.length l.Rules_
 have g5 := I5_len (placeL l) l.Curs_.length l.Curs_
 have g6 := I6_len (placeL l) l.Comps_.length l.Comps_
 unfold bytesL
 rw [List.length_append, hh]
 unfold secsL i2 i3 i4 i5 i6
 rw [e1]
 simp only [List.flatten_cons, List.flatten_nil, List.length_append, List.length_nil, beN_len]
 omega
/-! What a bundle's head says. -/
theorem bytesL_56 {l : St28} (h : Ok l) : (bytesL l).length = 56 + (secsL l).flatten.length := by
 unfold bytesL; rw [List.length_append, head_len h]
theorem sub_sum {T : Type} (f : T → Nat) : ∀ {xs ys : List T}, xs.Nodup → (∀ x ∈ xs, x ∈ ys) → (xs.map f).sum ≤ (ys.map f).sum
 | [], _, _, _ => Nat.zero_le _
 | x :: xs, ys, hn, hs => by
  obtain ⟨u, v, rfl⟩ := List.append_of_mem (hs x (List.mem_cons_self ..))
  rw [List.nodup_cons] at hn
  have ih := sub_sum f (xs := xs) (ys := u ++ v) hn.2 (fun y hy => by
   have h1 := hs y (List.mem_cons_of_mem _ hy)
   have hne : y ≠ x := fun e => hn.1 (by rw [← e]; exact hy)
   rcases List.mem_append.1 h1 with h2 | h2
   ·exact List.mem_append_left _ h2
   ·rcases List.mem_cons.1 h2 with h3 | h3
    ·exact absurd h3 hne
    ·exact List.mem_append_right _ h3)
  simp only [List.map_append, List.sum_append, List.map_cons, List.sum_cons] at ih ⊢
  omega
theorem pbytes_sum (p : List Tx) : (pbytes p).length = (p.map fun t => 2 + t.length).sum := by
 induction p with
 | nil => rfl
 | cons t p ih =>
  unfold pbytes at ih ⊢
  rw [List.flatMap_cons, List.length_append, ih]
  simp [beN_len]
theorem holds_eq {A C : List Nat} {t : Tx} (hl : (A ++ (t.map UInt8.toNat ++ C)).length ≤ 4000000000) : exerguelaw16_holds (up (A ++ (t.map UInt8.toNat ++ C))) t = some true := by
 unfold exerguelaw16_holds
 have hlen : (A ++ (t.map UInt8.toNat ++ C)).length = A.length + t.length + C.length := by simp; omega
 refine bind_of (fun o => o = .inr true) (loopN_run (fun s => ∃ k : Nat, s = (k : Int) ∧ k ≤ A.length) (fun s => A.length + 1 - s.toNat) _ (fun s hs => ?_) big 0 ⟨0, rfl, Nat.zero_le _⟩ (big_pos (by omega))) (fun o h => by subst h; rfl)
 obtain ⟨k, rfl, hk⟩ := hs
 rw [up_len, w64 (n := (k : Int) + (t.length : Int)) (by omega) (by omega), dT (by omega), inS_of (by omega) (by omega) (by omega)]
 simp only [cond_true]
 rw [show (k : Int) + (t.length : Int) = ((k + t.length : Nat) : Int) by omega, cut_up]
 by_cases he : bytesS (up (((A ++ (t.map UInt8.toNat ++ C)).take (k + t.length)).drop k)) = t
 ·right
  rw [tEq, dT he]
  exact ⟨_, rfl, rfl⟩
 ·left
  have hlt : k ≠ A.length := fun e => he (by
   subst e
   rw [List.drop_take, List.drop_left, Nat.add_sub_cancel_left, List.take_left' (by simp), text_of_bytes, text_back])
  rw [tEq, dF he, w64 (by omega) (by omega)]
  refine ⟨_, rfl, ⟨k + 1, by simp, by omega⟩, ?_⟩
  show A.length + 1 - ((k : Int) + 1).toNat < A.length + 1 - ((k : Int)).toNat
  omega
theorem pool_has {l : St28} (h : Ok l) {t : Tx} (ht : t ∈ textsL l) : ∃ A C, summed (bytesL l) = A ++ (t.map UInt8.toNat ++ C) := by
 have hp : t ∈ poolL l := (gat_mem _ _).2 ht
 obtain ⟨u, v, huv⟩ := List.append_of_mem hp
 have e1 : (putPV [] (poolL l)).1 = beN (poolL l).length 2 ++ pbytes (poolL l) := by unfold putPV; rw [if_pos h.p]; simp
 have e2 : pbytes (poolL l) = pbytes u ++ (beN t.length 2 ++ (t.map UInt8.toNat ++ pbytes v)) := by rw [huv]; simp [pbytes]
 have hB : bytesL l = ([69, 88, 76, 66] ++ iE (IH (tabl 56 (secsL l)))) ++ ((beN (poolL l).length 2 ++ pbytes (poolL l)) ++ (iE (i2 l) ++ (iE (i3 l) ++ (iE (i4 l) ++ (iE (i5 l) ++ (iE (i6 l) ++ [])))))) := by
  unfold bytesL
  conv => lhs; rhs; unfold secsL
  rw [e1]
  simp
 refine ⟨([69, 88, 76, 66] ++ iE (IH (tabl 56 (secsL l)))) ++ (beN (poolL l).length 2 ++ (pbytes u ++ beN t.length 2)), pbytes v ++ ((iE (i2 l) ++ (iE (i3 l) ++ (iE (i4 l) ++ (iE (i5 l) ++ (iE (i6 l) ++ []))))) ++ tailN (crcN (bytesL l))), ?_⟩
 unfold summed
 conv => lhs; lhs; rw [hB, e2]
 simp only [List.append_assoc]
def tagL (l : St28) : St28 := ⟨l.Pats_.a0_, l.S_, l.Pats_, l.Rules_, l.Curs_, l.Comps_⟩
theorem tag_sub {l : St28} : ∀ t ∈ poolL (tagL l), t ∈ poolL l := fun t ht => by
 have h1 := (gat_mem _ _).1 ht
 refine (gat_mem _ _).2 ?_
 unfold textsL at h1 ⊢
 rcases List.mem_cons.1 h1 with h1 | h1
 ·rw [h1]; exact List.mem_cons_of_mem _ (List.mem_cons_self ..)
 ·exact List.mem_cons_of_mem _ h1
theorem tag_ok {l : St28} (h : Ok l) : Ok (tagL l) := by
 refine ⟨⟨h.m.s, h.m.r, h.m.c, h.m.k⟩, ⟨?_, fun t ht => h.p.2.1 t (tag_sub t ht), gat_nodup _⟩, h.s, h.r, h.c, h.k⟩
 have := sub_sum (fun _ => 1) (xs := poolL (tagL l)) (ys := poolL l) (gat_nodup _) tag_sub
 simp only [List.map_const', List.sum_replicate_nat, Nat.mul_one] at this
 exact Nat.le_trans this h.p.1
theorem secs_sum {l : St28} (h : Ok l) : (secsL l).flatten.length = 2 + (pbytes (poolL l)).length + (30 + (8 + ((2 + 3 * l.Rules_.length) + ((2 + 5 * l.Curs_.length) + (2 + 4 * l.Comps_.length))))) := by
 have hb := h.bad
 unfold badL at hb
 simp only [Bool.or_eq_false_iff] at hb
 obtain ⟨⟨⟨⟨⟨⟨-, b2⟩, b3⟩, b4⟩, b5⟩, b6⟩, -⟩ := hb
 have e1 : (putPV [] (poolL l)).1 = beN (poolL l).length 2 ++ pbytes (poolL l) := by unfold putPV; rw [if_pos h.p]; simp
 unfold secsL
 rw [e1]
 simp only [List.flatten_cons, List.flatten_nil, List.length_append, List.length_nil, beN_len]
 rw [iE_fit b2, iE_fit b3, iE_fit b4, iE_fit b5, iE_fit b6]
 have s2 : ((i2 l).map Prod.snd).sum = 30 := rfl
 have s3 : ((i3 l).map Prod.snd).sum = 8 := rfl
 have g : ∀ {T : Type} (f : T → List (Int × Nat)) (k : Nat) (xs : List T), (∀ x, ((f x).map Prod.snd).sum = k) → ((xs.flatMap f).map Prod.snd).sum = k * xs.length := fun f k xs hf => by
  induction xs with
  | nil => rfl
  | cons x xs ih => rw [List.flatMap_cons, List.map_append, List.sum_append, ih, hf, List.length_cons, Nat.mul_add]; omega
 have s4 : ((i4 l).map Prod.snd).sum = 2 + 3 * l.Rules_.length := by
  unfold i4 I4; rw [List.map_cons, List.sum_cons, g _ 3 _ (fun _ => rfl)]
 have s5 : ((i5 l).map Prod.snd).sum = 2 + 5 * l.Curs_.length := by
  unfold i5 I5; rw [List.map_cons, List.sum_cons, g _ 5 _ (fun _ => rfl)]
 have s6 : ((i6 l).map Prod.snd).sum = 2 + 4 * l.Comps_.length := by
  unfold i6 I6; rw [List.map_cons, List.sum_cons, g _ 4 _ (fun _ => rfl)]
 rw [s2, s3, s4, s5, s6]; omega
theorem tag_len {l : St28} (h : Ok l) : (summed (bytesL (tagL l))).length ≤ (summed (bytesL l)).length := by
 rw [summed_len, summed_len, bytesL_56 h, bytesL_56 (tag_ok h), secs_sum h, secs_sum (tag_ok h), pbytes_sum, pbytes_sum]
 have := sub_sum (fun t : Tx => 2 + t.length) (xs := poolL (tagL l)) (ys := poolL l) (gat_nodup _) tag_sub
 have e1 : (tagL l).Rules_.length = l.Rules_.length := rfl
 have e2 : (tagL l).Curs_.length = l.Curs_.length := rfl
 have e3 : (tagL l).Comps_.length = l.Comps_.length := rfl
 omega
end Go.Proofs.Ythhabncebpaheaa
