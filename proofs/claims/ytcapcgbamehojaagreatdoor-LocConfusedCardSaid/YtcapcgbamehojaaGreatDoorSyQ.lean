/-
 The second shadow machine, part 19: lists that are told by native ones.
-/
import Derived.Test.YtcapcgbamehojaaGreatDoorSyP
namespace Go.Sy
open Go Go.RowKit
set_option linter.unusedSimpArgs false
set_option linter.unusedVariables false
set_option linter.unusedSectionVars false
variable [Inhabited GT]
def encI (k : IntKind) : Int → List SV := fun x => [.int k x]
def encT : List UInt8 → List SV := fun x => [.str x]
def lsv {T : Type} (enc : T → List SV) (k : Nat) (xs : List T) : SV := .lst xs.length k (xs.flatMap enc)
def encL {T : Type} (enc : T → List SV) (k : Nat) : List T → List SV := fun xs => [.lst xs.length k (xs.flatMap enc)]
def vecL {T : Type} (enc : T → List SV) (k e : Nat) (xs : List T) : Ent := .vec xs.length k e (xs.flatMap enc)
def nth {T : Type} [Inhabited T] (xs : List T) (j : Int) : T := xs.getD j.toNat default
def cut {T : Type} (xs : List T) (l h : Int) : List T := (xs.take h.toNat).drop l.toNat
def rep {T : Type} (l : Int) (z : T) : List T := List.replicate l.toNat z
def setAt {T : Type} (xs : List T) (j : Int) (y : T) : List T := xs.set j.toNat y
def over {T : Type} (xs ys : List T) : List T := ys.take xs.length ++ xs.drop ys.length
def bytesI (s : List UInt8) : List Int := s.map fun b => (b.toNat : Int)
def bytesS (xs : List Int) : List UInt8 := xs.map fun x => UInt8.ofNat x.toNat
def maxI (a b : Int) : Int := if a < b then b else a
def minI (a b : Int) : Int := if b < a then b else a
theorem nth_eq {T : Type} [Inhabited T] {xs : List T} {j : Int} (h : inR j xs.length = true) : xs[j.toNat]? = some (nth xs j) := by
 have := inR_iff.1 h
 have hl : j.toNat < xs.length := by omega
 unfold nth
 rw [List.getD_eq_getElem?_getD, List.getElem?_eq_getElem hl]; rfl
section
variable {T : Type} {enc : T → List SV} {k : Nat}
theorem flat_len (hk : ∀ x, (enc x).length = k) : ∀ xs : List T, (xs.flatMap enc).length = xs.length * k
 | [] => by simp
 | x :: xs => by rw [List.flatMap_cons, List.length_append, hk, flat_len hk xs, List.length_cons, Nat.succ_mul]; omega
theorem flat_drop (hk : ∀ x, (enc x).length = k) : ∀ (xs : List T) (n : Nat), (xs.flatMap enc).drop (n * k) = (xs.drop n).flatMap enc
 | [], n => by simp
 | x :: xs, 0 => by simp
 | x :: xs, n + 1 => by
  rw [List.flatMap_cons, List.drop_append, hk, Nat.succ_mul, List.drop_eq_nil_of_le (by rw [hk]; omega), List.nil_append]
  rw [show n * k + k - k = n * k from by omega, flat_drop hk xs n, List.drop_succ_cons]
theorem flat_take (hk : ∀ x, (enc x).length = k) : ∀ (xs : List T) (n : Nat), (xs.flatMap enc).take (n * k) = (xs.take n).flatMap enc
 | [], n => by simp
 | x :: xs, 0 => by simp
 | x :: xs, n + 1 => by
  rw [List.flatMap_cons, List.take_append, hk, Nat.succ_mul, List.take_of_length_le (by rw [hk]; omega)]
  rw [show n * k + k - k = n * k from by omega, flat_take hk xs n, List.take_succ_cons, List.flatMap_cons]
theorem flat_at [Inhabited T] (hk : ∀ x, (enc x).length = k) {xs : List T} {j : Int} (h : inR j xs.length = true) : ((xs.flatMap enc).drop (j.toNat * k)).take k = enc (nth xs j) := by
 have hn := nth_eq h
 rw [flat_drop hk]
 have hl := (List.getElem?_eq_some_iff.1 hn).1
 rw [List.drop_eq_getElem_cons hl, List.flatMap_cons, (List.getElem?_eq_some_iff.1 hn).2, ← hk (nth xs j), List.take_left]
theorem N.idx [Inhabited T] (hk : ∀ x, (enc x).length = k) {xs : List T} {j : Int} (h : inR j xs.length = true) : (⟨.ep (((xs.flatMap enc).drop (j.toNat * k)).take k), [], []⟩ : Eff) = ⟨.ep (enc (nth xs j)), [], []⟩ := by
 rw [flat_at hk h]
theorem N.slice (hk : ∀ x, (enc x).length = k) {xs : List T} {l h : Int} (hb : inS l h xs.length = true) :
  (⟨.lst (h.toNat - l.toNat) k (((xs.flatMap enc).take (h.toNat * k)).drop (l.toNat * k)), [], []⟩ : Eff) = ⟨.lst (cut xs l h).length k ((cut xs l h).flatMap enc), [], []⟩ := by
 have := inS_iff.1 hb
 rw [flat_take hk, flat_drop hk]
 have : (cut xs l h).length = h.toNat - l.toNat := by
  unfold cut; rw [List.length_drop, List.length_take]; omega
 rw [this]
 rfl
theorem N.app {v : SV} {rd : List Nat} {xs ys : List T} {i idx e : Nat} : (⟨v, rd, [(i, .gone), (idx, .vec (xs.length + ys.length) k e (xs.flatMap enc ++ ys.flatMap enc))]⟩ : Eff) = ⟨v, rd, [(i, .gone), (idx, .vec (xs ++ ys).length k e ((xs ++ ys).flatMap enc))]⟩ := by
 rw [List.length_append, List.flatMap_append]
theorem splice_at (hk : ∀ x, (enc x).length = k) {xs : List T} {j : Int} {y : T} (h : inR j xs.length = true) : splice (xs.flatMap enc) (j.toNat * k) (enc y) = (setAt xs j y).flatMap enc := by
 have hj := inR_iff.1 h
 have hl : j.toNat < xs.length := by omega
 unfold splice setAt
 rw [hk, flat_take hk, show j.toNat * k + k = (j.toNat + 1) * k from (Nat.succ_mul _ _).symm, flat_drop hk]
 rw [List.set_eq_take_append_cons_drop, if_pos hl, List.flatMap_append, List.flatMap_cons]
theorem over_eq (hk : ∀ x, (enc x).length = k) {xs ys : List T} : splice (xs.flatMap enc) 0 ((ys.flatMap enc).take (min ys.length xs.length * k)) = (over xs ys).flatMap enc := by
 unfold splice over
 rw [flat_take hk, List.take_zero, List.nil_append, Nat.zero_add, flat_len hk, List.length_take, flat_drop hk, List.flatMap_append]
 congr 1
 ·congr 1
  rw [Nat.min_comm, ← List.take_eq_take_min]
 ·congr 1
  rcases Nat.le_total ys.length xs.length with h | h
  ·congr 1; omega
  ·rw [List.drop_eq_nil_of_le (by omega), List.drop_eq_nil_of_le (by omega)]
theorem over_len {xs ys : List T} : (over xs ys).length = xs.length := by
 unfold over; rw [List.length_append, List.length_take, List.length_drop]; omega
end
theorem N.store {T : Type} {enc : T → List SV} {k : Nat} (hk : ∀ x, (enc x).length = k) {v : SV} {rd : List Nat} {i e : Nat} {xs : List T} {j : Int} {y : T} (h : inR j xs.length = true) :
  (⟨v, rd, [(i, .vec xs.length k e (splice (xs.flatMap enc) (j.toNat * k) (enc y)))]⟩ : Eff) = ⟨v, rd, [(i, vecL enc k e (setAt xs j y))]⟩ := by
 rw [splice_at hk h]
 unfold vecL setAt
 rw [List.length_set]
theorem storev_ok {T : Type} {enc : T → List SV} {k : Nat} (hk : ∀ x, (enc x).length = k) {xs : List T} {j : Int} {y : T} (h : inR j xs.length = true) : Nat.ble (j.toNat * k + (enc y).length) (xs.flatMap enc).length = true := by
 have hj := inR_iff.1 h
 rw [flat_len hk, hk, Nat.ble_eq, show j.toNat * k + k = (j.toNat + 1) * k from (Nat.succ_mul _ _).symm]
 exact Nat.mul_le_mul_right _ (by omega)
theorem N.load1 {T : Type} [Inhabited T] {enc : T → List SV} {rd : List Nat} {f : T → SV} (hk : ∀ x, (enc x).length = 1) (hf : ∀ x, enc x = [f x]) {xs : List T} {j : Int} (h : inR j xs.length = true) :
  (⟨((xs.flatMap enc).drop (j.toNat * 1)).headD .undef, rd, []⟩ : Eff) = ⟨f (nth xs j), rd, []⟩ := by
 have h1 := flat_at hk h
 rw [hf] at h1
 cases hd : (xs.flatMap enc).drop (j.toNat * 1) with
 | nil => rw [hd] at h1; simp at h1
 | cons c r => rw [hd] at h1; simp at h1; rw [h1]; rfl
theorem N.copy {T : Type} {enc : T → List SV} {k : Nat} (hk : ∀ x, (enc x).length = k) {v : SV} {rd : List Nat} {i e : Nat} {xs ys : List T} :
  (⟨v, rd, [(i, .vec xs.length k e (splice (xs.flatMap enc) 0 ((ys.flatMap enc).take (min ys.length xs.length * k))))]⟩ : Eff) = ⟨v, rd, [(i, vecL enc k e (over xs ys))]⟩ := by
 rw [over_eq hk]
 unfold vecL
 rw [over_len]
theorem encI_len (k : IntKind) (x : Int) : (encI k x).length = 1 := rfl
theorem encL_len {T : Type} (enc : T → List SV) (k : Nat) (x : List T) : (encL enc k x).length = 1 := rfl
theorem bytes_eq (s : List UInt8) : s.map byteSV = (bytesI s).flatMap (encI .u8) := by
 induction s with
 | nil => rfl
 | cons b s ih => rw [List.map_cons, bytesI, List.map_cons, List.flatMap_cons, ih]; rfl
theorem bytesI_len (s : List UInt8) : (bytesI s).length = s.length := by simp [bytesI]
theorem N.toBytes {s : List UInt8} : (⟨.lst s.length 1 (s.map byteSV), [], []⟩ : Eff) = ⟨lsv (encI .u8) 1 (bytesI s), [], []⟩ := by
 unfold lsv
 rw [bytes_eq, bytesI_len]
def runesS (xs : List Int) : List UInt8 := xs.flatMap fun x => (Utf8.encode x).data.toList
theorem allRune (xs : List Int) : (xs.flatMap (encI .i32)).all isRuneS = true := by
 induction xs with
 | nil => rfl
 | cons x xs ih => rw [List.flatMap_cons, List.all_append, ih]; rfl
theorem N.toRStr {xs : List Int} {rd : List Nat} : (⟨.str ((xs.flatMap (encI .i32)).flatMap runeB), rd, []⟩ : Eff) = ⟨.str (runesS xs), rd, []⟩ := by
 have : (xs.flatMap (encI .i32)).flatMap runeB = runesS xs := by
  unfold runesS
  induction xs with
  | nil => rfl
  | cons x xs ih => rw [List.flatMap_cons, List.flatMap_append, ih, List.flatMap_cons]; simp [encI, runeB]
 rw [this]
theorem allByte (xs : List Int) : (xs.flatMap (encI .u8)).all isByte = true := by
 induction xs with
 | nil => rfl
 | cons x xs ih => rw [List.flatMap_cons, List.all_append, ih]; rfl
theorem N.toStr {xs : List Int} {rd : List Nat} : (⟨.str ((xs.flatMap (encI .u8)).map byteOf), rd, []⟩ : Eff) = ⟨.str (bytesS xs), rd, []⟩ := by
 have : (xs.flatMap (encI .u8)).map byteOf = bytesS xs := by
  induction xs with
  | nil => rfl
  | cons x xs ih => rw [List.flatMap_cons, List.map_append, ih]; rfl
 rw [this]
section
variable {F : Fr} {P : Program} {L : LE} {H : Heap}
theorem Wk.le (t : Nat) {v v' : SV} (ht : lk L t = v) (hle : Le v v') : Wk F L H ((t, v') :: L) H := by
 intro a w hs
 obtain ⟨hd, K, D, h⟩ := hs
 refine ⟨hd, K, D, ⟨⟨h.slots.size, fun i hin => ?_, h.slots.glob⟩, h.hinv, h.grow⟩⟩
 have hr := h.slots.rep i hin
 show Rep w K D _ (lk _ i)
 simp only [lk]
 cases hb : Nat.beq i t with
 | true =>
  have := Nat.eq_of_beq_eq_true hb
  subst this
  rw [show envOf L i = lk L i from rfl, ht] at hr
  exact hle _ _ _ _ hr
 | false => exact hr
end
end Go.Sy
