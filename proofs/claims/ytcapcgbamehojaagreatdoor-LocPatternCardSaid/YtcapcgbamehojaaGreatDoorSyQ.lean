/-
 The second shadow machine, part 19: lists that are told by native ones.
-/
import Derived.Test.YtcapcgbamehojaaGreatDoorSyP
namespace Go.Sy
open Go Go.RowKit
set_option linter.unusedSimpArgs false
set_option linter.unusedVariables false
set_option linter.unusedSectionVars false
variable [Inhabited GT]
def a0r (k : IntKind) : Int → List SV := fun x => [.int k x]
def A0i : Bool → List SV := fun x => [.bool x]
def z0H : List UInt8 → List SV := fun x => [.str x]
def lsv {T : Type} (enc : T → List SV) (k : Nat) (xs : List T) : SV := .lst xs.length k (xs.flatMap enc)
def l0g {T : Type} (enc : T → List SV) (k : Nat) : List T → List SV := fun xs => [.lst xs.length k (xs.flatMap enc)]
def a0D {T : Type} (enc : T → List SV) (k e : Nat) (xs : List T) : Ent := .vec xs.length k e (xs.flatMap enc)
def nth {T : Type} [Inhabited T] (xs : List T) (j : Int) : T := xs.getD j.toNat default
def cut {T : Type} (xs : List T) (l h : Int) : List T := (xs.take h.toNat).drop l.toNat
def rep {T : Type} (l : Int) (z : T) : List T := List.replicate l.toNat z
def m0F {T : Type} (xs : List T) (j : Int) (y : T) : List T := xs.set j.toNat y
def u0o {T : Type} (xs ys : List T) : List T := ys.take xs.length ++ xs.drop ys.length
def b0j (s : List UInt8) : List Int := s.map fun b => (b.toNat : Int)
def a0n (xs : List Int) : List UInt8 := xs.map fun x => UInt8.ofNat x.toNat
def s0a (a b : Int) : Int := if a < b then b else a
def z0A (a b : Int) : Int := if b < a then b else a
theorem y0S {T : Type} [Inhabited T] {xs : List T} {j : Int} (h : inR j xs.length = true) : xs[j.toNat]? = some (nth xs j) := by
 have := e0T.1 h
 have hl : j.toNat < xs.length := by omega
 unfold nth
 rw [av, ac hl]; rfl
section
variable {T : Type} {enc : T → List SV} {k : Nat}
theorem m0p (hk : ∀ x, (enc x).length = k) : ∀ xs : List T, (xs.flatMap enc).length = xs.length * k
 | [] => by simp
 | x :: xs => by rw [aE, ag, hk, m0p hk xs, bd, bF]; omega
theorem j0a (hk : ∀ x, (enc x).length = k) : ∀ (xs : List T) (n : Nat), (xs.flatMap enc).drop (n * k) = (xs.drop n).flatMap enc
 | [], n => by simp
 | x :: xs, 0 => by simp
 | x :: xs, n + 1 => by
  rw [aE, cy, hk, bF, bc (by rw [hk]; omega), bu]
  rw [show n * k + k - k = n * k from by omega, j0a hk xs n, List.drop_succ_cons]
theorem l0c (hk : ∀ x, (enc x).length = k) : ∀ (xs : List T) (n : Nat), (xs.flatMap enc).take (n * k) = (xs.take n).flatMap enc
 | [], n => by simp
 | x :: xs, 0 => by simp
 | x :: xs, n + 1 => by
  rw [aE, List.take_append, hk, bF, List.take_of_length_le (by rw [hk]; omega)]
  rw [show n * k + k - k = n * k from by omega, l0c hk xs n, List.take_succ_cons, aE]
theorem r0q [Inhabited T] (hk : ∀ x, (enc x).length = k) {xs : List T} {j : Int} (h : inR j xs.length = true) : ((xs.flatMap enc).drop (j.toNat * k)).take k = enc (nth xs j) := by
 have hn := y0S h
 rw [j0a hk]
 have hl := (ab.1 hn).1
 rw [bk hl, aE, (ab.1 hn).2, ← hk (nth xs j), List.take_left]
theorem N.idx [Inhabited T] (hk : ∀ x, (enc x).length = k) {xs : List T} {j : Int} (h : inR j xs.length = true) : (⟨.ep (((xs.flatMap enc).drop (j.toNat * k)).take k), [], []⟩ : Eff) = ⟨.ep (enc (nth xs j)), [], []⟩ := by
 rw [r0q hk h]
theorem N.slice (hk : ∀ x, (enc x).length = k) {xs : List T} {l h : Int} (hb : inS l h xs.length = true) :
  (⟨.lst (h.toNat - l.toNat) k (((xs.flatMap enc).take (h.toNat * k)).drop (l.toNat * k)), [], []⟩ : Eff) = ⟨.lst (cut xs l h).length k ((cut xs l h).flatMap enc), [], []⟩ := by
 have := n0j.1 hb
 rw [l0c hk, j0a hk]
 have : (cut xs l h).length = h.toNat - l.toNat := by
  unfold cut; rw [aW, aH]; omega
 rw [this]
 rfl
theorem N.app {v : SV} {rd : List Nat} {xs ys : List T} {i idx e : Nat} : (⟨v, rd, [(i, .gone), (idx, .vec (xs.length + ys.length) k e (xs.flatMap enc ++ ys.flatMap enc))]⟩ : Eff) = ⟨v, rd, [(i, .gone), (idx, .vec (xs ++ ys).length k e ((xs ++ ys).flatMap enc))]⟩ := by
 rw [ag, br]
theorem t0J (hk : ∀ x, (enc x).length = k) {xs : List T} {j : Int} {y : T} (h : inR j xs.length = true) : splice (xs.flatMap enc) (j.toNat * k) (enc y) = (m0F xs j y).flatMap enc := by
 have hj := e0T.1 h
 have hl : j.toNat < xs.length := by omega
 unfold splice m0F
 rw [hk, l0c hk, show j.toNat * k + k = (j.toNat + 1) * k from (bF _ _).symm, j0a hk]
 rw [List.set_eq_take_append_cons_drop, if_pos hl, br, aE]
theorem x0M (hk : ∀ x, (enc x).length = k) {xs ys : List T} : splice (xs.flatMap enc) 0 ((ys.flatMap enc).take (min ys.length xs.length * k)) = (u0o xs ys).flatMap enc := by
 unfold splice u0o
 rw [l0c hk, List.take_zero, bu, aU, m0p hk, aH, j0a hk, br]
 congr 1
 ·congr 1
  rw [Nat.min_comm, ← List.take_eq_take_min]
 ·congr 1
  rcases Nat.le_total ys.length xs.length with h | h
  ·congr 1; omega
  ·rw [bc (by omega), bc (by omega)]
theorem w0p {xs ys : List T} : (u0o xs ys).length = xs.length := by
 unfold u0o; rw [ag, aH, aW]; omega
end
theorem N.store {T : Type} {enc : T → List SV} {k : Nat} (hk : ∀ x, (enc x).length = k) {v : SV} {rd : List Nat} {i e : Nat} {xs : List T} {j : Int} {y : T} (h : inR j xs.length = true) :
  (⟨v, rd, [(i, .vec xs.length k e (splice (xs.flatMap enc) (j.toNat * k) (enc y)))]⟩ : Eff) = ⟨v, rd, [(i, a0D enc k e (m0F xs j y))]⟩ := by
 rw [t0J hk h]
 unfold a0D m0F
 rw [List.length_set]
theorem t0F {T : Type} {enc : T → List SV} {k : Nat} (hk : ∀ x, (enc x).length = k) {xs : List T} {j : Int} {y : T} (h : inR j xs.length = true) : Nat.ble (j.toNat * k + (enc y).length) (xs.flatMap enc).length = true := by
 have hj := e0T.1 h
 rw [m0p hk, hk, Nat.ble_eq, show j.toNat * k + k = (j.toNat + 1) * k from (bF _ _).symm]
 exact aQ _ (by omega)
theorem h0U {T : Type} {enc : T → List SV} {k : Nat} (hk : ∀ x, (enc x).length = k) (hk0 : k = 1) {xs : List T} {j : Int} (h : inR j xs.length = true) : Nat.blt (j.toNat * k) (xs.flatMap enc).length = true := by
 have hj := e0T.1 h
 subst hk0
 rw [m0p hk, Nat.blt_eq]
 omega
theorem N.load1 {T : Type} [Inhabited T] {enc : T → List SV} {rd : List Nat} {f : T → SV} (hk : ∀ x, (enc x).length = 1) (hf : ∀ x, enc x = [f x]) {xs : List T} {j : Int} (h : inR j xs.length = true) :
  (⟨((xs.flatMap enc).drop (j.toNat * 1)).headD .undef, rd, []⟩ : Eff) = ⟨f (nth xs j), rd, []⟩ := by
 have h1 := r0q hk h
 rw [hf] at h1
 cases hd : (xs.flatMap enc).drop (j.toNat * 1) with
 | nil => rw [hd] at h1; simp at h1
 | cons c r => rw [hd] at h1; simp at h1; rw [h1]; rfl
theorem N.copy {T : Type} {enc : T → List SV} {k : Nat} (hk : ∀ x, (enc x).length = k) {v : SV} {rd : List Nat} {i e : Nat} {xs ys : List T} :
  (⟨v, rd, [(i, .vec xs.length k e (splice (xs.flatMap enc) 0 ((ys.flatMap enc).take (min ys.length xs.length * k))))]⟩ : Eff) = ⟨v, rd, [(i, a0D enc k e (u0o xs ys))]⟩ := by
 rw [x0M hk]
 unfold a0D
 rw [w0p]
theorem a0p (k : IntKind) (x : Int) : (a0r k x).length = 1 := rfl
theorem d0r (x : Bool) : (A0i x).length = 1 := rfl
theorem m0r {T : Type} (enc : T → List SV) (k : Nat) (x : List T) : (l0g enc k x).length = 1 := rfl
theorem m0t (s : List UInt8) : s.map g0z = (b0j s).flatMap (a0r .u8) := by
 induction s with
 | nil => rfl
 | cons b s ih => rw [ah, b0j, ah, aE, ih]; rfl
theorem f0v (s : List UInt8) : (b0j s).length = s.length := by simp [b0j]
theorem N.toBytes {s : List UInt8} : (⟨.lst s.length 1 (s.map g0z), [], []⟩ : Eff) = ⟨lsv (a0r .u8) 1 (b0j s), [], []⟩ := by
 unfold lsv
 rw [m0t, f0v]
def l0N (xs : List Int) : List UInt8 := xs.flatMap fun x => (Utf8.encode x).data.toList
theorem y0x (xs : List Int) : (xs.flatMap (a0r .i32)).all i0Y = true := by
 induction xs with
 | nil => rfl
 | cons x xs ih => rw [aE, aO, ih]; rfl
theorem N.toRStr {xs : List Int} {rd : List Nat} : (⟨.str ((xs.flatMap (a0r .i32)).flatMap runeB), rd, []⟩ : Eff) = ⟨.str (l0N xs), rd, []⟩ := by
 have : (xs.flatMap (a0r .i32)).flatMap runeB = l0N xs := by
  unfold l0N
  induction xs with
  | nil => rfl
  | cons x xs ih => rw [aE, br, ih, aE]; simp [a0r, runeB]
 rw [this]
theorem v0B (xs : List Int) : (xs.flatMap (a0r .u8)).all k0Y = true := by
 induction xs with
 | nil => rfl
 | cons x xs ih => rw [aE, aO, ih]; rfl
theorem N.toStr {xs : List Int} {rd : List Nat} : (⟨.str ((xs.flatMap (a0r .u8)).map byteOf), rd, []⟩ : Eff) = ⟨.str (a0n xs), rd, []⟩ := by
 have : (xs.flatMap (a0r .u8)).map byteOf = a0n xs := by
  induction xs with
  | nil => rfl
  | cons x xs ih => rw [aE, cC, ih]; rfl
 rw [this]
section
variable {F : Fr} {P : Program} {L : LE} {H : a0l}
theorem Wk.le (t : Nat) {v v' : SV} (ht : lk L t = v) (hle : Le v v') : Wk F L H ((t, v') :: L) H := by
 intro a w hs
 obtain ⟨hd, K, D, h⟩ := hs
 refine ⟨hd, K, D, ⟨⟨h.slots.size, fun i hin => ?_, h.slots.glob⟩, h.hinv, h.grow⟩⟩
 have hr := h.slots.rep i hin
 show Rep w K D _ (lk _ i)
 simp only [lk]
 cases hb : Nat.beq i t with
 | true =>
  have := af hb
  subst this
  rw [show b0m L i = lk L i from rfl, ht] at hr
  exact hle _ _ _ _ hr
 | false => exact hr
end
end Go.Sy
