/-
  The statement UtfOrder is proved: at every input the law answers true, and its input reads as it did. No conditions.
-/
import Derived.Test.YtbgebincgfpanaaG
import Derived.Test.YtbgebincgfpanaaSyU
import Derived.Test.YtbgebincgfpanaaRows
import Derived.ProofKit
import Derived.SizedLaws
namespace Go.Proofs.Ytbgebincgfpanaa
open Go Go.Sy Go.RowKit Go.ChangeShapes Go.WideShapes Go.ChangeAt
set_option linter.unusedVariables false
set_option linter.unusedSimpArgs false
set_option maxRecDepth 100000

theorem Try.own : ownKnob Try.prog.godebug = none := by kernel_rfl
theorem Try.laidOut : laidOutB Try.prog = true := by kernel_rfl

theorem listN4 {α : Type} {l : List α} (h : l.length = 4) : ∃ a0 a1 a2 a3, l = [a0, a1, a2, a3] := by
  match l, h with
  | [a0, a1, a2, a3], _ => exact ⟨a0, a1, a2, a3, rfl⟩
/-- Its numbers are numbers of their kinds, its lists no longer than memory. -/
def WfSt43 (x : St43) : Prop := (WfL (WfI .i32)) x.L_ ∧ (WfI .i32) x.A_ ∧ (WfI .i32) x.B_ ∧ (WfL (WfI .i32)) x.M_
theorem tells_T44 {n : Nat} : Tells Try.prog (n + 3) 44 encSt43 WfSt43 := fun d cs h hs => by
  have hl : cs.length = 4 := (shows_len Try.underlying44 h).trans (by kernel_rfl)
  obtain ⟨c0, c1, c2, c3, rfl⟩ := listN4 hl
  obtain ⟨p0, h0, z0⟩ := shows_field Try.underlying44 h hs 0 22 [c0] (by kernel_rfl)
  obtain ⟨x0, e0, w0⟩ : ∃ x : List Int, [c0] = (encL (encI .i32) 1) x ∧ (WfL (WfI .i32)) x := (tells_list (enc := (encI .i32)) (Wf := (WfI .i32)) Try.underlying22 (k := 1) (by kernel_rfl) (by kernel_rfl) (tells_int Try.underlying21)) p0 _ h0 z0
  obtain ⟨p1, h1, z1⟩ := shows_field Try.underlying44 h hs 1 21 [c1] (by kernel_rfl)
  obtain ⟨x1, e1, w1⟩ : ∃ x : Int, [c1] = (encI .i32) x ∧ (WfI .i32) x := (tells_int Try.underlying21) p1 _ h1 z1
  obtain ⟨p2, h2, z2⟩ := shows_field Try.underlying44 h hs 2 21 [c2] (by kernel_rfl)
  obtain ⟨x2, e2, w2⟩ : ∃ x : Int, [c2] = (encI .i32) x ∧ (WfI .i32) x := (tells_int Try.underlying21) p2 _ h2 z2
  obtain ⟨p3, h3, z3⟩ := shows_field Try.underlying44 h hs 3 22 [c3] (by kernel_rfl)
  obtain ⟨x3, e3, w3⟩ : ∃ x : List Int, [c3] = (encL (encI .i32) 1) x ∧ (WfL (WfI .i32)) x := (tells_list (enc := (encI .i32)) (Wf := (WfI .i32)) Try.underlying22 (k := 1) (by kernel_rfl) (by kernel_rfl) (tells_int Try.underlying21)) p3 _ h3 z3
  refine ⟨⟨x0, x1, x2, x3⟩, ?_, ⟨w0, w1, w2, w3⟩⟩
  show [c0] ++ [c1] ++ [c2] ++ [c3] = ((encL (encI .i32) 1) x0 ++ (encI .i32) x1 ++ (encI .i32) x2 ++ (encL (encI .i32) 1) x3)
  rw [e0, e1, e2, e3]
theorem u8w (n : Int) : IntKind.u8.wrap n = n % 256 := by
  unfold IntKind.wrap
  simp only [IntKind.signed, IntKind.bits, Bool.false_and, Bool.false_eq_true, if_false]
  rfl
theorem fin256 (p : Int → Prop) (h : ∀ k : Fin 256, p (k.val : Int)) {x : Int} (h0 : 0 ≤ x) (h1 : x < 256) : p x := by
  obtain ⟨n, rfl⟩ := Int.eq_ofNat_of_zero_le h0
  exact h ⟨n, by omega⟩
theorem and63 {x : Int} (h0 : 0 ≤ x) (h1 : x < 256) : bits .and .u8 x 63 = x % 64 := fin256 (fun x => bits .and .u8 x 63 = x % 64) (by decide +kernel) h0 h1
theorem or0 {x : Int} (h0 : 0 ≤ x) (h1 : x < 256) : bits .or .u8 0 x = x := fin256 (fun x => bits .or .u8 0 x = x) (by decide +kernel) h0 h1
theorem or128 {x : Int} (h0 : 0 ≤ x) (h1 : x < 64) : bits .or .u8 128 x = 128 + x := fin256 (fun x => x < 64 → bits .or .u8 128 x = 128 + x) (by decide +kernel) h0 (by omega) h1
theorem or192 {x : Int} (h0 : 0 ≤ x) (h1 : x < 32) : bits .or .u8 192 x = 192 + x := fin256 (fun x => x < 32 → bits .or .u8 192 x = 192 + x) (by decide +kernel) h0 (by omega) h1
theorem or224 {x : Int} (h0 : 0 ≤ x) (h1 : x < 16) : bits .or .u8 224 x = 224 + x := fin256 (fun x => x < 16 → bits .or .u8 224 x = 224 + x) (by decide +kernel) h0 (by omega) h1
theorem or240 {x : Int} (h0 : 0 ≤ x) (h1 : x < 8) : bits .or .u8 240 x = 240 + x := fin256 (fun x => x < 8 → bits .or .u8 240 x = 240 + x) (by decide +kernel) h0 (by omega) h1
theorem tl {x : Int} (h0 : 0 ≤ x) : bits .or .u8 128 (bits .and .u8 (x % 256) 63) = 128 + x % 64 := by rw [and63 (by omega) (by omega), or128 (by omega) (by omega)]; omega

def isRb (x : Int) : Bool := decide (0 ≤ x ∧ x ≤ 1114111 ∧ (x < 55296 ∨ 57343 < x))
def enc1 (x : Int) : List Int := if x < 128 then [x] else if x < 2048 then [192 + x / 64, 128 + x % 64] else if x < 65536 then [224 + x / 4096, 128 + x / 64 % 64, 128 + x % 64] else [240 + x / 262144, 128 + x / 4096 % 64, 128 + x / 64 % 64, 128 + x % 64]
def sizeN (x : Int) : Int := if isRb x then (if x < 128 then 1 else if x < 2048 then 2 else if x < 65536 then 3 else 4) else 0

theorem is_eq (x : Int) : utf_Is x = some (isRb x) := by
  unfold utf_Is isRb
  by_cases h1 : 0 ≤ x <;> by_cases h2 : x ≤ 1114111 <;> by_cases h3 : x < 55296 <;> simp [h1, h2, h3]
theorem size_eq (x : Int) : utf_Size x = some (sizeN x) := by
  unfold utf_Size sizeN
  rw [is_eq]
  cases h : isRb x
  · simp
  · by_cases h1 : x < 128 <;> by_cases h2 : x < 2048 <;> by_cases h3 : x < 65536 <;> simp [h1, h2, h3]

theorem loopN_mono {S O : Type} {step : S → Option (S ⊕ O)} {o : O} : ∀ (n : Nat) (s : S), loopN step n s = some o → ∀ m, n ≤ m → loopN step m s = some o := by
  intro n
  induction n with
  | zero => intro s h; cases h
  | succ n ih =>
    intro s h m hm
    obtain ⟨k, rfl⟩ : ∃ k, m = k + 1 := ⟨m - 1, by omega⟩
    simp only [loopN] at h ⊢
    split at h
    · cases h
    · exact h
    · exact ih _ h k (by omega)
theorem loop_big {S O : Type} {step : S → Option (S ⊕ O)} {o : O} {s : S} (n : Nat) (h : loopN step n s = some o) (hn : n ≤ 1000) : loopN step big s = some o := loopN_mono n s h _ (by unfold big; omega)

theorem fdivp {a b : Int} (hb : 0 < b) : Int.fdiv a b = a / b := Int.fdiv_eq_ediv_of_nonneg _ (by omega)

theorem lay_eq {out : List Int} {x : Int} (hr : isRb x = true) (hl : out.length ≤ 4000000) : utf_lay out x (sizeN x) = some (out ++ enc1 x) := by
  have hb : 0 ≤ x ∧ x ≤ 1114111 ∧ (x < 55296 ∨ 57343 < x) := by simpa [isRb] using hr
  unfold utf_lay sizeN enc1
  rw [hr]
  simp only [if_true]
  have rm : ∀ n : Nat, n ≤ 4000010 → room n = true := fun n h => room_of (by omega)
  by_cases h1 : x < 128
  · rw [if_pos h1, if_pos h1]
    have e1 : bits .or .u8 0 (x % 256) = x := by rw [or0 (by omega) (by omega)]; omega
    have hm : utf_mark 1 = some 0 := rfl
    have hw : IntKind.wrap .i64 (6 * IntKind.wrap .i64 (1 - 1)) = 0 := by decide
    rw [hm]
    simp only [Option.bind_some, hw]
    have hd : Int.fdiv x (2 ^ (min (0 : Int).toNat 32)) = x := by simp
    rw [hd, u8w, e1]
    have hs : sh 0 = true := by decide
    have hr1 : room (out.length + ([x] : List Int).length) = true := rm _ (by simp; omega)
    rw [hs, hr1]
    simp only [cond_true]
    rw [loop_big 1 rfl (by omega)]
    rfl
  · rw [if_neg h1, if_neg h1]
    by_cases h2 : x < 2048
    · rw [if_pos h2, if_pos h2]
      have hm : utf_mark 2 = some 192 := rfl
      have hw : IntKind.wrap .i64 (6 * IntKind.wrap .i64 (2 - 1)) = 6 := by decide
      rw [hm]
      simp only [Option.bind_some, hw]
      have hd : Int.fdiv x (2 ^ (min (6 : Int).toNat 32)) = x / 64 := fdivp (by decide)
      have e1 : bits .or .u8 192 (x / 64 % 256) = 192 + x / 64 := by rw [or192 (by omega) (by omega)]; omega
      rw [hd, u8w, e1]
      have hs : sh 6 = true := by decide
      rw [hs, rm _ (by simp; omega)]
      simp only [cond_true]
      rw [loop_big (o := out ++ [192 + x / 64] ++ [128 + x % 64]) 2 ?_ (by omega)]
      · simp
      · simp only [loopN]
        have g0 : Int.fdiv x (2 ^ (min (0 : Int).toNat 32)) = x := by simp
        have w0 : IntKind.wrap .i64 ((6 : Int) - 6) = 0 := by decide
        have s0 : sh 0 = true := by decide
        have wz : IntKind.wrap .i64 (0 : Int) = 0 := by decide
        have t0 : bits .or .u8 128 (bits .and .u8 (x % 256) 63) = 128 + x % 64 := tl (by omega)
        simp [wz, g0, u8w, t0, s0, rm (out.length + 1) (by omega), rm (out.length + 1 + 1) (by omega)]
    · rw [if_neg h2, if_neg h2]
      by_cases h3 : x < 65536
      · rw [if_pos h3, if_pos h3]
        have hm : utf_mark 3 = some 224 := rfl
        have hw : IntKind.wrap .i64 (6 * IntKind.wrap .i64 (3 - 1)) = 12 := by decide
        rw [hm]
        simp only [Option.bind_some, hw]
        have hd : Int.fdiv x (2 ^ (min (12 : Int).toNat 32)) = x / 4096 := fdivp (by decide)
        have e1 : bits .or .u8 224 (x / 4096 % 256) = 224 + x / 4096 := by rw [or224 (by omega) (by omega)]; omega
        rw [hd, u8w, e1]
        have hs : sh 12 = true := by decide
        rw [hs, rm _ (by simp; omega)]
        simp only [cond_true]
        rw [loop_big (o := out ++ [224 + x / 4096] ++ [128 + x / 64 % 64] ++ [128 + x % 64]) 3 ?_ (by omega)]
        · simp
        · simp only [loopN]
          have g0 : Int.fdiv x (2 ^ (min (0 : Int).toNat 32)) = x := by simp
          have g6 : Int.fdiv x (2 ^ (min (6 : Int).toNat 32)) = x / 64 := fdivp (by decide)
          have w0 : IntKind.wrap .i64 ((6 : Int) - 6) = 0 := by decide
          have w6 : IntKind.wrap .i64 ((12 : Int) - 6) = 6 := by decide
          have s0 : sh 0 = true := by decide
          have s6 : sh 6 = true := by decide
          simp only [w0, w6, g0, g6, u8w, tl (show 0 ≤ x by omega), tl (show 0 ≤ x / 64 by omega), s0, s6]
          have wz : IntKind.wrap .i64 (0 : Int) = 0 := by decide
          have wz6 : IntKind.wrap .i64 (6 : Int) = 6 := by decide
          have t0 : bits .or .u8 128 (bits .and .u8 (x % 256) 63) = 128 + x % 64 := tl (by omega)
          have t6 : bits .or .u8 128 (bits .and .u8 (x / 64 % 256) 63) = 128 + x / 64 % 64 := tl (by omega)
          simp [wz, wz6, g0, g6, s0, s6, u8w, t0, t6, rm (out.length + 1) (by omega), rm (out.length + 1 + 1) (by omega), rm (out.length + 1 + 1 + 1) (by omega)]
      · rw [if_neg h3, if_neg h3]
        have hm : utf_mark 4 = some 240 := rfl
        have hw : IntKind.wrap .i64 (6 * IntKind.wrap .i64 (4 - 1)) = 18 := by decide
        rw [hm]
        simp only [Option.bind_some, hw]
        have hd : Int.fdiv x (2 ^ (min (18 : Int).toNat 32)) = x / 262144 := fdivp (by decide)
        have e1 : bits .or .u8 240 (x / 262144 % 256) = 240 + x / 262144 := by rw [or240 (by omega) (by omega)]; omega
        rw [hd, u8w, e1]
        have hs : sh 18 = true := by decide
        rw [hs, rm _ (by simp; omega)]
        simp only [cond_true]
        rw [loop_big (o := out ++ [240 + x / 262144] ++ [128 + x / 4096 % 64] ++ [128 + x / 64 % 64] ++ [128 + x % 64]) 4 ?_ (by omega)]
        · simp
        · simp only [loopN]
          have g0 : Int.fdiv x (2 ^ (min (0 : Int).toNat 32)) = x := by simp
          have g6 : Int.fdiv x (2 ^ (min (6 : Int).toNat 32)) = x / 64 := fdivp (by decide)
          have g12 : Int.fdiv x (2 ^ (min (12 : Int).toNat 32)) = x / 4096 := fdivp (by decide)
          have w0 : IntKind.wrap .i64 ((6 : Int) - 6) = 0 := by decide
          have w6 : IntKind.wrap .i64 ((12 : Int) - 6) = 6 := by decide
          have w12 : IntKind.wrap .i64 ((18 : Int) - 6) = 12 := by decide
          have s0 : sh 0 = true := by decide
          have s6 : sh 6 = true := by decide
          have s12 : sh 12 = true := by decide
          simp only [w0, w6, w12, g0, g6, g12, u8w, tl (show 0 ≤ x by omega), tl (show 0 ≤ x / 64 by omega), tl (show 0 ≤ x / 4096 by omega), s0, s6, s12]
          have wz : IntKind.wrap .i64 (0 : Int) = 0 := by decide
          have wz6 : IntKind.wrap .i64 (6 : Int) = 6 := by decide
          have wz12 : IntKind.wrap .i64 (12 : Int) = 12 := by decide
          have t0 : bits .or .u8 128 (bits .and .u8 (x % 256) 63) = 128 + x % 64 := tl (by omega)
          have t6 : bits .or .u8 128 (bits .and .u8 (x / 64 % 256) 63) = 128 + x / 64 % 64 := tl (by omega)
          have t12 : bits .or .u8 128 (bits .and .u8 (x / 4096 % 256) 63) = 128 + x / 4096 % 64 := tl (by omega)
          have d64 : Int.fdiv x 64 = x / 64 := fdivp (by decide)
          simp [d64, wz, wz6, wz12, g0, g6, g12, s0, s6, s12, u8w, t0, t6, t12, rm (out.length + 1) (by omega), rm (out.length + 1 + 1) (by omega), rm (out.length + 1 + 1 + 1) (by omega), rm (out.length + 1 + 1 + 1 + 1) (by omega)]

theorem enc1_len (x : Int) : (enc1 x).length ≤ 4 := by
  unfold enc1; split; simp; split; simp; split <;> simp

def encL1 (xs : List Int) : List Int := xs.flatMap enc1
theorem encL1_len (xs : List Int) : (encL1 xs).length ≤ 4 * xs.length := by
  induction xs with
  | nil => simp [encL1]
  | cons x xs ih =>
    have := enc1_len x
    simp only [encL1, List.flatMap_cons, List.length_append, List.length_cons] at ih ⊢
    omega

theorem encode_eq {xs : List Int} (hl : xs.length ≤ 900000) : utf_Encode xs = some (if xs.all isRb then (encL1 xs, 0) else ([], 3)) := by
  unfold utf_Encode
  generalize hst : (fun (s63 : Int × (List Int)) => ((bif (decide (s63.1 < (xs.length : Int))) then (bif inR s63.1 xs.length then (Option.bind (utf_Size (nth xs s63.1)) fun y106 => (bif (decide (y106 = 0)) then (some (.inr (.inr (([] : List Int), 3)))) else (Option.bind (utf_lay s63.2 (nth xs s63.1) y106) fun y115 => (some (.inl ((IntKind.wrap .i64 (s63.1 + 1)), y115)))))) else none) else (some (.inr (.inl s63.2)))) : Option ((Int × (List Int)) ⊕ ((List Int) ⊕ ((List Int) × Int))))) = step
  obtain ⟨o, h1, h2⟩ := loopN_run (step := step)
    (fun s => ∃ i : Nat, s.1 = i ∧ i ≤ xs.length ∧ (xs.take i).all isRb = true ∧ s.2 = encL1 (xs.take i)) (fun s => xs.length - s.1.toNat)
    (fun o => match o with
      | .inl t => xs.all isRb = true ∧ t = encL1 xs
      | .inr t => xs.all isRb = false ∧ t = ([], 3)) (fun s hs => by
      obtain ⟨s1, out⟩ := s
      obtain ⟨i, hi0, hi, ha, ho⟩ := hs
      simp only at hi0 ho
      subst hi0; subst ho; subst hst
      simp only
      rcases Nat.lt_or_ge i xs.length with h | h
      · rw [dT (show (i : Int) < xs.length by omega), inR_nat h, nth_nat h, size_eq]
        simp only [cond_true, Option.bind_some]
        cases hr : isRb xs[i] with
        | false =>
          refine .inr ⟨.inr ([], 3), by simp [sizeN, hr], ?_, rfl⟩
          rw [Bool.eq_false_iff]
          intro hall
          have := List.all_eq_true.1 hall xs[i] (List.getElem_mem h)
          rw [hr] at this; cases this
        | true =>
          have hne : sizeN xs[i] ≠ 0 := by
            unfold sizeN; rw [hr]; simp only [if_true]; split; omega; split; omega; split <;> omega
          have hlen : (encL1 (xs.take i)).length ≤ 4000000 := by
            have := encL1_len (xs.take i)
            rw [List.length_take] at this; omega
          refine .inl ⟨((i : Int) + 1, encL1 (xs.take i) ++ enc1 xs[i]), ?_, ⟨i + 1, by simp, by omega, ?_, ?_⟩, by simp only; omega⟩
          · rw [dF hne, lay_eq hr hlen]
            simp only [cond_false, Option.bind_some]
            rw [w64 (by omega) (by omega)]
          · rw [List.take_succ_eq_append_getElem h, List.all_append, ha]; simp [hr]
          · rw [List.take_succ_eq_append_getElem h]; unfold encL1; rw [List.flatMap_append]; simp
      · refine .inr ⟨.inl (encL1 (xs.take i)), by rw [dF (by omega)]; rfl, ?_, ?_⟩
        · rw [List.take_of_length_le h] at ha; exact ha
        · rw [List.take_of_length_le h]) big (0, []) ⟨0, rfl, by omega, rfl, rfl⟩ (big_pos (by simp only; omega))
  rw [h1]
  cases o with
  | inl t =>
    obtain ⟨h3, rfl⟩ := h2
    simp only [Option.bind_some, joinX]
    rw [h3]; rfl
  | inr t =>
    obtain ⟨h3, rfl⟩ := h2
    simp only [Option.bind_some, joinX]
    rw [h3]; rfl

theorem less_prefix : ∀ (p x y : List UInt8), Op.bytesLess (p ++ x) (p ++ y) = Op.bytesLess x y
  | [], x, y => rfl
  | a :: p, x, y => by
    simp only [List.cons_append, Op.bytesLess]
    rw [less_prefix p x y]
    simp

theorem bytesS_app (x y : List Int) : bytesS (x ++ y) = bytesS x ++ bytesS y := by simp [bytesS]

theorem u8lt {a b : Int} (h0 : 0 ≤ a) (hab : a < b) (hb : b < 256) : UInt8.ofNat a.toNat < UInt8.ofNat b.toNat := by
  rw [UInt8.lt_iff_toNat_lt]
  simp only [UInt8.toNat_ofNat']
  omega

theorem less_cons {a b : Int} {x y : List UInt8} (h : a < b ∧ 0 ≤ a ∧ b < 256 ∨ a = b ∧ Op.bytesLess x y = true) : Op.bytesLess (UInt8.ofNat a.toNat :: x) (UInt8.ofNat b.toNat :: y) = true := by
  simp only [Op.bytesLess]
  rcases h with ⟨h1, h2, h3⟩ | ⟨rfl, h⟩
  · have := u8lt h2 h1 h3
    simp [this]
  · simp [h]

theorem enc1_less {a b : Int} (ha : isRb a = true) (hb : isRb b = true) (h : a < b) (z : List UInt8) : Op.bytesLess (bytesS (enc1 a)) (bytesS (enc1 b) ++ z) = true := by
  have ha : 0 ≤ a ∧ a ≤ 1114111 ∧ (a < 55296 ∨ 57343 < a) := by simpa [isRb] using ha
  have hb : 0 ≤ b ∧ b ≤ 1114111 ∧ (b < 55296 ∨ 57343 < b) := by simpa [isRb] using hb
  have fin : ∀ (a b : Int) (x y : List UInt8), a < b ∧ 0 ≤ a ∧ b < 256 ∨ a = b ∧ Op.bytesLess x y = true → Op.bytesLess (UInt8.ofNat a.toNat :: x) (UInt8.ofNat b.toNat :: y) = true := fun a b x y => less_cons
  unfold enc1
  by_cases a1 : a < 128 <;> by_cases a2 : a < 2048 <;> by_cases a3 : a < 65536 <;> by_cases b1 : b < 128 <;> by_cases b2 : b < 2048 <;> by_cases b3 : b < 65536 <;> first
    | (exfalso; omega)
    | (simp only [a1, a2, a3, b1, b2, b3, if_true, if_false, bytesS, List.map_cons, List.map_nil, List.cons_append, List.nil_append]
       first
         | exact fin _ _ _ _ (.inl ⟨by omega, by omega, by omega⟩)
         | skip)
  · by_cases q : a / 64 < b / 64
    · exact fin _ _ _ _ (.inl ⟨by omega, by omega, by omega⟩)
    · exact fin _ _ _ _ (.inr ⟨by omega, fin _ _ _ _ (.inl ⟨by omega, by omega, by omega⟩)⟩)
  · by_cases q : a / 4096 < b / 4096
    · exact fin _ _ _ _ (.inl ⟨by omega, by omega, by omega⟩)
    · by_cases q2 : a / 64 < b / 64
      · exact fin _ _ _ _ (.inr ⟨by omega, fin _ _ _ _ (.inl ⟨by omega, by omega, by omega⟩)⟩)
      · exact fin _ _ _ _ (.inr ⟨by omega, fin _ _ _ _ (.inr ⟨by omega, fin _ _ _ _ (.inl ⟨by omega, by omega, by omega⟩)⟩)⟩)
  · by_cases q : a / 262144 < b / 262144
    · exact fin _ _ _ _ (.inl ⟨by omega, by omega, by omega⟩)
    · by_cases q1 : a / 4096 < b / 4096
      · exact fin _ _ _ _ (.inr ⟨by omega, fin _ _ _ _ (.inl ⟨by omega, by omega, by omega⟩)⟩)
      · by_cases q2 : a / 64 < b / 64
        · exact fin _ _ _ _ (.inr ⟨by omega, fin _ _ _ _ (.inr ⟨by omega, fin _ _ _ _ (.inl ⟨by omega, by omega, by omega⟩)⟩)⟩)
        · exact fin _ _ _ _ (.inr ⟨by omega, fin _ _ _ _ (.inr ⟨by omega, fin _ _ _ _ (.inr ⟨by omega, fin _ _ _ _ (.inl ⟨by omega, by omega, by omega⟩)⟩)⟩)⟩)

theorem same1_eq {xs ys : List Int} (h : xs.length ≤ 4611686018427387904) (h' : ys.length ≤ 4611686018427387904) : exergueref01_Same xs ys = some (decide (xs = ys)) := by
  unfold exergueref01_Same
  by_cases hl : xs.length = ys.length
  · rw [dF (by omega), same_loop hl h]
    by_cases he : xs = ys
    · rw [if_pos he, dT he]; rfl
    · rw [if_neg he, dF he]; rfl
  · rw [dT (by omega), dF (fun e => hl (by rw [e]))]; rfl

theorem shown_eq : exerguelaw01_shown = some true := by kernel_rfl

theorem Order_true (x : St43) (w : WfSt43 x) : exerguelaw01_UtfOrder x = some true := by
  obtain ⟨l, a, b, m⟩ := x
  obtain ⟨⟨wl, _⟩, wa, wb, ⟨wm, _⟩⟩ := w
  simp only at wl wm
  have e0 : IntKind.wrap .i64 ((l.length : Int) + m.length) = l.length + m.length := w64 (by omega) (by omega)
  unfold exerguelaw01_UtfOrder
  rw [shown_eq]
  simp only [Option.bind_some, e0]
  by_cases h1 : l.length + m.length > 500
  · rw [dT (by omega)]; rfl
  · rw [dF (by omega)]
    simp only [cond_false, Option.bind_some]
    by_cases h2 : a ≥ b
    · rw [dT h2]; rfl
    · rw [dF h2]
      simp only [cond_false, Option.bind_some, joinX]
      have r1 : room l.length = true := room_of (by omega)
      have r2 : room (l.length + ([a] : List Int).length) = true := room_of (by simp; omega)
      have r3 : room (l.length + ([b] : List Int).length) = true := room_of (by simp; omega)
      have r4 : room ((l ++ ([b] : List Int)).length + m.length) = true := room_of (by simp; omega)
      rw [r1, r2, r3, r4, encode_eq (by simp; omega), encode_eq (by simp; omega), same1_eq (by omega) (by omega)]
      simp only [cond_true, Option.bind_some]
      cases hA : (l ++ [a]).all isRb with
      | false => simp
      | true =>
        cases hB : (l ++ [b] ++ m).all isRb with
        | false => simp
        | true =>
          have ha : isRb a = true := List.all_eq_true.1 hA a (by simp)
          have hb : isRb b = true := List.all_eq_true.1 hB b (by simp)
          have hlt : Op.bytesLess (bytesS (encL1 (l ++ [a]))) (bytesS (encL1 (l ++ [b] ++ m))) = true := by
            have q1 : encL1 (l ++ [a]) = encL1 l ++ enc1 a := by simp [encL1]
            have q2 : encL1 (l ++ [b] ++ m) = encL1 l ++ (enc1 b ++ encL1 m) := by simp [encL1]
            rw [q1, q2, bytesS_app, bytesS_app, bytesS_app, less_prefix]
            exact enc1_less ha hb (by omega) _
          have hlt' : Op.bytesLess (bytesS (encL1 (l ++ [a]))) (bytesS (encL1 (l ++ b :: m))) = true := by simpa using hlt
          simp [hlt']

set_option maxRecDepth 100000 in
theorem UtfOrder_lifted (os : Os) (started : os.Started) (H : Type) (enc : TypeId × Value → H) :
    ReturnsInHanded {} Try.checked os 9 .any (Rows.utfOrderSpec.pre6 enc Try.prog Try.f9 Rows.utfOrderRow.domain false) (Rows.utfOrderSpec.post enc Try.prog Try.f9 false true false false) := by
  refine returnsInHanded_of_change_sized (C := Try.checked) Try.own started (by kernel_rfl) Try.func9
    (ChangeSpec.witness6 (enc := enc) (C := Try.checked) false ⟨#[], #[.agg #[.slice none 0 0, .int .i32 0, .int .i32 0, .slice none 0 0]], []⟩ 8 (by kernel_rfl) (by kernel_rfl) (by kernel_rfl) (by kernel_rfl)) ?_
  intro W base args ds gs before hval0 hW _ hsz0 _
  have hsz : (DataW.weightsEach Try.prog (Try.f9.params.toList ++ Rows.utfOrderSpec.plain.varTypes Try.prog) (ds ++ gs)).all (· ≤ reachBytes) = true := hsz0
  clear hsz0
  refine law_post (P := Try.prog) (n := 3) (tb := 4) Try.laidOut Try.underlying4 rfl rfl (by kernel_rfl) (fun h => ?_) hval0 hW ?_
  · rw [Try.params9] at h
    obtain ⟨d0, rfl⟩ := l1 h
    exact ⟨rfl, rfl, rfl⟩
  · intro ss hg hl1 hl2 hs
    subst hg
    rw [Try.params9] at hl1 hl2 hs hsz
    obtain ⟨d0, rfl⟩ := l1 hl1
    obtain ⟨s0, rfl⟩ := l1 hl2
    obtain ⟨cs0, rfl, hc0⟩ := showsV_struct Try.underlying44 (hs 0 44 _ _ rfl rfl rfl)
    obtain ⟨a0, rfl, w0⟩ := tells_T44 (n := 0) _ _ hc0 (sized_param hsz (j := 0) rfl rfl)
    exact ⟨[], exerguelaw01_UtfOrder_ok (Order_true a0 w0)⟩
theorem UtfOrder_holds : Rows.UtfOrderSaid :=
  OpenClaim.holds_of_wide 9 Try.f9 rfl rfl rfl rfl rfl rfl rfl ⟨rfl, rfl, rfl, rfl, rfl⟩ rfl rfl rfl rfl rfl (by kernel_rfl) Try.func9 (by kernel_rfl)
    (of_decide_eq_true (by kernel_rfl)) (by unfold Func.isWrapper; first | (rw [if_pos (by decide +kernel)]; kernel_rfl) | (rw [if_neg (by decide +kernel)]; exact ⟨rfl, rfl⟩))
    (fun os started H enc _ => UtfOrder_lifted os started H enc)

end Go.Proofs.Ytbgebincgfpanaa
