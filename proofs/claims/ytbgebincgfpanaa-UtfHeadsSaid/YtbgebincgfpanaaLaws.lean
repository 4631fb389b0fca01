/-
  The statements UtfOrder and UtfHeads are proved: at every input the law answers true, and its input reads as it did. No conditions.
-/
import Derived.Test.YtbgebincgfpanaaG
import Derived.Test.YtbgebincgfpanaaSyU
import Derived.Test.YtbgebincgfpanaaRows
import Derived.ProofKit
import Derived.SizedLaws
namespace Go.Proofs.Ytbgebincgfpanaa
open Go Go.Sy Go.RowKit Go.ChangeShapes Go.WideShapes Go.ChangeAt
set_option linter.unusedVariables false
set_option linter.unusedSimpArgs false
set_option maxRecDepth 100000

theorem Try.own : ownKnob Try.prog.godebug = none := by kernel_rfl
theorem Try.laidOut : laidOutB Try.prog = true := by kernel_rfl

theorem listN4 {α : Type} {l : List α} (h : l.length = 4) : ∃ a0 a1 a2 a3, l = [a0, a1, a2, a3] := by
  match l, h with
  | [a0, a1, a2, a3], _ => exact ⟨a0, a1, a2, a3, rfl⟩
/-- Its numbers are numbers of their kinds, its lists no longer than memory. -/
def WfSt43 (x : St43) : Prop := (WfL (WfI .i32)) x.L_ ∧ (WfI .i32) x.A_ ∧ (WfI .i32) x.B_ ∧ (WfL (WfI .i32)) x.M_
theorem tells_T44 {n : Nat} : Tells Try.prog (n + 3) 44 encSt43 WfSt43 := fun d cs h hs => by
  have hl : cs.length = 4 := (shows_len Try.underlying44 h).trans (by kernel_rfl)
  obtain ⟨c0, c1, c2, c3, rfl⟩ := listN4 hl
  obtain ⟨p0, h0, z0⟩ := shows_field Try.underlying44 h hs 0 22 [c0] (by kernel_rfl)
  obtain ⟨x0, e0, w0⟩ : ∃ x : List Int, [c0] = (encL (encI .i32) 1) x ∧ (WfL (WfI .i32)) x := (tells_list (enc := (encI .i32)) (Wf := (WfI .i32)) Try.underlying22 (k := 1) (by kernel_rfl) (by kernel_rfl) (tells_int Try.underlying21)) p0 _ h0 z0
  obtain ⟨p1, h1, z1⟩ := shows_field Try.underlying44 h hs 1 21 [c1] (by kernel_rfl)
  obtain ⟨x1, e1, w1⟩ : ∃ x : Int, [c1] = (encI .i32) x ∧ (WfI .i32) x := (tells_int Try.underlying21) p1 _ h1 z1
  obtain ⟨p2, h2, z2⟩ := shows_field Try.underlying44 h hs 2 21 [c2] (by kernel_rfl)
  obtain ⟨x2, e2, w2⟩ : ∃ x : Int, [c2] = (encI .i32) x ∧ (WfI .i32) x := (tells_int Try.underlying21) p2 _ h2 z2
  obtain ⟨p3, h3, z3⟩ := shows_field Try.underlying44 h hs 3 22 [c3] (by kernel_rfl)
  obtain ⟨x3, e3, w3⟩ : ∃ x : List Int, [c3] = (encL (encI .i32) 1) x ∧ (WfL (WfI .i32)) x := (tells_list (enc := (encI .i32)) (Wf := (WfI .i32)) Try.underlying22 (k := 1) (by kernel_rfl) (by kernel_rfl) (tells_int Try.underlying21)) p3 _ h3 z3
  refine ⟨⟨x0, x1, x2, x3⟩, ?_, ⟨w0, w1, w2, w3⟩⟩
  show [c0] ++ [c1] ++ [c2] ++ [c3] = ((encL (encI .i32) 1) x0 ++ (encI .i32) x1 ++ (encI .i32) x2 ++ (encL (encI .i32) 1) x3)
  rw [e0, e1, e2, e3]
theorem u8w (n : Int) : IntKind.u8.wrap n = n % 256 := by
  unfold IntKind.wrap
  simp only [IntKind.signed, IntKind.bits, Bool.false_and, Bool.false_eq_true, if_false]
  rfl
theorem fin256 (p : Int → Prop) (h : ∀ k : Fin 256, p (k.val : Int)) {x : Int} (h0 : 0 ≤ x) (h1 : x < 256) : p x := by
  obtain ⟨n, rfl⟩ := Int.eq_ofNat_of_zero_le h0
  exact h ⟨n, by omega⟩
theorem and63 {x : Int} (h0 : 0 ≤ x) (h1 : x < 256) : bits .and .u8 x 63 = x % 64 := fin256 (fun x => bits .and .u8 x 63 = x % 64) (by decide +kernel) h0 h1
theorem or0 {x : Int} (h0 : 0 ≤ x) (h1 : x < 256) : bits .or .u8 0 x = x := fin256 (fun x => bits .or .u8 0 x = x) (by decide +kernel) h0 h1
theorem or128 {x : Int} (h0 : 0 ≤ x) (h1 : x < 64) : bits .or .u8 128 x = 128 + x := fin256 (fun x => x < 64 → bits .or .u8 128 x = 128 + x) (by decide +kernel) h0 (by omega) h1
theorem or192 {x : Int} (h0 : 0 ≤ x) (h1 : x < 32) : bits .or .u8 192 x = 192 + x := fin256 (fun x => x < 32 → bits .or .u8 192 x = 192 + x) (by decide +kernel) h0 (by omega) h1
theorem or224 {x : Int} (h0 : 0 ≤ x) (h1 : x < 16) : bits .or .u8 224 x = 224 + x := fin256 (fun x => x < 16 → bits .or .u8 224 x = 224 + x) (by decide +kernel) h0 (by omega) h1
theorem or240 {x : Int} (h0 : 0 ≤ x) (h1 : x < 8) : bits .or .u8 240 x = 240 + x := fin256 (fun x => x < 8 → bits .or .u8 240 x = 240 + x) (by decide +kernel) h0 (by omega) h1
theorem tl {x : Int} (h0 : 0 ≤ x) : bits .or .u8 128 (bits .and .u8 (x % 256) 63) = 128 + x % 64 := by rw [and63 (by omega) (by omega), or128 (by omega) (by omega)]; omega

def isRb (x : Int) : Bool := decide (0 ≤ x ∧ x ≤ 1114111 ∧ (x < 55296 ∨ 57343 < x))
def enc1 (x : Int) : List Int := if x < 128 then [x] else if x < 2048 then [192 + x / 64, 128 + x % 64] else if x < 65536 then [224 + x / 4096, 128 + x / 64 % 64, 128 + x % 64] else [240 + x / 262144, 128 + x / 4096 % 64, 128 + x / 64 % 64, 128 + x % 64]
def sizeN (x : Int) : Int := if isRb x then (if x < 128 then 1 else if x < 2048 then 2 else if x < 65536 then 3 else 4) else 0

theorem is_eq (x : Int) : utf_Is x = some (isRb x) := by
  unfold utf_Is isRb
  by_cases h1 : 0 ≤ x <;> by_cases h2 : x ≤ 1114111 <;> by_cases h3 : x < 55296 <;> simp [h1, h2, h3]
theorem size_eq (x : Int) : utf_Size x = some (sizeN x) := by
  unfold utf_Size sizeN
  rw [is_eq]
  cases h : isRb x
  · simp
  · by_cases h1 : x < 128 <;> by_cases h2 : x < 2048 <;> by_cases h3 : x < 65536 <;> simp [h1, h2, h3]

theorem loopN_mono {S O : Type} {step : S → Option (S ⊕ O)} {o : O} : ∀ (n : Nat) (s : S), loopN step n s = some o → ∀ m, n ≤ m → loopN step m s = some o := by
  intro n
  induction n with
  | zero => intro s h; cases h
  | succ n ih =>
    intro s h m hm
    obtain ⟨k, rfl⟩ : ∃ k, m = k + 1 := ⟨m - 1, by omega⟩
    simp only [loopN] at h ⊢
    split at h
    · cases h
    · exact h
    · exact ih _ h k (by omega)
theorem loop_big {S O : Type} {step : S → Option (S ⊕ O)} {o : O} {s : S} (n : Nat) (h : loopN step n s = some o) (hn : n ≤ 1000) : loopN step big s = some o := loopN_mono n s h _ (by unfold big; omega)

theorem fdivp {a b : Int} (hb : 0 < b) : Int.fdiv a b = a / b := Int.fdiv_eq_ediv_of_nonneg _ (by omega)

theorem lay_eq {out : List Int} {x : Int} (hr : isRb x = true) (hl : out.length ≤ 4000000) : utf_lay out x (sizeN x) = some (out ++ enc1 x) := by
  have hb : 0 ≤ x ∧ x ≤ 1114111 ∧ (x < 55296 ∨ 57343 < x) := by simpa [isRb] using hr
  unfold utf_lay sizeN enc1
  rw [hr]
  simp only [if_true]
  have rm : ∀ n : Nat, n ≤ 4000010 → room n = true := fun n h => room_of (by omega)
  by_cases h1 : x < 128
  · rw [if_pos h1, if_pos h1]
    have e1 : bits .or .u8 0 (x % 256) = x := by rw [or0 (by omega) (by omega)]; omega
    have hm : utf_mark 1 = some 0 := rfl
    have hw : IntKind.wrap .i64 (6 * IntKind.wrap .i64 (1 - 1)) = 0 := by decide
    rw [hm]
    simp only [Option.bind_some, hw]
    have hd : Int.fdiv x (2 ^ (min (0 : Int).toNat 32)) = x := by simp
    rw [hd, u8w, e1]
    have hs : sh 0 = true := by decide
    have hr1 : room (out.length + ([x] : List Int).length) = true := rm _ (by simp; omega)
    rw [hs, hr1]
    simp only [cond_true]
    rw [loop_big 1 rfl (by omega)]
    rfl
  · rw [if_neg h1, if_neg h1]
    by_cases h2 : x < 2048
    · rw [if_pos h2, if_pos h2]
      have hm : utf_mark 2 = some 192 := rfl
      have hw : IntKind.wrap .i64 (6 * IntKind.wrap .i64 (2 - 1)) = 6 := by decide
      rw [hm]
      simp only [Option.bind_some, hw]
      have hd : Int.fdiv x (2 ^ (min (6 : Int).toNat 32)) = x / 64 := fdivp (by decide)
      have e1 : bits .or .u8 192 (x / 64 % 256) = 192 + x / 64 := by rw [or192 (by omega) (by omega)]; omega
      rw [hd, u8w, e1]
      have hs : sh 6 = true := by decide
      rw [hs, rm _ (by simp; omega)]
      simp only [cond_true]
      rw [loop_big (o := out ++ [192 + x / 64] ++ [128 + x % 64]) 2 ?_ (by omega)]
      · simp
      · simp only [loopN]
        have g0 : Int.fdiv x (2 ^ (min (0 : Int).toNat 32)) = x := by simp
        have w0 : IntKind.wrap .i64 ((6 : Int) - 6) = 0 := by decide
        have s0 : sh 0 = true := by decide
        have wz : IntKind.wrap .i64 (0 : Int) = 0 := by decide
        have t0 : bits .or .u8 128 (bits .and .u8 (x % 256) 63) = 128 + x % 64 := tl (by omega)
        simp [wz, g0, u8w, t0, s0, rm (out.length + 1) (by omega), rm (out.length + 1 + 1) (by omega)]
    · rw [if_neg h2, if_neg h2]
      by_cases h3 : x < 65536
      · rw [if_pos h3, if_pos h3]
        have hm : utf_mark 3 = some 224 := rfl
        have hw : IntKind.wrap .i64 (6 * IntKind.wrap .i64 (3 - 1)) = 12 := by decide
        rw [hm]
        simp only [Option.bind_some, hw]
        have hd : Int.fdiv x (2 ^ (min (12 : Int).toNat 32)) = x / 4096 := fdivp (by decide)
        have e1 : bits .or .u8 224 (x / 4096 % 256) = 224 + x / 4096 := by rw [or224 (by omega) (by omega)]; omega
        rw [hd, u8w, e1]
        have hs : sh 12 = true := by decide
        rw [hs, rm _ (by simp; omega)]
        simp only [cond_true]
        rw [loop_big (o := out ++ [224 + x / 4096] ++ [128 + x / 64 % 64] ++ [128 + x % 64]) 3 ?_ (by omega)]
        · simp
        · simp only [loopN]
          have g0 : Int.fdiv x (2 ^ (min (0 : Int).toNat 32)) = x := by simp
          have g6 : Int.fdiv x (2 ^ (min (6 : Int).toNat 32)) = x / 64 := fdivp (by decide)
          have w0 : IntKind.wrap .i64 ((6 : Int) - 6) = 0 := by decide
          have w6 : IntKind.wrap .i64 ((12 : Int) - 6) = 6 := by decide
          have s0 : sh 0 = true := by decide
          have s6 : sh 6 = true := by decide
          simp only [w0, w6, g0, g6, u8w, tl (show 0 ≤ x by omega), tl (show 0 ≤ x / 64 by omega), s0, s6]
          have wz : IntKind.wrap .i64 (0 : Int) = 0 := by decide
          have wz6 : IntKind.wrap .i64 (6 : Int) = 6 := by decide
          have t0 : bits .or .u8 128 (bits .and .u8 (x % 256) 63) = 128 + x % 64 := tl (by omega)
          have t6 : bits .or .u8 128 (bits .and .u8 (x / 64 % 256) 63) = 128 + x / 64 % 64 := tl (by omega)
          simp [wz, wz6, g0, g6, s0, s6, u8w, t0, t6, rm (out.length + 1) (by omega), rm (out.length + 1 + 1) (by omega), rm (out.length + 1 + 1 + 1) (by omega)]
      · rw [if_neg h3, if_neg h3]
        have hm : utf_mark 4 = some 240 := rfl
        have hw : IntKind.wrap .i64 (6 * IntKind.wrap .i64 (4 - 1)) = 18 := by decide
        rw [hm]
        simp only [Option.bind_some, hw]
        have hd : Int.fdiv x (2 ^ (min (18 : Int).toNat 32)) = x / 262144 := fdivp (by decide)
        have e1 : bits .or .u8 240 (x / 262144 % 256) = 240 + x / 262144 := by rw [or240 (by omega) (by omega)]; omega
        rw [hd, u8w, e1]
        have hs : sh 18 = true := by decide
        rw [hs, rm _ (by simp; omega)]
        simp only [cond_true]
        rw [loop_big (o := out ++ [240 + x / 262144] ++ [128 + x / 4096 % 64] ++ [128 + x / 64 % 64] ++ [128 + x % 64]) 4 ?_ (by omega)]
        · simp
        · simp only [loopN]
          have g0 : Int.fdiv x (2 ^ (min (0 : Int).toNat 32)) = x := by simp
          have g6 : Int.fdiv x (2 ^ (min (6 : Int).toNat 32)) = x / 64 := fdivp (by decide)
          have g12 : Int.fdiv x (2 ^ (min (12 : Int).toNat 32)) = x / 4096 := fdivp (by decide)
          have w0 : IntKind.wrap .i64 ((6 : Int) - 6) = 0 := by decide
          have w6 : IntKind.wrap .i64 ((12 : Int) - 6) = 6 := by decide
          have w12 : IntKind.wrap .i64 ((18 : Int) - 6) = 12 := by decide
          have s0 : sh 0 = true := by decide
          have s6 : sh 6 = true := by decide
          have s12 : sh 12 = true := by decide
          simp only [w0, w6, w12, g0, g6, g12, u8w, tl (show 0 ≤ x by omega), tl (show 0 ≤ x / 64 by omega), tl (show 0 ≤ x / 4096 by omega), s0, s6, s12]
          have wz : IntKind.wrap .i64 (0 : Int) = 0 := by decide
          have wz6 : IntKind.wrap .i64 (6 : Int) = 6 := by decide
          have wz12 : IntKind.wrap .i64 (12 : Int) = 12 := by decide
          have t0 : bits .or .u8 128 (bits .and .u8 (x % 256) 63) = 128 + x % 64 := tl (by omega)
          have t6 : bits .or .u8 128 (bits .and .u8 (x / 64 % 256) 63) = 128 + x / 64 % 64 := tl (by omega)
          have t12 : bits .or .u8 128 (bits .and .u8 (x / 4096 % 256) 63) = 128 + x / 4096 % 64 := tl (by omega)
          have d64 : Int.fdiv x 64 = x / 64 := fdivp (by decide)
          simp [d64, wz, wz6, wz12, g0, g6, g12, s0, s6, s12, u8w, t0, t6, t12, rm (out.length + 1) (by omega), rm (out.length + 1 + 1) (by omega), rm (out.length + 1 + 1 + 1) (by omega), rm (out.length + 1 + 1 + 1 + 1) (by omega)]

theorem enc1_len (x : Int) : (enc1 x).length ≤ 4 := by
  unfold enc1; split; simp; split; simp; split <;> simp

def encL1 (xs : List Int) : List Int := xs.flatMap enc1
theorem encL1_len (xs : List Int) : (encL1 xs).length ≤ 4 * xs.length := by
  induction xs with
  | nil => simp [encL1]
  | cons x xs ih =>
    have := enc1_len x
    simp only [encL1, List.flatMap_cons, List.length_append, List.length_cons] at ih ⊢
    omega

theorem encode_eq {xs : List Int} (hl : xs.length ≤ 900000) : utf_Encode xs = some (if xs.all isRb then (encL1 xs, 0) else ([], 3)) := by
  unfold utf_Encode
  generalize hst : (fun (s63 : Int × (List Int)) => ((bif (decide (s63.1 < (xs.length : Int))) then (bif inR s63.1 xs.length then (Option.bind (utf_Size (nth xs s63.1)) fun y106 => (bif (decide (y106 = 0)) then (some (.inr (.inr (([] : List Int), 3)))) else (Option.bind (utf_lay s63.2 (nth xs s63.1) y106) fun y115 => (some (.inl ((IntKind.wrap .i64 (s63.1 + 1)), y115)))))) else none) else (some (.inr (.inl s63.2)))) : Option ((Int × (List Int)) ⊕ ((List Int) ⊕ ((List Int) × Int))))) = step
  obtain ⟨o, h1, h2⟩ := loopN_run (step := step)
    (fun s => ∃ i : Nat, s.1 = i ∧ i ≤ xs.length ∧ (xs.take i).all isRb = true ∧ s.2 = encL1 (xs.take i)) (fun s => xs.length - s.1.toNat)
    (fun o => match o with
      | .inl t => xs.all isRb = true ∧ t = encL1 xs
      | .inr t => xs.all isRb = false ∧ t = ([], 3)) (fun s hs => by
      obtain ⟨s1, out⟩ := s
      obtain ⟨i, hi0, hi, ha, ho⟩ := hs
      simp only at hi0 ho
      subst hi0; subst ho; subst hst
      simp only
      rcases Nat.lt_or_ge i xs.length with h | h
      · rw [dT (show (i : Int) < xs.length by omega), inR_nat h, nth_nat h, size_eq]
        simp only [cond_true, Option.bind_some]
        cases hr : isRb xs[i] with
        | false =>
          refine .inr ⟨.inr ([], 3), by simp [sizeN, hr], ?_, rfl⟩
          rw [Bool.eq_false_iff]
          intro hall
          have := List.all_eq_true.1 hall xs[i] (List.getElem_mem h)
          rw [hr] at this; cases this
        | true =>
          have hne : sizeN xs[i] ≠ 0 := by
            unfold sizeN; rw [hr]; simp only [if_true]; split; omega; split; omega; split <;> omega
          have hlen : (encL1 (xs.take i)).length ≤ 4000000 := by
            have := encL1_len (xs.take i)
            rw [List.length_take] at this; omega
          refine .inl ⟨((i : Int) + 1, encL1 (xs.take i) ++ enc1 xs[i]), ?_, ⟨i + 1, by simp, by omega, ?_, ?_⟩, by simp only; omega⟩
          · rw [dF hne, lay_eq hr hlen]
            simp only [cond_false, Option.bind_some]
            rw [w64 (by omega) (by omega)]
          · rw [List.take_succ_eq_append_getElem h, List.all_append, ha]; simp [hr]
          · rw [List.take_succ_eq_append_getElem h]; unfold encL1; rw [List.flatMap_append]; simp
      · refine .inr ⟨.inl (encL1 (xs.take i)), by rw [dF (by omega)]; rfl, ?_, ?_⟩
        · rw [List.take_of_length_le h] at ha; exact ha
        · rw [List.take_of_length_le h]) big (0, []) ⟨0, rfl, by omega, rfl, rfl⟩ (big_pos (by simp only; omega))
  rw [h1]
  cases o with
  | inl t =>
    obtain ⟨h3, rfl⟩ := h2
    simp only [Option.bind_some, joinX]
    rw [h3]; rfl
  | inr t =>
    obtain ⟨h3, rfl⟩ := h2
    simp only [Option.bind_some, joinX]
    rw [h3]; rfl

theorem less_prefix : ∀ (p x y : List UInt8), Op.bytesLess (p ++ x) (p ++ y) = Op.bytesLess x y
  | [], x, y => rfl
  | a :: p, x, y => by
    simp only [List.cons_append, Op.bytesLess]
    rw [less_prefix p x y]
    simp

theorem bytesS_app (x y : List Int) : bytesS (x ++ y) = bytesS x ++ bytesS y := by simp [bytesS]

theorem u8lt {a b : Int} (h0 : 0 ≤ a) (hab : a < b) (hb : b < 256) : UInt8.ofNat a.toNat < UInt8.ofNat b.toNat := by
  rw [UInt8.lt_iff_toNat_lt]
  simp only [UInt8.toNat_ofNat']
  omega

theorem less_cons {a b : Int} {x y : List UInt8} (h : a < b ∧ 0 ≤ a ∧ b < 256 ∨ a = b ∧ Op.bytesLess x y = true) : Op.bytesLess (UInt8.ofNat a.toNat :: x) (UInt8.ofNat b.toNat :: y) = true := by
  simp only [Op.bytesLess]
  rcases h with ⟨h1, h2, h3⟩ | ⟨rfl, h⟩
  · have := u8lt h2 h1 h3
    simp [this]
  · simp [h]

theorem enc1_less {a b : Int} (ha : isRb a = true) (hb : isRb b = true) (h : a < b) (z : List UInt8) : Op.bytesLess (bytesS (enc1 a)) (bytesS (enc1 b) ++ z) = true := by
  have ha : 0 ≤ a ∧ a ≤ 1114111 ∧ (a < 55296 ∨ 57343 < a) := by simpa [isRb] using ha
  have hb : 0 ≤ b ∧ b ≤ 1114111 ∧ (b < 55296 ∨ 57343 < b) := by simpa [isRb] using hb
  have fin : ∀ (a b : Int) (x y : List UInt8), a < b ∧ 0 ≤ a ∧ b < 256 ∨ a = b ∧ Op.bytesLess x y = true → Op.bytesLess (UInt8.ofNat a.toNat :: x) (UInt8.ofNat b.toNat :: y) = true := fun a b x y => less_cons
  unfold enc1
  by_cases a1 : a < 128 <;> by_cases a2 : a < 2048 <;> by_cases a3 : a < 65536 <;> by_cases b1 : b < 128 <;> by_cases b2 : b < 2048 <;> by_cases b3 : b < 65536 <;> first
    | (exfalso; omega)
    | (simp only [a1, a2, a3, b1, b2, b3, if_true, if_false, bytesS, List.map_cons, List.map_nil, List.cons_append, List.nil_append]
       first
         | exact fin _ _ _ _ (.inl ⟨by omega, by omega, by omega⟩)
         | skip)
  · by_cases q : a / 64 < b / 64
    · exact fin _ _ _ _ (.inl ⟨by omega, by omega, by omega⟩)
    · exact fin _ _ _ _ (.inr ⟨by omega, fin _ _ _ _ (.inl ⟨by omega, by omega, by omega⟩)⟩)
  · by_cases q : a / 4096 < b / 4096
    · exact fin _ _ _ _ (.inl ⟨by omega, by omega, by omega⟩)
    · by_cases q2 : a / 64 < b / 64
      · exact fin _ _ _ _ (.inr ⟨by omega, fin _ _ _ _ (.inl ⟨by omega, by omega, by omega⟩)⟩)
      · exact fin _ _ _ _ (.inr ⟨by omega, fin _ _ _ _ (.inr ⟨by omega, fin _ _ _ _ (.inl ⟨by omega, by omega, by omega⟩)⟩)⟩)
  · by_cases q : a / 262144 < b / 262144
    · exact fin _ _ _ _ (.inl ⟨by omega, by omega, by omega⟩)
    · by_cases q1 : a / 4096 < b / 4096
      · exact fin _ _ _ _ (.inr ⟨by omega, fin _ _ _ _ (.inl ⟨by omega, by omega, by omega⟩)⟩)
      · by_cases q2 : a / 64 < b / 64
        · exact fin _ _ _ _ (.inr ⟨by omega, fin _ _ _ _ (.inr ⟨by omega, fin _ _ _ _ (.inl ⟨by omega, by omega, by omega⟩)⟩)⟩)
        · exact fin _ _ _ _ (.inr ⟨by omega, fin _ _ _ _ (.inr ⟨by omega, fin _ _ _ _ (.inr ⟨by omega, fin _ _ _ _ (.inl ⟨by omega, by omega, by omega⟩)⟩)⟩)⟩)

theorem same1_eq {xs ys : List Int} (h : xs.length ≤ 4611686018427387904) (h' : ys.length ≤ 4611686018427387904) : exergueref01_Same xs ys = some (decide (xs = ys)) := by
  unfold exergueref01_Same
  by_cases hl : xs.length = ys.length
  · rw [dF (by omega), same_loop hl h]
    by_cases he : xs = ys
    · rw [if_pos he, dT he]; rfl
    · rw [if_neg he, dF he]; rfl
  · rw [dT (by omega), dF (fun e => hl (by rw [e]))]; rfl

theorem shown_eq : exerguelaw01_shown = some true := by kernel_rfl

theorem Order_true (x : St43) (w : WfSt43 x) : exerguelaw01_UtfOrder x = some true := by
  obtain ⟨l, a, b, m⟩ := x
  obtain ⟨⟨wl, _⟩, wa, wb, ⟨wm, _⟩⟩ := w
  simp only at wl wm
  have e0 : IntKind.wrap .i64 ((l.length : Int) + m.length) = l.length + m.length := w64 (by omega) (by omega)
  unfold exerguelaw01_UtfOrder
  rw [shown_eq]
  simp only [Option.bind_some, e0]
  by_cases h1 : l.length + m.length > 500
  · rw [dT (by omega)]; rfl
  · rw [dF (by omega)]
    simp only [cond_false, Option.bind_some]
    by_cases h2 : a ≥ b
    · rw [dT h2]; rfl
    · rw [dF h2]
      simp only [cond_false, Option.bind_some, joinX]
      have r1 : room l.length = true := room_of (by omega)
      have r2 : room (l.length + ([a] : List Int).length) = true := room_of (by simp; omega)
      have r3 : room (l.length + ([b] : List Int).length) = true := room_of (by simp; omega)
      have r4 : room ((l ++ ([b] : List Int)).length + m.length) = true := room_of (by simp; omega)
      rw [r1, r2, r3, r4, encode_eq (by simp; omega), encode_eq (by simp; omega), same1_eq (by omega) (by omega)]
      simp only [cond_true, Option.bind_some]
      cases hA : (l ++ [a]).all isRb with
      | false => simp
      | true =>
        cases hB : (l ++ [b] ++ m).all isRb with
        | false => simp
        | true =>
          have ha : isRb a = true := List.all_eq_true.1 hA a (by simp)
          have hb : isRb b = true := List.all_eq_true.1 hB b (by simp)
          have hlt : Op.bytesLess (bytesS (encL1 (l ++ [a]))) (bytesS (encL1 (l ++ [b] ++ m))) = true := by
            have q1 : encL1 (l ++ [a]) = encL1 l ++ enc1 a := by simp [encL1]
            have q2 : encL1 (l ++ [b] ++ m) = encL1 l ++ (enc1 b ++ encL1 m) := by simp [encL1]
            rw [q1, q2, bytesS_app, bytesS_app, bytesS_app, less_prefix]
            exact enc1_less ha hb (by omega) _
          have hlt' : Op.bytesLess (bytesS (encL1 (l ++ [a]))) (bytesS (encL1 (l ++ b :: m))) = true := by simpa using hlt
          simp [hlt']

theorem enc1_size {x : Int} (hr : isRb x = true) : ((enc1 x).length : Int) = sizeN x := by
  unfold enc1 sizeN
  rw [hr]
  by_cases h1 : x < 128 <;> by_cases h2 : x < 2048 <;> by_cases h3 : x < 65536 <;> simp [h1, h2, h3]

theorem prom_eq (c : Int) : utf_promised c = some (if c < 128 then 1 else if c / 32 = 6 then 2 else if c / 16 = 14 then 3 else if c / 8 = 30 then 4 else 0) := by
  unfold utf_promised
  rw [fdivp (by decide), fdivp (by decide), fdivp (by decide)]
  by_cases h1 : c < 128 <;> by_cases h2 : c / 32 = 6 <;> by_cases h3 : c / 16 = 14 <;> by_cases h4 : c / 8 = 30 <;> simp [h1, h2, h3, h4]

theorem n63 {x : Int} (h0 : 0 ≤ x) (h1 : x < 256) : bits .andNot .u8 x 63 = x / 64 * 64 := fin256 (fun x => bits .andNot .u8 x 63 = x / 64 * 64) (by decide +kernel) h0 h1
theorem n0 {x : Int} (h0 : 0 ≤ x) (h1 : x < 256) : bits .andNot .u8 x 0 = x := fin256 (fun x => bits .andNot .u8 x 0 = x) (by decide +kernel) h0 h1
theorem n192 {x : Int} (h0 : 0 ≤ x) (h1 : x < 32) : bits .andNot .u8 (192 + x) 192 = x := fin256 (fun x => x < 32 → bits .andNot .u8 (192 + x) 192 = x) (by decide +kernel) h0 (by omega) h1
theorem n224 {x : Int} (h0 : 0 ≤ x) (h1 : x < 16) : bits .andNot .u8 (224 + x) 224 = x := fin256 (fun x => x < 16 → bits .andNot .u8 (224 + x) 224 = x) (by decide +kernel) h0 (by omega) h1
theorem n240 {x : Int} (h0 : 0 ≤ x) (h1 : x < 8) : bits .andNot .u8 (240 + x) 240 = x := fin256 (fun x => x < 8 → bits .andNot .u8 (240 + x) 240 = x) (by decide +kernel) h0 (by omega) h1
theorem t63 {y : Int} (h0 : 0 ≤ y) (h1 : y < 64) : bits .andNot .u8 (128 + y) 63 = 128 := by rw [n63 (by omega) (by omega)]; omega
theorem a63 {y : Int} (h0 : 0 ≤ y) (h1 : y < 64) : bits .and .u8 (128 + y) 63 = y := by rw [and63 (by omega) (by omega)]; omega
theorem o32 {r y : Int} (h0 : 0 ≤ r) (h1 : r < 32768) (h2 : 0 ≤ y) (h3 : y < 64) : bits .or .i32 (IntKind.wrap .i32 (r * 64)) (IntKind.wrap .i32 y) = r * 64 + y := by
  rw [w32 (by omega) (by omega), w32 (by omega) (by omega)]
  exact i32_or6 _ _ (by omega) (by omega) (by omega) h2 h3

theorem first_full {x : Int} {rest : List Int} (hr : isRb x = true) (hl : rest.length ≤ 1000000) : utf_first (enc1 x ++ rest) = some (x, sizeN x) := by
  have hb : 0 ≤ x ∧ x ≤ 1114111 ∧ (x < 55296 ∨ 57343 < x) := by simpa [isRb] using hr
  have hsz := size_eq x
  generalize hq : enc1 x ++ rest = q
  unfold utf_first
  by_cases h1 : x < 128
  · have he : enc1 x = [x] := by unfold enc1; rw [if_pos h1]
    have hs : sizeN x = 1 := by unfold sizeN; rw [hr]; simp [h1]
    rw [he] at hq
    simp only [List.singleton_append] at hq
    have hn : nth q 0 = x := by subst hq; rfl
    have hql : q.length = rest.length + 1 := by subst hq; simp
    have hi : inR 0 q.length = true := inR_int (by omega) (by omega)
    have hin : inS 1 1 q.length = true := inS_of (by omega) (by omega) (by omega)
    have hm : utf_mark 1 = some 0 := rfl
    have hc : cut q 1 1 = [] := by subst hq; simp [cut]
    have hp : utf_promised x = some 1 := by rw [prom_eq, if_pos h1]
    rw [hi, hn, hp]
    simp only [cond_true, Option.bind_some]
    rw [dF (show ¬ (1 : Int) = 0 by omega), dF (show ¬ (1 : Int) > (q.length : Int) by omega)]
    simp only [cond_false, Option.bind_some, joinX, hm, hin, cond_true, hc]
    rw [n0 (by omega) (by omega), w32 (by omega) (by omega), loop_big 1 rfl (by omega)]
    simp only [Option.bind_some, joinX]
    rw [hsz, hs]; rfl
  · by_cases h2 : x < 2048
    · have he : enc1 x = [192 + x / 64, 128 + x % 64] := by unfold enc1; rw [if_neg h1, if_pos h2]
      have hs : sizeN x = 2 := by unfold sizeN; rw [hr]; simp [h1, h2]
      rw [he] at hq
      simp only [List.cons_append, List.nil_append] at hq
      have hn : nth q 0 = 192 + x / 64 := by subst hq; rfl
      have hql : q.length = rest.length + 2 := by subst hq; simp
      have hi : inR 0 q.length = true := inR_int (by omega) (by omega)
      have hin : inS 1 2 q.length = true := inS_of (by omega) (by omega) (by omega)
      have hm : utf_mark 2 = some 192 := rfl
      have hc : cut q 1 2 = [128 + x % 64] := by subst hq; simp [cut]
      have hp : utf_promised (192 + x / 64) = some 2 := by rw [prom_eq, if_neg (by omega), if_pos (by omega)]
      rw [hi, hn, hp]
      simp only [cond_true, Option.bind_some]
      rw [dF (show ¬ (2 : Int) = 0 by omega), dF (show ¬ (2 : Int) > (q.length : Int) by omega)]
      simp only [cond_false, Option.bind_some, joinX, hm, hin, cond_true, hc]
      rw [n192 (by omega) (by omega), w32 (by omega) (by omega), loop_big (o := .inl x) 2 ?_ (by omega)]
      · simp only [Option.bind_some, joinX]
        rw [hsz, hs]; rfl
      · simp only [loopN]
        have k0 : nth [128 + x % 64] 0 = 128 + x % 64 := rfl
        have i0 : inR 0 1 = true := by decide
        have wz : IntKind.wrap .i64 (0 + 1) = 1 := by decide
        have e1 : bits .or .i32 (IntKind.wrap .i32 (x / 64 * 64)) (IntKind.wrap .i32 (x % 64)) = x := by rw [o32 (by omega) (by omega) (by omega) (by omega)]; omega
        simp only [List.length_singleton, k0, i0, t63 (show 0 ≤ x % 64 by omega) (by omega), a63 (show 0 ≤ x % 64 by omega) (by omega), e1, wz]
        rfl
    · by_cases h3 : x < 65536
      · have he : enc1 x = [224 + x / 4096, 128 + x / 64 % 64, 128 + x % 64] := by unfold enc1; rw [if_neg h1, if_neg h2, if_pos h3]
        have hs : sizeN x = 3 := by unfold sizeN; rw [hr]; simp [h1, h2, h3]
        rw [he] at hq
        simp only [List.cons_append, List.nil_append] at hq
        have hn : nth q 0 = 224 + x / 4096 := by subst hq; rfl
        have hql : q.length = rest.length + 3 := by subst hq; simp
        have hi : inR 0 q.length = true := inR_int (by omega) (by omega)
        have hin : inS 1 3 q.length = true := inS_of (by omega) (by omega) (by omega)
        have hm : utf_mark 3 = some 224 := rfl
        have hc : cut q 1 3 = [128 + x / 64 % 64, 128 + x % 64] := by subst hq; simp [cut]
        have hp : utf_promised (224 + x / 4096) = some 3 := by rw [prom_eq, if_neg (by omega), if_neg (by omega), if_pos (by omega)]
        rw [hi, hn, hp]
        simp only [cond_true, Option.bind_some]
        rw [dF (show ¬ (3 : Int) = 0 by omega), dF (show ¬ (3 : Int) > (q.length : Int) by omega)]
        simp only [cond_false, Option.bind_some, joinX, hm, hin, cond_true, hc]
        rw [n224 (by omega) (by omega), w32 (by omega) (by omega), loop_big (o := .inl x) 3 ?_ (by omega)]
        · simp only [Option.bind_some, joinX]
          rw [hsz, hs]; rfl
        · simp only [loopN]
          have k0 : nth [128 + x / 64 % 64, 128 + x % 64] 0 = 128 + x / 64 % 64 := rfl
          have k1 : nth [128 + x / 64 % 64, 128 + x % 64] 1 = 128 + x % 64 := rfl
          have i0 : inR 0 2 = true := by decide
          have i1 : inR 1 2 = true := by decide
          have wz : IntKind.wrap .i64 (0 + 1) = 1 := by decide
          have wz1 : IntKind.wrap .i64 (1 + 1) = 2 := by decide
          have e1 : bits .or .i32 (IntKind.wrap .i32 (x / 4096 * 64)) (IntKind.wrap .i32 (x / 64 % 64)) = x / 64 := by rw [o32 (by omega) (by omega) (by omega) (by omega)]; omega
          have e2 : bits .or .i32 (IntKind.wrap .i32 (x / 64 * 64)) (IntKind.wrap .i32 (x % 64)) = x := by rw [o32 (by omega) (by omega) (by omega) (by omega)]; omega
          simp only [List.length_cons, List.length_nil, Nat.zero_add, Nat.reduceAdd, k0, i0, t63 (show 0 ≤ x / 64 % 64 by omega) (by omega), a63 (show 0 ≤ x / 64 % 64 by omega) (by omega), e1, wz]
          have d0 : decide ((0 : Int) < ((2 : Nat) : Int)) = true := by decide
          have d1 : decide ((1 : Int) < ((2 : Nat) : Int)) = true := by decide
          have d2 : decide ((2 : Int) < ((2 : Nat) : Int)) = false := by decide
          simp only [d0, d1, d2, cond_true, cond_false, not_true_eq_false, decide_false, k1, i1, t63 (show 0 ≤ x % 64 by omega) (by omega), a63 (show 0 ≤ x % 64 by omega) (by omega), e2, wz1]
      · have he : enc1 x = [240 + x / 262144, 128 + x / 4096 % 64, 128 + x / 64 % 64, 128 + x % 64] := by unfold enc1; rw [if_neg h1, if_neg h2, if_neg h3]
        have hs : sizeN x = 4 := by unfold sizeN; rw [hr]; simp [h1, h2, h3]
        rw [he] at hq
        simp only [List.cons_append, List.nil_append] at hq
        have hn : nth q 0 = 240 + x / 262144 := by subst hq; rfl
        have hql : q.length = rest.length + 4 := by subst hq; simp
        have hi : inR 0 q.length = true := inR_int (by omega) (by omega)
        have hin : inS 1 4 q.length = true := inS_of (by omega) (by omega) (by omega)
        have hm : utf_mark 4 = some 240 := rfl
        have hc : cut q 1 4 = [128 + x / 4096 % 64, 128 + x / 64 % 64, 128 + x % 64] := by subst hq; simp [cut]
        have hp : utf_promised (240 + x / 262144) = some 4 := by rw [prom_eq, if_neg (by omega), if_neg (by omega), if_neg (by omega), if_pos (by omega)]
        rw [hi, hn, hp]
        simp only [cond_true, Option.bind_some]
        rw [dF (show ¬ (4 : Int) = 0 by omega), dF (show ¬ (4 : Int) > (q.length : Int) by omega)]
        simp only [cond_false, Option.bind_some, joinX, hm, hin, cond_true, hc]
        rw [n240 (by omega) (by omega), w32 (by omega) (by omega), loop_big (o := .inl x) 4 ?_ (by omega)]
        · simp only [Option.bind_some, joinX]
          rw [hsz, hs]; rfl
        · simp only [loopN]
          have k0 : nth [128 + x / 4096 % 64, 128 + x / 64 % 64, 128 + x % 64] 0 = 128 + x / 4096 % 64 := rfl
          have k1 : nth [128 + x / 4096 % 64, 128 + x / 64 % 64, 128 + x % 64] 1 = 128 + x / 64 % 64 := rfl
          have k2 : nth [128 + x / 4096 % 64, 128 + x / 64 % 64, 128 + x % 64] 2 = 128 + x % 64 := rfl
          have i0 : inR 0 3 = true := by decide
          have i1 : inR 1 3 = true := by decide
          have i2 : inR 2 3 = true := by decide
          have wz : IntKind.wrap .i64 (0 + 1) = 1 := by decide
          have wz1 : IntKind.wrap .i64 (1 + 1) = 2 := by decide
          have wz2 : IntKind.wrap .i64 (2 + 1) = 3 := by decide
          have e0 : bits .or .i32 (IntKind.wrap .i32 (x / 262144 * 64)) (IntKind.wrap .i32 (x / 4096 % 64)) = x / 4096 := by rw [o32 (by omega) (by omega) (by omega) (by omega)]; omega
          have e1 : bits .or .i32 (IntKind.wrap .i32 (x / 4096 * 64)) (IntKind.wrap .i32 (x / 64 % 64)) = x / 64 := by rw [o32 (by omega) (by omega) (by omega) (by omega)]; omega
          have e2 : bits .or .i32 (IntKind.wrap .i32 (x / 64 * 64)) (IntKind.wrap .i32 (x % 64)) = x := by rw [o32 (by omega) (by omega) (by omega) (by omega)]; omega
          have d0 : decide ((0 : Int) < ((3 : Nat) : Int)) = true := by decide
          have d1 : decide ((1 : Int) < ((3 : Nat) : Int)) = true := by decide
          have d2 : decide ((2 : Int) < ((3 : Nat) : Int)) = true := by decide
          have d3 : decide ((3 : Int) < ((3 : Nat) : Int)) = false := by decide
          simp only [List.length_cons, List.length_nil, Nat.zero_add, Nat.reduceAdd, k0, i0, t63 (show 0 ≤ x / 4096 % 64 by omega) (by omega), a63 (show 0 ≤ x / 4096 % 64 by omega) (by omega), e0, wz]
          simp only [d0, d1, d2, d3, cond_true, cond_false, not_true_eq_false, decide_false, k1, i1, t63 (show 0 ≤ x / 64 % 64 by omega) (by omega), a63 (show 0 ≤ x / 64 % 64 by omega) (by omega), e1, wz1]
          simp only [d0, d1, d2, d3, cond_true, cond_false, not_true_eq_false, decide_false, k2, i2, t63 (show 0 ≤ x % 64 by omega) (by omega), a63 (show 0 ≤ x % 64 by omega) (by omega), e2, wz2]

/-- A row that begins with no head, or with one that promises more than there is. -/
theorem first_none {c : Int} {rest : List Int} (hl : rest.length ≤ 1000000) {n : Int} (hp : utf_promised c = some n) (h : n = 0 ∨ rest.length + 1 < n) : utf_first (c :: rest) = some (0, 0) := by
  unfold utf_first
  have hn : nth (c :: rest) 0 = c := rfl
  have hi : inR 0 (c :: rest).length = true := inR_int (by omega) (by simp)
  rw [hi, hn, hp]
  simp only [cond_true, Option.bind_some]
  by_cases h0 : n = 0
  · rw [dT h0]; rfl
  · rw [dF h0, dT (show n > ((c :: rest).length : Int) by simp; omega)]; rfl

theorem first_cut {x : Int} {k : Nat} (hr : isRb x = true) (h1 : 1 ≤ k) (h2 : k < (enc1 x).length) : utf_first ((enc1 x).take k) = some (0, 0) := by
  have hb : 0 ≤ x ∧ x ≤ 1114111 ∧ (x < 55296 ∨ 57343 < x) := by simpa [isRb] using hr
  have hsz := enc1_size hr
  have hc : ∃ c r, enc1 x = c :: r ∧ utf_promised c = some (sizeN x) := by
    unfold enc1 sizeN
    rw [hr]
    by_cases a1 : x < 128
    · exact ⟨x, [], by simp [a1], by rw [prom_eq]; simp [a1]⟩
    · by_cases a2 : x < 2048
      · exact ⟨192 + x / 64, [128 + x % 64], by simp [a1, a2], by rw [prom_eq, if_neg (by omega), if_pos (by omega)]; simp [a1, a2]⟩
      · by_cases a3 : x < 65536
        · exact ⟨224 + x / 4096, [128 + x / 64 % 64, 128 + x % 64], by simp [a1, a2, a3], by rw [prom_eq, if_neg (by omega), if_neg (by omega), if_pos (by omega)]; simp [a1, a2, a3]⟩
        · exact ⟨240 + x / 262144, [128 + x / 4096 % 64, 128 + x / 64 % 64, 128 + x % 64], by simp [a1, a2, a3], by rw [prom_eq, if_neg (by omega), if_neg (by omega), if_neg (by omega), if_pos (by omega)]; simp [a1, a2, a3]⟩
  obtain ⟨c, r, e, hp⟩ := hc
  rw [e] at h2 hsz ⊢
  obtain ⟨j, rfl⟩ : ∃ j, k = j + 1 := ⟨k - 1, by omega⟩
  rw [List.take_succ_cons]
  have := enc1_len x
  rw [e] at this
  simp only [List.length_cons] at this h2 hsz
  exact first_none (by rw [List.length_take]; omega) hp (.inr (by rw [List.length_take]; omega))

theorem first_tail {x : Int} {k : Nat} (hr : isRb x = true) (h1 : 1 ≤ k) (h2 : k < (enc1 x).length) : utf_first ((enc1 x).drop k) = some (0, 0) := by
  have hb : 0 ≤ x ∧ x ≤ 1114111 ∧ (x < 55296 ∨ 57343 < x) := by simpa [isRb] using hr
  have hel : ∀ c ∈ (enc1 x).drop 1, 128 ≤ c ∧ c < 192 := by
    unfold enc1
    intro c hc
    by_cases a1 : x < 128
    · simp [a1] at hc
    · by_cases a2 : x < 2048
      · simp [a1, a2] at hc; omega
      · by_cases a3 : x < 65536
        · simp [a1, a2, a3] at hc; omega
        · simp [a1, a2, a3] at hc; omega
  have hlen := enc1_len x
  rw [List.drop_eq_getElem_cons h2]
  have hm : (enc1 x)[k] ∈ (enc1 x).drop 1 := List.mem_iff_getElem?.2 ⟨k - 1, by rw [List.getElem?_drop, show 1 + (k - 1) = k by omega, List.getElem?_eq_getElem h2]⟩
  obtain ⟨q1, q2⟩ := hel _ hm
  refine first_none (n := 0) (by rw [List.length_drop]; omega) ?_ (.inl rfl)
  rw [prom_eq, if_neg (by omega), if_neg (by omega), if_neg (by omega), if_neg (by omega)]

theorem decode_stops {L t : List Int} {v : Int} (hL : L.all isRb = true) (hl : L.length ≤ 200000) (ht : t ≠ []) (htl : t.length ≤ 100000) (hf : utf_first t = some (v, 0)) : utf_Decode (encL1 L ++ t) = some ([], ((encL1 L).length : Int), 3) := by
  have hE := encL1_len L
  unfold utf_Decode
  generalize hX : encL1 L ++ t = X
  have hXl : X.length = (encL1 L).length + t.length := by subst hX; simp
  generalize hst : (fun (s57 : Int × (List Int)) => ((bif (decide (s57.1 < (X.length : Int))) then (bif inS s57.1 (X.length : Int) X.length then (Option.bind (utf_first (cut X s57.1 (X.length : Int))) fun y96 => (bif (decide (y96.2 = 0)) then (some (.inr (.inr (([] : List Int), s57.1, 3)))) else (bif room (s57.2.length + ([y96.1] : List Int).length) then (some (.inl ((IntKind.wrap .i64 (s57.1 + y96.2)), (s57.2 ++ ([y96.1] : List Int))))) else none))) else none) else (some (.inr (.inl s57.2)))) : Option ((Int × (List Int)) ⊕ ((List Int) ⊕ ((List Int) × Int × Int))))) = step
  obtain ⟨o, h1, h2⟩ := loopN_run (step := step)
    (fun s => ∃ j : Nat, j ≤ L.length ∧ s.1 = ((encL1 (L.take j)).length : Int) ∧ s.2.length = j) (fun s => X.length - s.1.toNat)
    (fun o => o = .inr (([] : List Int), ((encL1 L).length : Int), 3)) (fun s hs => by
      obtain ⟨s1, out⟩ := s
      obtain ⟨j, hj, hs1, ho⟩ := hs
      simp only at hs1 ho
      have hpre : encL1 L = encL1 (L.take j) ++ encL1 (L.drop j) := by
        unfold encL1; rw [← List.flatMap_append, List.take_append_drop]
      have htake := encL1_len (L.take j)
      have hple : (encL1 (L.take j)).length ≤ (encL1 L).length := by rw [hpre, List.length_append]; omega
      have htpos : 0 < t.length := List.length_pos_iff.2 ht
      have hcut : cut X s1 (X.length : Int) = encL1 (L.drop j) ++ t := by
        unfold cut
        rw [Int.toNat_natCast, List.take_length, hs1, Int.toNat_natCast, ← hX, hpre, List.append_assoc, List.drop_left]
      subst hst
      simp only
      rw [dT (show s1 < (X.length : Int) by omega), inS_of (by omega) (by omega) (by omega), hcut]
      simp only [cond_true]
      rcases Nat.lt_or_ge j L.length with h | h
      · have hrj : isRb L[j] = true := List.all_eq_true.1 hL _ (List.getElem_mem h)
        have hd : encL1 (L.drop j) = enc1 L[j] ++ encL1 (L.drop (j + 1)) := by
          unfold encL1; rw [List.drop_eq_getElem_cons h, List.flatMap_cons]
        have hdl := encL1_len (L.drop (j + 1))
        rw [List.length_drop] at hdl
        rw [hd, List.append_assoc, first_full hrj (by rw [List.length_append]; omega)]
        simp only [Option.bind_some]
        have hsz := enc1_size hrj
        have hne : sizeN L[j] ≠ 0 := by
          unfold sizeN; rw [hrj]; simp only [if_true]; split; omega; split; omega; split <;> omega
        have hpos : 0 < sizeN L[j] := by omega
        have hle4 := enc1_len L[j]
        rw [dF hne]
        simp only [cond_false]
        have hrm : room (out.length + ([L[j]] : List Int).length) = true := room_of (by simp; omega)
        rw [hrm]
        have hnext : encL1 (L.take (j + 1)) = encL1 (L.take j) ++ enc1 L[j] := by
          rw [List.take_succ_eq_append_getElem h]; unfold encL1; rw [List.flatMap_append]; simp
        refine .inl ⟨(s1 + sizeN L[j], out ++ [L[j]]), ?_, ⟨j + 1, by omega, ?_, by simp [ho]⟩, by simp only; omega⟩
        · rw [w64 (by omega) (by omega)]; rfl
        · simp only; rw [hnext, List.length_append, hs1, ← hsz]; omega
      · have hj' : j = L.length := by omega
        subst hj'
        rw [List.drop_length]
        have : encL1 ([] : List Int) ++ t = t := rfl
        rw [this, hf]
        refine .inr ⟨_, rfl, ?_⟩
        rw [hs1, List.take_length]) big (0, []) ⟨0, by omega, by simp [encL1], rfl⟩ (big_pos (by simp only; omega))
  rw [h1, h2]
  rfl

theorem Heads_true (l : List Int) (wl : WfL (WfI .i32) l) (r : Int) (wr : WfI .i32 r) (k : Int) (wk : WfI .i64 k) : exerguelaw01_UtfHeads l r k = some true := by
  unfold exerguelaw01_UtfHeads
  rw [shown_eq]
  simp only [Option.bind_some]
  by_cases h1 : l.length > 300
  · rw [dT (by omega)]; rfl
  · rw [dF (by omega), encode_eq (by omega), encode_eq (by simp)]
    simp only [cond_false, Option.bind_some]
    cases hA : l.all isRb with
    | false => simp [joinX]
    | true =>
      cases hB : ([r] : List Int).all isRb with
      | false => simp [joinX]
      | true =>
        have hr : isRb r = true := by simpa using hB
        have he : encL1 [r] = enc1 r := by simp [encL1]
        simp only [if_true, he]
        simp only [not_true_eq_false, decide_false, cond_false]
        have hE := encL1_len l
        have h4 := enc1_len r
        by_cases hk1 : k < 1
        · rw [dT hk1]; rfl
        · rw [dF hk1]
          by_cases hk2 : k ≥ ((enc1 r).length : Int)
          · rw [dT hk2]; rfl
          · rw [dF hk2]
            obtain ⟨n, rfl⟩ : ∃ n : Nat, k = n := ⟨k.toNat, by omega⟩
            have c1 : cut (enc1 r) 0 (n : Int) = (enc1 r).take n := by simp [cut]
            have c2 : cut (enc1 r) (n : Int) ((enc1 r).length : Int) = (enc1 r).drop n := by simp [cut]
            simp only [cond_false, Option.bind_some, joinX, c1, c2]
            rw [room_of (by omega), inS_of (by omega) (by omega) (by omega), room_of (by rw [List.length_take]; omega), inS_of (by omega) (by omega) (by omega)]
            have hn1 : 1 ≤ n := by omega
            have hn2 : n < (enc1 r).length := by omega
            have d1 := decode_stops (L := l) (t := (enc1 r).take n) hA (by omega) (by intro h0; have := congrArg List.length h0; rw [List.length_take] at this; simp only [List.length_nil] at this; omega) (by rw [List.length_take]; omega) (first_cut hr hn1 hn2)
            have d2 := decode_stops (L := []) (t := (enc1 r).drop n) rfl (by simp) (by intro h0; have := congrArg List.length h0; rw [List.length_drop] at this; simp only [List.length_nil] at this; omega) (by rw [List.length_drop]; omega) (first_tail hr hn1 hn2)
            have : encL1 ([] : List Int) ++ (enc1 r).drop n = (enc1 r).drop n := rfl
            rw [this] at d2
            rw [d1, d2]
            simp [encL1]

set_option maxRecDepth 100000 in
theorem UtfOrder_lifted (os : Os) (started : os.Started) (H : Type) (enc : TypeId × Value → H) :
    ReturnsInHanded {} Try.checked os 9 .any (Rows.utfOrderSpec.pre6 enc Try.prog Try.f9 Rows.utfOrderRow.domain false) (Rows.utfOrderSpec.post enc Try.prog Try.f9 false true false false) := by
  refine returnsInHanded_of_change_sized (C := Try.checked) Try.own started (by kernel_rfl) Try.func9
    (ChangeSpec.witness6 (enc := enc) (C := Try.checked) false ⟨#[], #[.agg #[.slice none 0 0, .int .i32 0, .int .i32 0, .slice none 0 0]], []⟩ 8 (by kernel_rfl) (by kernel_rfl) (by kernel_rfl) (by kernel_rfl)) ?_
  intro W base args ds gs before hval0 hW _ hsz0 _
  have hsz : (DataW.weightsEach Try.prog (Try.f9.params.toList ++ Rows.utfOrderSpec.plain.varTypes Try.prog) (ds ++ gs)).all (· ≤ reachBytes) = true := hsz0
  clear hsz0
  refine law_post (P := Try.prog) (n := 3) (tb := 4) Try.laidOut Try.underlying4 rfl rfl (by kernel_rfl) (fun h => ?_) hval0 hW ?_
  · rw [Try.params9] at h
    obtain ⟨d0, rfl⟩ := l1 h
    exact ⟨rfl, rfl, rfl⟩
  · intro ss hg hl1 hl2 hs
    subst hg
    rw [Try.params9] at hl1 hl2 hs hsz
    obtain ⟨d0, rfl⟩ := l1 hl1
    obtain ⟨s0, rfl⟩ := l1 hl2
    obtain ⟨cs0, rfl, hc0⟩ := showsV_struct Try.underlying44 (hs 0 44 _ _ rfl rfl rfl)
    obtain ⟨a0, rfl, w0⟩ := tells_T44 (n := 0) _ _ hc0 (sized_param hsz (j := 0) rfl rfl)
    exact ⟨[], exerguelaw01_UtfOrder_ok (Order_true a0 w0)⟩
theorem UtfOrder_holds : Rows.UtfOrderSaid :=
  OpenClaim.holds_of_wide 9 Try.f9 rfl rfl rfl rfl rfl rfl rfl ⟨rfl, rfl, rfl, rfl, rfl⟩ rfl rfl rfl rfl rfl (by kernel_rfl) Try.func9 (by kernel_rfl)
    (of_decide_eq_true (by kernel_rfl)) (by unfold Func.isWrapper; first | (rw [if_pos (by decide +kernel)]; kernel_rfl) | (rw [if_neg (by decide +kernel)]; exact ⟨rfl, rfl⟩))
    (fun os started H enc _ => UtfOrder_lifted os started H enc)

set_option maxRecDepth 100000 in
theorem UtfHeads_lifted (os : Os) (started : os.Started) (H : Type) (enc : TypeId × Value → H) :
    ReturnsInHanded {} Try.checked os 8 .any (Rows.utfHeadsSpec.pre6 enc Try.prog Try.f8 Rows.utfHeadsRow.domain false) (Rows.utfHeadsSpec.post enc Try.prog Try.f8 false true false false) := by
  refine returnsInHanded_of_change_sized (C := Try.checked) Try.own started (by kernel_rfl) Try.func8
    (ChangeSpec.witness6 (enc := enc) (C := Try.checked) false ⟨#[], #[.slice none 0 0, .int .i32 0, .int .i64 0], []⟩ 8 (by kernel_rfl) (by kernel_rfl) (by kernel_rfl) (by kernel_rfl)) ?_
  intro W base args ds gs before hval0 hW _ hsz0 _
  have hsz : (DataW.weightsEach Try.prog (Try.f8.params.toList ++ Rows.utfHeadsSpec.plain.varTypes Try.prog) (ds ++ gs)).all (· ≤ reachBytes) = true := hsz0
  clear hsz0
  refine law_post (P := Try.prog) (n := 2) (tb := 4) Try.laidOut Try.underlying4 rfl rfl (by kernel_rfl) (fun h => ?_) hval0 hW ?_
  · rw [Try.params8] at h
    obtain ⟨d0, d1, d2, rfl⟩ := l3 h
    exact ⟨rfl, rfl, rfl⟩
  · intro ss hg hl1 hl2 hs
    subst hg
    rw [Try.params8] at hl1 hl2 hs hsz
    obtain ⟨d0, d1, d2, rfl⟩ := l3 hl1
    obtain ⟨s0, s1, s2, rfl⟩ := l3 hl2
    obtain ⟨a0, e0, w0⟩ := (show Tells Try.prog 2 22 (encL (encI .i32) 1) (WfL (WfI .i32)) from (tells_list (enc := (encI .i32)) (Wf := (WfI .i32)) Try.underlying22 (k := 1) (by kernel_rfl) (by kernel_rfl) (tells_int Try.underlying21))) _ _ (showsV_scalar Try.underlying22 (fun _ => by simp) (fun _ _ => by simp) (hs 0 22 _ _ rfl rfl rfl)) (sized_param hsz (j := 0) rfl rfl)
    obtain rfl : s0 = lsv (encI .i32) 1 a0 := (List.cons.inj e0).1
    obtain ⟨a1, e1, w1⟩ := (show Tells Try.prog 2 21 (encI .i32) (WfI .i32) from (tells_int Try.underlying21)) _ _ (showsV_scalar Try.underlying21 (fun _ => by simp) (fun _ _ => by simp) (hs 1 21 _ _ rfl rfl rfl)) (sized_param hsz (j := 1) rfl rfl)
    obtain rfl : s1 = .int .i32 a1 := (List.cons.inj e1).1
    obtain ⟨a2, e2, w2⟩ := (show Tells Try.prog 2 3 (encI .i64) (WfI .i64) from (tells_int Try.underlying3)) _ _ (showsV_scalar Try.underlying3 (fun _ => by simp) (fun _ _ => by simp) (hs 2 3 _ _ rfl rfl rfl)) (sized_param hsz (j := 2) rfl rfl)
    obtain rfl : s2 = .int .i64 a2 := (List.cons.inj e2).1
    exact ⟨[], exerguelaw01_UtfHeads_ok (Heads_true a0 w0 a1 w1 a2 w2)⟩
theorem UtfHeads_holds : Rows.UtfHeadsSaid :=
  OpenClaim.holds_of_wide 8 Try.f8 rfl rfl rfl rfl rfl rfl rfl ⟨rfl, rfl, rfl, rfl, rfl⟩ rfl rfl rfl rfl rfl (by kernel_rfl) Try.func8 (by kernel_rfl)
    (of_decide_eq_true (by kernel_rfl)) (by unfold Func.isWrapper; first | (rw [if_pos (by decide +kernel)]; kernel_rfl) | (rw [if_neg (by decide +kernel)]; exact ⟨rfl, rfl⟩))
    (fun os started H enc _ => UtfHeads_lifted os started H enc)

end Go.Proofs.Ytbgebincgfpanaa
