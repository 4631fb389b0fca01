/-
  The statement LocPatternCard is proved: at every input the law answers true, and its input reads as it did. Conditions: those of the card (package variables are as the program text lays them).
-/
import Derived.Test.YtcapcgbamehojaaGreatDoorP
import Derived.Test.YtcapcgbamehojaaGreatDoorSyGL
import Derived.Test.YtcapcgbamehojaaGreatDoorCards
import Derived.Test.YtcapcgbamehojaaGreatDoorTie
import Derived.ProofKit
import Derived.SizedLaws
import Derived.LaidMore
import Derived.SevenTiedAt
namespace Go.Proofs.YtcapcgbamehojaaGreatDoor
open Go Go.Sy Go.RowKit Go.ChangeShapes Go.WideShapes Go.ChangeAt
set_option linter.unusedVariables false
set_option linter.unusedSimpArgs false
set_option maxRecDepth 100000
set_option maxHeartbeats 4000000

theorem Tryz.own : ownKnob Tryz.prog.godebug = none := by kernel_rfl
theorem Tryz.laidOut : laidOutB Tryz.prog = true := by kernel_rfl

theorem y0W {α : Type} {l : List α} (h : l.length = 7) : ∃ a0 a1 a2 a3 a4 a5 a6, l = [a0, a1, a2, a3, a4, a5, a6] := by
  match l, h with
  | [a0, a1, a2, a3, a4, a5, a6], _ => exact ⟨a0, a1, a2, a3, a4, a5, a6, rfl⟩
/-- Its numbers are numbers of their kinds, its lists no longer than memory. -/
def v0E (x : d0k) : Prop := (WfI .i32) x.H_ ∧ (WfI .i32) x.w_ ∧ (WfI .i32) x.v_ ∧ (WfI .i32) x.u_ ∧ (WfI .i32) x.t_ ∧ (WfI .i32) x.s_ ∧ (WfI .i32) x.b_
theorem t0C {n : Nat} : v0F Tryz.prog (n + 2) 23 a0h v0E := fun d cs h hs => by
  have hl : cs.length = 7 := (t0O Tryz.underlying23 h).trans (by kernel_rfl)
  obtain ⟨c0, c1, c2, c3, c4, c5, c6, rfl⟩ := y0W hl
  obtain ⟨p0, h0, z0⟩ := e0p Tryz.underlying23 h hs 0 21 [c0] (by kernel_rfl)
  obtain ⟨x0, e0, w0⟩ : ∃ x : Int, [c0] = (a0r .i32) x ∧ (WfI .i32) x := (f0z Tryz.underlying21) p0 _ h0 z0
  obtain ⟨p1, h1, z1⟩ := e0p Tryz.underlying23 h hs 1 21 [c1] (by kernel_rfl)
  obtain ⟨x1, e1, w1⟩ : ∃ x : Int, [c1] = (a0r .i32) x ∧ (WfI .i32) x := (f0z Tryz.underlying21) p1 _ h1 z1
  obtain ⟨p2, h2, z2⟩ := e0p Tryz.underlying23 h hs 2 21 [c2] (by kernel_rfl)
  obtain ⟨x2, e2, w2⟩ : ∃ x : Int, [c2] = (a0r .i32) x ∧ (WfI .i32) x := (f0z Tryz.underlying21) p2 _ h2 z2
  obtain ⟨p3, h3, z3⟩ := e0p Tryz.underlying23 h hs 3 21 [c3] (by kernel_rfl)
  obtain ⟨x3, e3, w3⟩ : ∃ x : Int, [c3] = (a0r .i32) x ∧ (WfI .i32) x := (f0z Tryz.underlying21) p3 _ h3 z3
  obtain ⟨p4, h4, z4⟩ := e0p Tryz.underlying23 h hs 4 21 [c4] (by kernel_rfl)
  obtain ⟨x4, e4, w4⟩ : ∃ x : Int, [c4] = (a0r .i32) x ∧ (WfI .i32) x := (f0z Tryz.underlying21) p4 _ h4 z4
  obtain ⟨p5, h5, z5⟩ := e0p Tryz.underlying23 h hs 5 21 [c5] (by kernel_rfl)
  obtain ⟨x5, e5, w5⟩ : ∃ x : Int, [c5] = (a0r .i32) x ∧ (WfI .i32) x := (f0z Tryz.underlying21) p5 _ h5 z5
  obtain ⟨p6, h6, z6⟩ := e0p Tryz.underlying23 h hs 6 21 [c6] (by kernel_rfl)
  obtain ⟨x6, e6, w6⟩ : ∃ x : Int, [c6] = (a0r .i32) x ∧ (WfI .i32) x := (f0z Tryz.underlying21) p6 _ h6 z6
  refine ⟨⟨x0, x1, x2, x3, x4, x5, x6⟩, ?_, ⟨w0, w1, w2, w3, w4, w5, w6⟩⟩
  show [c0] ++ [c1] ++ [c2] ++ [c3] ++ [c4] ++ [c5] ++ [c6] = ((a0r .i32) x0 ++ (a0r .i32) x1 ++ (a0r .i32) x2 ++ (a0r .i32) x3 ++ (a0r .i32) x4 ++ (a0r .i32) x5 ++ (a0r .i32) x6)
  rw [e0, e1, e2, e3, e4, e5, e6]
theorem s0I : d0C = some true := by kernel_rfl
theorem x0F {s : d0k} (w : v0E s) : v0K s := by
  obtain ⟨_, w1, w2, w3, w4, w5, w6⟩ := w
  intro x hx
  simp only [aJ, bQ, or_false] at hx
  rcases hx with rfl | rfl | rfl | rfl | rfl | rfl
  · exact n0S w1
  · exact n0S w2
  · exact n0S w3
  · exact n0S w4
  · exact n0S w5
  · exact n0S w6
theorem r0X {a c : List a0b} {k n : Int} (h : a0y k a c = some n) : ∃ u v, a0X a k = some u ∧ a0X c k = some v ∧ IntKind.wrap .i64 (u + v) = n := by
  unfold a0y at h
  obtain ⟨u, h1, h⟩ := a0d h
  obtain ⟨v, h2, h⟩ := a0d h
  exact ⟨u, v, h1, h2, oi h⟩
theorem x0a {x k : Int} : (decide ((if x = k then (1 : Int) else 0) = 1) != decide (x = k)) = false := by
  by_cases h : x = k
  · rw [if_pos h, dT h]; rfl
  · rw [if_neg h, dF h]; rfl
theorem q0y (x0 : d0k) (w0 : v0E x0) (x1 : Int) (w1 : WfI .i64 x1) (x2 : List UInt8) (w2 : WfT x2) : c0m x0 x1 x2 = some true := by
  have hs := x0F w0
  obtain ⟨g, eg, hz⟩ := z0a hs
  unfold c0m
  rw [s0I, aa, eg, aa]
  cases g with
  | false => rfl
  | true =>
    have hz := hz rfl
    by_cases hl : (x2.length : Int) > 400
    · rw [dT hl]; rfl
    rw [dF hl]
    simp only [aK, cond_false, aa, a0i]
    obtain ⟨⟨p, b⟩, er, h1, h2⟩ := q0O (s := x0) hs (x := x1) (t := x2) (by omega)
    rw [er, aa]
    cases b with
    | false =>
      have hp : x0v p := h1 rfl
      unfold x0v at hp
      simp only [Bool.not_false, cond_true]
      rw [hp, r0Q ⟨by simp, by simp, by simp, by simp⟩]
      rfl
    | true =>
      obtain ⟨hl, hr, ⟨n1, n2, n3, n4⟩, ⟨k3, k4⟩, A, ⟨q0, q1, q2⟩, ⟨f0, f1, f2⟩, ⟨c0, c1, c2⟩, d1, d2⟩ := h2 rfl
      simp only at hl hr n1 n2 n3 n4 k3 k4 f0 f1 f2
      have hk := u0L hl
      obtain ⟨u, v, u1, u2, u3⟩ := r0X k3
      obtain ⟨m, n, m1, m2, m3⟩ := r0X k4
      have hn : 0 ≤ p.m_ + p.g_ := by omega
      have hw : IntKind.wrap .i64 (p.m_ + p.g_) = p.m_ + p.g_ := w64 (by omega) (by omega)
      simp only [aK, cond_false]
      have he : (decide (p.b_ > 0) != decide (x1 = 2)) = false := by
        by_cases h : x1 = 2
        · rw [dT h, dT (show p.b_ > 0 from n1.2 h)]; rfl
        · rw [dF h, dF (show ¬ p.b_ > 0 from fun e => h (n1.1 e))]; rfl
      rw [u1, u2, m1, m2, hr, u0t hk (.inl rfl) f0, u0t hk (.inr (.inl rfl)) f1, u0t hk (.inr (.inr rfl)) f2]
      simp only [aa, aK, cond_false, cond_true]
      rw [u3, m3, x0a, x0a, hw, dF (show ¬ p.m_ + p.g_ < 1 by omega), he]
      simp only [cond_false, aa, a0i]
      rw [q0u q0, q0u q1, n0y hz q0 c0, n0y hz q1 c1, n0y hz q2 c2, dF d1, dF d2]
      rfl

def n0I {H : Type} : List (String × DataW H) := [("math/bits.deBruijn32tab", Rows.laid_math_bits_deBruijn32tab), ("math/bits.deBruijn64tab", Rows.laid_math_bits_deBruijn64tab), ("internal/strconv.uint64pow10", Rows.laid_internal_strconv_uint64pow10), ("exergue/class.noughts", Rows.laid_exergue_class_noughts)]
theorem w0I (os : Os) (args : Array Value) : laidMetH Tryz.prog n0I ((World.doorLaid Tryz.prog 4000 os).forCall (fun _ _ => 0) ⟨#[], args, []⟩).memory :=
  laidMetH_of_parts3 (fuel := 8) (laidMet_of_run' 8 (by kernel_rfl) (by kernel_rfl)) (by kernel_rfl) (by kernel_rfl)

/-- Package variables hold what they are said to. -/
theorem w0G {W : World} (hL : laidMetH Tryz.prog n0I W) : k0e W (KW W) fun _ => none := fun g cs h => by
  have hh : (n0I (H := Unit)).all (fun x => x.2.handleName?.isNone) = true := by kernel_rfl
  by_cases h0 : g = 0
  · subst h0
    obtain rfl := aV (show some [.int .i32 48, .int .i32 1632, .int .i32 1776, .int .i32 1984, .int .i32 2406, .int .i32 2534, .int .i32 2662, .int .i32 2790, .int .i32 2918, .int .i32 3046, .int .i32 3174, .int .i32 3302, .int .i32 3430, .int .i32 3664, .int .i32 3792, .int .i32 3872, .int .i32 6112, .int .i32 6160, .int .i32 65296, .int .i32 120782] = some cs from h)
    exact l0a hh hL (nm := "exergue/class.noughts") (t := 172) (e := 21) (n := 20) (k := .i32) [48, 1632, 1776, 1984, 2406, 2534, 2662, 2790, 2918, 3046, 3174, 3302, 3430, 3664, 3792, 3872, 6112, 6160, 65296, 120782] (by unfold n0I; simp only [aJ, bQ, or_false]; first | exact Or.inl rfl | exact Or.inr (Or.inl rfl) | exact Or.inr (Or.inr (Or.inl rfl)) | exact Or.inr rfl | exact Or.inr (Or.inr rfl) | exact Or.inr (Or.inr (Or.inr rfl)) | rfl) (by kernel_rfl) (by kernel_rfl) Tryz.underlying172 Tryz.underlying21 (by kernel_rfl) (by kernel_rfl)
  by_cases h2 : g = 2
  · subst h2
    obtain rfl := aV (show some [.int .u64 1, .int .u64 10, .int .u64 100, .int .u64 1000, .int .u64 10000, .int .u64 100000, .int .u64 1000000, .int .u64 10000000, .int .u64 100000000, .int .u64 1000000000, .int .u64 10000000000, .int .u64 100000000000, .int .u64 1000000000000, .int .u64 10000000000000, .int .u64 100000000000000, .int .u64 1000000000000000, .int .u64 10000000000000000, .int .u64 100000000000000000, .int .u64 1000000000000000000, .int .u64 10000000000000000000] = some cs from h)
    exact l0a hh hL (nm := "internal/strconv.uint64pow10") (t := 250) (e := 241) (n := 20) (k := .u64) [1, 10, 100, 1000, 10000, 100000, 1000000, 10000000, 100000000, 1000000000, 10000000000, 100000000000, 1000000000000, 10000000000000, 100000000000000, 1000000000000000, 10000000000000000, 100000000000000000, 1000000000000000000, 10000000000000000000] (by unfold n0I; simp only [aJ, bQ, or_false]; first | exact Or.inl rfl | exact Or.inr (Or.inl rfl) | exact Or.inr (Or.inr (Or.inl rfl)) | exact Or.inr rfl | exact Or.inr (Or.inr rfl) | exact Or.inr (Or.inr (Or.inr rfl)) | rfl) (by kernel_rfl) (by kernel_rfl) Tryz.underlying250 Tryz.underlying241 (by kernel_rfl) (by kernel_rfl)
  by_cases h3 : g = 3
  · subst h3
    obtain rfl := aV (show some [.int .u8 0, .int .u8 1, .int .u8 28, .int .u8 2, .int .u8 29, .int .u8 14, .int .u8 24, .int .u8 3, .int .u8 30, .int .u8 22, .int .u8 20, .int .u8 15, .int .u8 25, .int .u8 17, .int .u8 4, .int .u8 8, .int .u8 31, .int .u8 27, .int .u8 13, .int .u8 23, .int .u8 21, .int .u8 19, .int .u8 16, .int .u8 7, .int .u8 26, .int .u8 12, .int .u8 18, .int .u8 6, .int .u8 11, .int .u8 5, .int .u8 10, .int .u8 9] = some cs from h)
    exact l0a hh hL (nm := "math/bits.deBruijn32tab") (t := 257) (e := 5) (n := 32) (k := .u8) [0, 1, 28, 2, 29, 14, 24, 3, 30, 22, 20, 15, 25, 17, 4, 8, 31, 27, 13, 23, 21, 19, 16, 7, 26, 12, 18, 6, 11, 5, 10, 9] (by unfold n0I; simp only [aJ, bQ, or_false]; first | exact Or.inl rfl | exact Or.inr (Or.inl rfl) | exact Or.inr (Or.inr (Or.inl rfl)) | exact Or.inr rfl | exact Or.inr (Or.inr rfl) | exact Or.inr (Or.inr (Or.inr rfl)) | rfl) (by kernel_rfl) (by kernel_rfl) Tryz.underlying257 Tryz.underlying5 (by kernel_rfl) (by kernel_rfl)
  by_cases h4 : g = 4
  · subst h4
    obtain rfl := aV (show some [.int .u8 0, .int .u8 1, .int .u8 56, .int .u8 2, .int .u8 57, .int .u8 49, .int .u8 28, .int .u8 3, .int .u8 61, .int .u8 58, .int .u8 42, .int .u8 50, .int .u8 38, .int .u8 29, .int .u8 17, .int .u8 4, .int .u8 62, .int .u8 47, .int .u8 59, .int .u8 36, .int .u8 45, .int .u8 43, .int .u8 51, .int .u8 22, .int .u8 53, .int .u8 39, .int .u8 33, .int .u8 30, .int .u8 24, .int .u8 18, .int .u8 12, .int .u8 5, .int .u8 63, .int .u8 55, .int .u8 48, .int .u8 27, .int .u8 60, .int .u8 41, .int .u8 37, .int .u8 16, .int .u8 46, .int .u8 35, .int .u8 44, .int .u8 21, .int .u8 52, .int .u8 32, .int .u8 23, .int .u8 11, .int .u8 54, .int .u8 26, .int .u8 40, .int .u8 15, .int .u8 34, .int .u8 20, .int .u8 31, .int .u8 10, .int .u8 25, .int .u8 14, .int .u8 19, .int .u8 9, .int .u8 13, .int .u8 8, .int .u8 7, .int .u8 6] = some cs from h)
    exact l0a hh hL (nm := "math/bits.deBruijn64tab") (t := 258) (e := 5) (n := 64) (k := .u8) [0, 1, 56, 2, 57, 49, 28, 3, 61, 58, 42, 50, 38, 29, 17, 4, 62, 47, 59, 36, 45, 43, 51, 22, 53, 39, 33, 30, 24, 18, 12, 5, 63, 55, 48, 27, 60, 41, 37, 16, 46, 35, 44, 21, 52, 32, 23, 11, 54, 26, 40, 15, 34, 20, 31, 10, 25, 14, 19, 9, 13, 8, 7, 6] (by unfold n0I; simp only [aJ, bQ, or_false]; first | exact Or.inl rfl | exact Or.inr (Or.inl rfl) | exact Or.inr (Or.inr (Or.inl rfl)) | exact Or.inr rfl | exact Or.inr (Or.inr rfl) | exact Or.inr (Or.inr (Or.inr rfl)) | rfl) (by kernel_rfl) (by kernel_rfl) Tryz.underlying258 Tryz.underlying5 (by kernel_rfl) (by kernel_rfl)
  exfalso
  have : w0E g = none := by
    unfold w0E
    split <;> first | rfl | (exfalso; simp_all)
  rw [show z0s g = w0E g from rfl, this] at h
  cases h

set_option maxRecDepth 100000 in
theorem l0M (os : Os) (started : os.Started) (H : Type) (enc : TypeId × Value → H) :
    ReturnsInHanded {} Tryz.checked os 6 .any (fun w args => (Rows.locPatternSpec.pre enc Tryz.prog Tryz.f6 [] false w args ∧ laidMetH Tryz.prog n0I w) ∧ sizedMet enc Tryz.prog Tryz.f6 (OpenSpec.ofChange Rows.locPatternSpec) false w args) (Rows.locPatternSpec.post enc Tryz.prog Tryz.f6 false true false false) := by
  refine returnsInHanded_of_change_and (C := Tryz.checked) (X := fun w _ => laidMetH Tryz.prog n0I w) (fun _ _ _ hh h => h.of_heap hh) Tryz.own started (by kernel_rfl) Tryz.func6
    (ChangeSpec.witness_shaped (enc := enc) (C := Tryz.checked) (os := os) (X := fun w _ => laidMetH Tryz.prog n0I w) false (World.doorLaid Tryz.prog 4000 os) #[.agg #[.int .i32 0, .int .i32 0, .int .i32 0, .int .i32 0, .int .i32 0, .int .i32 0, .int .i32 0], .int .i64 0, .string ⟨#[]⟩] 8 rfl (World.shaped_of_RefB (by kernel_rfl) (by kernel_rfl)) (by kernel_rfl) (by kernel_rfl) (by kernel_rfl) (w0I os _)) ?_
  intro W base args ds gs before hval0 hW _ hsz0 hL _
  have hsz : (DataW.weightsEach Tryz.prog (Tryz.f6.params.toList ++ Rows.locPatternSpec.plain.varTypes Tryz.prog) (ds ++ gs)).all (· ≤ reachBytes) = true := hsz0
  clear hsz0
  refine w0z (P := Tryz.prog) (n := 2) (tb := 4) Tryz.laidOut Tryz.underlying4 rfl rfl (by kernel_rfl) (fun h => ?_) hval0 hW ?_ (w0G hL)
  · rw [Tryz.params6] at h
    obtain ⟨d0, d1, d2, rfl⟩ := l3 h
    exact ⟨rfl, rfl, rfl⟩
  · intro ss hg hl1 hl2 hs
    subst hg
    rw [Tryz.params6] at hl1 hl2 hs hsz
    obtain ⟨d0, d1, d2, rfl⟩ := l3 hl1
    obtain ⟨s0, s1, s2, rfl⟩ := l3 hl2
    obtain ⟨cs0, rfl, hc0⟩ := o0t Tryz.underlying23 (hs 0 23 _ _ rfl rfl rfl)
    obtain ⟨a0, rfl, w0⟩ := t0C (n := 0) _ _ hc0 (k0k hsz (j := 0) rfl rfl)
    obtain ⟨a1, e1, w1⟩ := (show v0F Tryz.prog 2 3 (a0r .i64) (WfI .i64) from (f0z Tryz.underlying3)) _ _ (k0G Tryz.underlying3 (fun _ => by simp) (fun _ _ => by simp) (hs 1 3 _ _ rfl rfl rfl)) (k0k hsz (j := 1) rfl rfl)
    obtain rfl : s1 = .int .i64 a1 := (List.cons.inj e1).1
    obtain ⟨a2, e2, w2⟩ := (show v0F Tryz.prog 2 9 z0H WfT from (t0B Tryz.underlying9)) _ _ (k0G Tryz.underlying9 (fun _ => by simp) (fun _ _ => by simp) (hs 2 9 _ _ rfl rfl rfl)) (k0k hsz (j := 2) rfl rfl)
    obtain rfl : s2 = .str a2 := (List.cons.inj e2).1
    exact ⟨[], g0K (q0y a0 w0 a1 w1 a2 w2)⟩
theorem n0R : Rows.LocPatternSaid :=
  OpenClaim.holds_of_wide 6 Tryz.f6 rfl rfl rfl rfl rfl rfl rfl ⟨rfl, rfl, rfl, rfl, rfl⟩ rfl rfl rfl rfl rfl (by kernel_rfl) Tryz.func6 (by kernel_rfl)
    (of_decide_eq_true (by kernel_rfl)) (by unfold Func.isWrapper; first | (rw [if_pos (by decide +kernel)]; kernel_rfl) | (rw [if_neg (by decide +kernel)]; exact ⟨rfl, rfl⟩))
    (fun os started H enc _ => l0M os started H enc)

theorem LocPattern_holds : Rows.LocPatternCardSaid :=
  Claim7.holds_tied_plain_at .later [] [.data, .data, .data, .data] true (true, "de599d8f743361fb38ba7e693bad57f7b00ee969443c7958de219e14c746c2b3") false
    n0R (fun _ h => by cases h) (by kernel_rfl) (fun _ h => by cases h) locPattern_row_tie rfl ⟨rfl, rfl⟩ (by kernel_rfl) rfl
    (fun f fn hf hfn => by
      obtain rfl : f = 6 := aV ((show Tryz.prog.funcNamed "exergue/exerguelaw15.LocPattern" = some 6 by kernel_rfl).symm.trans hf) |>.symm
      obtain rfl : fn = Tryz.f6 := (aV (Tryz.func6.symm.trans hfn)).symm
      exact ⟨by kernel_rfl, fun j t ht => by
        rw [Tryz.params6] at ht
        have hm : t ∈ [23, 3, 9] := by simpa using Array.mem_of_getElem? ht
        have hall : ([23, 3, 9].all fun u => !Tryz.prog.wantsStandIn u) = true := by kernel_rfl
        exact (show Tryz.prog.wantsStandIn t = false by simpa using List.all_eq_true.1 hall t hm)⟩)
    (by kernel_rfl)

end Go.Proofs.YtcapcgbamehojaaGreatDoor
