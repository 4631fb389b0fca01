/-
  The statement BundPool is proved: at every input the law answers true, and its input reads as it did. No conditions.
-/
import Derived.Test.YthhabncebpaheaaP
import Derived.Test.YthhabncebpaheaaRows
import Derived.ProofKit
import Derived.SizedLaws
namespace Go.Proofs.Ythhabncebpaheaa
open Go Go.Sy Go.RowKit Go.ChangeShapes Go.WideShapes Go.ChangeAt
set_option linter.unusedVariables false
set_option linter.unusedSimpArgs false
set_option maxRecDepth 100000
set_option maxHeartbeats 4000000

theorem glob_none {w : World} {K : Nat → Nat} {D : DM} : GlobOk w K D := fun g cs h => by
  have h2 : (none : Option (List SV)) = some cs := h
  cases h2
theorem Try.own : ownKnob Try.prog.godebug = none := by kernel_rfl
theorem Try.laidOut : laidOutB Try.prog = true := by kernel_rfl

theorem listN2 {α : Type} {l : List α} (h : l.length = 2) : ∃ a0 a1, l = [a0, a1] := by
  match l, h with
  | [a0, a1], _ => exact ⟨a0, a1, rfl⟩
theorem listN3 {α : Type} {l : List α} (h : l.length = 3) : ∃ a0 a1 a2, l = [a0, a1, a2] := by
  match l, h with
  | [a0, a1, a2], _ => exact ⟨a0, a1, a2, rfl⟩
theorem listN4 {α : Type} {l : List α} (h : l.length = 4) : ∃ a0 a1 a2 a3, l = [a0, a1, a2, a3] := by
  match l, h with
  | [a0, a1, a2, a3], _ => exact ⟨a0, a1, a2, a3, rfl⟩
theorem listN7 {α : Type} {l : List α} (h : l.length = 7) : ∃ a0 a1 a2 a3 a4 a5 a6, l = [a0, a1, a2, a3, a4, a5, a6] := by
  match l, h with
  | [a0, a1, a2, a3, a4, a5, a6], _ => exact ⟨a0, a1, a2, a3, a4, a5, a6, rfl⟩
theorem listN15 {α : Type} {l : List α} (h : l.length = 15) : ∃ a0 a1 a2 a3 a4 a5 a6 a7 a8 a9 a10 a11 a12 a13 a14, l = [a0, a1, a2, a3, a4, a5, a6, a7, a8, a9, a10, a11, a12, a13, a14] := by
  match l, h with
  | [a0, a1, a2, a3, a4, a5, a6, a7, a8, a9, a10, a11, a12, a13, a14], _ => exact ⟨a0, a1, a2, a3, a4, a5, a6, a7, a8, a9, a10, a11, a12, a13, a14, rfl⟩
/-- Its numbers are numbers of their kinds, its lists no longer than memory. -/
def WfSt22 (x : St22) : Prop := (WfI .i32) x.Zero_ ∧ (WfI .i32) x.Dec_ ∧ (WfI .i32) x.Group_ ∧ (WfI .i32) x.Minus_ ∧ (WfI .i32) x.Plus_ ∧ (WfI .i32) x.Percent_ ∧ (WfI .i32) x.Exp_
theorem tells_T23 {n : Nat} : Tells Try.prog (n + 2) 23 encSt22 WfSt22 := fun d cs h hs => by
  have hl : cs.length = 7 := (shows_len Try.underlying23 h).trans (by kernel_rfl)
  obtain ⟨c0, c1, c2, c3, c4, c5, c6, rfl⟩ := listN7 hl
  obtain ⟨p0, h0, z0⟩ := shows_field Try.underlying23 h hs 0 21 [c0] (by kernel_rfl)
  obtain ⟨x0, e0, w0⟩ : ∃ x : Int, [c0] = (encI .i32) x ∧ (WfI .i32) x := (tells_int Try.underlying21) p0 _ h0 z0
  obtain ⟨p1, h1, z1⟩ := shows_field Try.underlying23 h hs 1 21 [c1] (by kernel_rfl)
  obtain ⟨x1, e1, w1⟩ : ∃ x : Int, [c1] = (encI .i32) x ∧ (WfI .i32) x := (tells_int Try.underlying21) p1 _ h1 z1
  obtain ⟨p2, h2, z2⟩ := shows_field Try.underlying23 h hs 2 21 [c2] (by kernel_rfl)
  obtain ⟨x2, e2, w2⟩ : ∃ x : Int, [c2] = (encI .i32) x ∧ (WfI .i32) x := (tells_int Try.underlying21) p2 _ h2 z2
  obtain ⟨p3, h3, z3⟩ := shows_field Try.underlying23 h hs 3 21 [c3] (by kernel_rfl)
  obtain ⟨x3, e3, w3⟩ : ∃ x : Int, [c3] = (encI .i32) x ∧ (WfI .i32) x := (tells_int Try.underlying21) p3 _ h3 z3
  obtain ⟨p4, h4, z4⟩ := shows_field Try.underlying23 h hs 4 21 [c4] (by kernel_rfl)
  obtain ⟨x4, e4, w4⟩ : ∃ x : Int, [c4] = (encI .i32) x ∧ (WfI .i32) x := (tells_int Try.underlying21) p4 _ h4 z4
  obtain ⟨p5, h5, z5⟩ := shows_field Try.underlying23 h hs 5 21 [c5] (by kernel_rfl)
  obtain ⟨x5, e5, w5⟩ : ∃ x : Int, [c5] = (encI .i32) x ∧ (WfI .i32) x := (tells_int Try.underlying21) p5 _ h5 z5
  obtain ⟨p6, h6, z6⟩ := shows_field Try.underlying23 h hs 6 21 [c6] (by kernel_rfl)
  obtain ⟨x6, e6, w6⟩ : ∃ x : Int, [c6] = (encI .i32) x ∧ (WfI .i32) x := (tells_int Try.underlying21) p6 _ h6 z6
  refine ⟨⟨x0, x1, x2, x3, x4, x5, x6⟩, ?_, ⟨w0, w1, w2, w3, w4, w5, w6⟩⟩
  show [c0] ++ [c1] ++ [c2] ++ [c3] ++ [c4] ++ [c5] ++ [c6] = ((encI .i32) x0 ++ (encI .i32) x1 ++ (encI .i32) x2 ++ (encI .i32) x3 ++ (encI .i32) x4 ++ (encI .i32) x5 ++ (encI .i32) x6)
  rw [e0, e1, e2, e3, e4, e5, e6]
/-- Its numbers are numbers of their kinds, its lists no longer than memory. -/
def WfSt24 (x : St24) : Prop := WfT x.a0_ ∧ WfT x.a1_ ∧ WfT x.a2_ ∧ WfT x.a3_
theorem tells_T24 {n : Nat} : Tells Try.prog (n + 2) 24 encSt24 WfSt24 := fun d cs h hs => by
  have hl : cs.length = 4 := (shows_alen Try.underlying24 h).trans (by kernel_rfl)
  obtain ⟨c0, c1, c2, c3, rfl⟩ := listN4 hl
  obtain ⟨p0, h0, z0⟩ := shows_elem Try.underlying24 h hs 0 [c0] (by kernel_rfl) (by kernel_rfl)
  obtain ⟨x0, e0, w0⟩ : ∃ x : List UInt8, [c0] = encT x ∧ WfT x := (tells_str Try.underlying9) p0 _ h0 z0
  obtain ⟨p1, h1, z1⟩ := shows_elem Try.underlying24 h hs 1 [c1] (by kernel_rfl) (by kernel_rfl)
  obtain ⟨x1, e1, w1⟩ : ∃ x : List UInt8, [c1] = encT x ∧ WfT x := (tells_str Try.underlying9) p1 _ h1 z1
  obtain ⟨p2, h2, z2⟩ := shows_elem Try.underlying24 h hs 2 [c2] (by kernel_rfl) (by kernel_rfl)
  obtain ⟨x2, e2, w2⟩ : ∃ x : List UInt8, [c2] = encT x ∧ WfT x := (tells_str Try.underlying9) p2 _ h2 z2
  obtain ⟨p3, h3, z3⟩ := shows_elem Try.underlying24 h hs 3 [c3] (by kernel_rfl) (by kernel_rfl)
  obtain ⟨x3, e3, w3⟩ : ∃ x : List UInt8, [c3] = encT x ∧ WfT x := (tells_str Try.underlying9) p3 _ h3 z3
  refine ⟨⟨x0, x1, x2, x3⟩, ?_, ⟨w0, w1, w2, w3⟩⟩
  show [c0] ++ [c1] ++ [c2] ++ [c3] = (encT x0 ++ encT x1 ++ encT x2 ++ encT x3)
  rw [e0, e1, e2, e3]
/-- Its numbers are numbers of their kinds, its lists no longer than memory. -/
def WfSt57 (x : St57) : Prop := (WfI .i64) x.Cat_ ∧ WfT x.Text_
theorem tells_T58 {n : Nat} : Tells Try.prog (n + 2) 58 encSt57 WfSt57 := fun d cs h hs => by
  have hl : cs.length = 2 := (shows_len Try.underlying58 h).trans (by kernel_rfl)
  obtain ⟨c0, c1, rfl⟩ := listN2 hl
  obtain ⟨p0, h0, z0⟩ := shows_field Try.underlying58 h hs 0 3 [c0] (by kernel_rfl)
  obtain ⟨x0, e0, w0⟩ : ∃ x : Int, [c0] = (encI .i64) x ∧ (WfI .i64) x := (tells_int Try.underlying3) p0 _ h0 z0
  obtain ⟨p1, h1, z1⟩ := shows_field Try.underlying58 h hs 1 9 [c1] (by kernel_rfl)
  obtain ⟨x1, e1, w1⟩ : ∃ x : List UInt8, [c1] = encT x ∧ WfT x := (tells_str Try.underlying9) p1 _ h1 z1
  refine ⟨⟨x0, x1⟩, ?_, ⟨w0, w1⟩⟩
  show [c0] ++ [c1] = ((encI .i64) x0 ++ encT x1)
  rw [e0, e1]
/-- Its numbers are numbers of their kinds, its lists no longer than memory. -/
def WfSt59 (x : St59) : Prop := WfT x.Code_ ∧ WfT x.Sign_ ∧ (WfI .i64) x.Digits_
theorem tells_T60 {n : Nat} : Tells Try.prog (n + 2) 60 encSt59 WfSt59 := fun d cs h hs => by
  have hl : cs.length = 3 := (shows_len Try.underlying60 h).trans (by kernel_rfl)
  obtain ⟨c0, c1, c2, rfl⟩ := listN3 hl
  obtain ⟨p0, h0, z0⟩ := shows_field Try.underlying60 h hs 0 9 [c0] (by kernel_rfl)
  obtain ⟨x0, e0, w0⟩ : ∃ x : List UInt8, [c0] = encT x ∧ WfT x := (tells_str Try.underlying9) p0 _ h0 z0
  obtain ⟨p1, h1, z1⟩ := shows_field Try.underlying60 h hs 1 9 [c1] (by kernel_rfl)
  obtain ⟨x1, e1, w1⟩ : ∃ x : List UInt8, [c1] = encT x ∧ WfT x := (tells_str Try.underlying9) p1 _ h1 z1
  obtain ⟨p2, h2, z2⟩ := shows_field Try.underlying60 h hs 2 3 [c2] (by kernel_rfl)
  obtain ⟨x2, e2, w2⟩ : ∃ x : Int, [c2] = (encI .i64) x ∧ (WfI .i64) x := (tells_int Try.underlying3) p2 _ h2 z2
  refine ⟨⟨x0, x1, x2⟩, ?_, ⟨w0, w1, w2⟩⟩
  show [c0] ++ [c1] ++ [c2] = (encT x0 ++ encT x1 ++ (encI .i64) x2)
  rw [e0, e1, e2]
/-- Its numbers are numbers of their kinds, its lists no longer than memory. -/
def WfSt61 (x : St61) : Prop := (WfI .i64) x.Mag_ ∧ (WfI .i64) x.Cat_ ∧ WfT x.Pat_
theorem tells_T62 {n : Nat} : Tells Try.prog (n + 2) 62 encSt61 WfSt61 := fun d cs h hs => by
  have hl : cs.length = 3 := (shows_len Try.underlying62 h).trans (by kernel_rfl)
  obtain ⟨c0, c1, c2, rfl⟩ := listN3 hl
  obtain ⟨p0, h0, z0⟩ := shows_field Try.underlying62 h hs 0 3 [c0] (by kernel_rfl)
  obtain ⟨x0, e0, w0⟩ : ∃ x : Int, [c0] = (encI .i64) x ∧ (WfI .i64) x := (tells_int Try.underlying3) p0 _ h0 z0
  obtain ⟨p1, h1, z1⟩ := shows_field Try.underlying62 h hs 1 3 [c1] (by kernel_rfl)
  obtain ⟨x1, e1, w1⟩ : ∃ x : Int, [c1] = (encI .i64) x ∧ (WfI .i64) x := (tells_int Try.underlying3) p1 _ h1 z1
  obtain ⟨p2, h2, z2⟩ := shows_field Try.underlying62 h hs 2 9 [c2] (by kernel_rfl)
  obtain ⟨x2, e2, w2⟩ : ∃ x : List UInt8, [c2] = encT x ∧ WfT x := (tells_str Try.underlying9) p2 _ h2 z2
  refine ⟨⟨x0, x1, x2⟩, ?_, ⟨w0, w1, w2⟩⟩
  show [c0] ++ [c1] ++ [c2] = ((encI .i64) x0 ++ (encI .i64) x1 ++ encT x2)
  rw [e0, e1, e2]
/-- Its numbers are numbers of their kinds, its lists no longer than memory. -/
def WfSt28 (x : St28) : Prop := WfT x.Tag_ ∧ WfSt22 x.S_ ∧ WfSt24 x.Pats_ ∧ (WfL WfSt57) x.Rules_ ∧ (WfL WfSt59) x.Curs_ ∧ (WfL WfSt61) x.Comps_
theorem tells_T29 {n : Nat} : Tells Try.prog (n + 4) 29 encSt28 WfSt28 := fun d cs h hs => by
  have hl : cs.length = 15 := (shows_len Try.underlying29 h).trans (by kernel_rfl)
  obtain ⟨c0, c1, c2, c3, c4, c5, c6, c7, c8, c9, c10, c11, c12, c13, c14, rfl⟩ := listN15 hl
  obtain ⟨p0, h0, z0⟩ := shows_field Try.underlying29 h hs 0 9 [c0] (by kernel_rfl)
  obtain ⟨x0, e0, w0⟩ : ∃ x : List UInt8, [c0] = encT x ∧ WfT x := (tells_str Try.underlying9) p0 _ h0 z0
  obtain ⟨p1, h1, z1⟩ := shows_field Try.underlying29 h hs 1 23 [c1, c2, c3, c4, c5, c6, c7] (by kernel_rfl)
  obtain ⟨x1, e1, w1⟩ : ∃ x : St22, [c1, c2, c3, c4, c5, c6, c7] = encSt22 x ∧ WfSt22 x := tells_T23 p1 _ h1 z1
  obtain ⟨p2, h2, z2⟩ := shows_field Try.underlying29 h hs 2 24 [c8, c9, c10, c11] (by kernel_rfl)
  obtain ⟨x2, e2, w2⟩ : ∃ x : St24, [c8, c9, c10, c11] = encSt24 x ∧ WfSt24 x := tells_T24 p2 _ h2 z2
  obtain ⟨p3, h3, z3⟩ := shows_field Try.underlying29 h hs 3 25 [c12] (by kernel_rfl)
  obtain ⟨x3, e3, w3⟩ : ∃ x : List St57, [c12] = (encL encSt57 2) x ∧ (WfL WfSt57) x := (tells_list (enc := encSt57) (Wf := WfSt57) Try.underlying25 (k := 2) (by kernel_rfl) (by kernel_rfl) tells_T58) p3 _ h3 z3
  obtain ⟨p4, h4, z4⟩ := shows_field Try.underlying29 h hs 4 26 [c13] (by kernel_rfl)
  obtain ⟨x4, e4, w4⟩ : ∃ x : List St59, [c13] = (encL encSt59 3) x ∧ (WfL WfSt59) x := (tells_list (enc := encSt59) (Wf := WfSt59) Try.underlying26 (k := 3) (by kernel_rfl) (by kernel_rfl) tells_T60) p4 _ h4 z4
  obtain ⟨p5, h5, z5⟩ := shows_field Try.underlying29 h hs 5 27 [c14] (by kernel_rfl)
  obtain ⟨x5, e5, w5⟩ : ∃ x : List St61, [c14] = (encL encSt61 3) x ∧ (WfL WfSt61) x := (tells_list (enc := encSt61) (Wf := WfSt61) Try.underlying27 (k := 3) (by kernel_rfl) (by kernel_rfl) tells_T62) p5 _ h5 z5
  refine ⟨⟨x0, x1, x2, x3, x4, x5⟩, ?_, ⟨w0, w1, w2, w3, w4, w5⟩⟩
  show [c0] ++ [c1, c2, c3, c4, c5, c6, c7] ++ [c8, c9, c10, c11] ++ [c12] ++ [c13] ++ [c14] = (encT x0 ++ encSt22 x1 ++ encSt24 x2 ++ (encL encSt57 2) x3 ++ (encL encSt59 3) x4 ++ (encL encSt61 3) x5)
  rw [e0, e1, e2, e3, e4, e5]
theorem med_of {l : St28} (w : WfSt28 l) (h : l.Rules_.length ≤ 8 ∧ l.Curs_.length ≤ 105 ∧ l.Comps_.length ≤ 95) : Med l := by
  obtain ⟨-, ws, -, wr, wc, wk⟩ := w
  obtain ⟨z0, z1, z2, z3, z4, z5, z6⟩ := ws
  refine ⟨fun n hn => ?_, ⟨by omega, fun r hr => wf_i64 (wr.2 r hr).1⟩, ⟨by omega, fun c hc => wf_i64 (wc.2 c hc).2.2⟩, ⟨by omega, fun c hc => ⟨wf_i64 (wk.2 c hc).1, wf_i64 (wk.2 c hc).2.1⟩⟩⟩
  simp only [List.mem_cons, List.not_mem_nil, or_false] at hn
  rcases hn with rfl | rfl | rfl | rfl | rfl | rfl | rfl <;> exact wf_i32 (by assumption)
theorem small_med (l : St28) (w : WfSt28 l) : ∃ b, exergueref15_Small l = some b ∧ (b = true → Med l ∧ l.Rules_.length ≤ 8 ∧ l.Curs_.length ≤ 105 ∧ l.Comps_.length ≤ 95) := by
  have w' := w
  obtain ⟨-, -, -, wr, wc, wk⟩ := w'
  obtain ⟨b, h1, h2⟩ := small_eq l ⟨by have := wr.1; omega, by have := wc.1; omega, by have := wk.1; omega⟩
  exact ⟨b, h1, fun hb => ⟨med_of w (h2 hb), h2 hb⟩⟩

theorem Pool_true (l : St28) (w : WfSt28 l) (i : Int) (wi : WfI .i64 i) : exerguelaw16_BundPool l i = some true := by
  unfold exerguelaw16_BundPool
  rw [shown_eq]
  simp only [Option.bind_some]
  obtain ⟨sb, hs, hsm⟩ := small_med l w
  rw [hs]
  cases sb with
  | false => rfl
  | true =>
    obtain ⟨hm, hr, hc, hk⟩ := hsm rfl
    simp only [Bool.not_true, cond_false, Option.bind_some]
    rw [encode_eq hm, texts_eq hm]
    simp only [Option.bind_some]
    rcases encV_two hm with ho | he
    rotate_left
    · rw [he]; rfl
    have hbl := bytesL_small ho hr hc hk
    have hT := textsL_len l
    have hsl := summed_len (bytesL l)
    have i0 : inR 0 (textsL l).length = true := inR_int (by omega) (by omega)
    have i1 : inR 1 (textsL l).length = true := inR_int (by omega) (by omega)
    have i4 : inR 4 (textsL l).length = true := inR_int (by omega) (by omega)
    have n0 : nth (textsL l) 0 = l.Tag_ := rfl
    have n1 : nth (textsL l) 1 = l.Pats_.a0_ := rfl
    have n4 : nth (textsL l) 4 = l.Pats_.a3_ := rfl
    rw [encV_ok ho]
    simp only [not_true_eq_false, decide_false, cond_false]
    rw [w64 (n := 5 + (l.Rules_.length : Int)) (by omega) (by omega), w64 (n := 2 * (l.Curs_.length : Int)) (by omega) (by omega), w64 (n := 5 + (l.Rules_.length : Int) + 2 * (l.Curs_.length : Int)) (by omega) (by omega), w64 (n := 5 + (l.Rules_.length : Int) + 2 * (l.Curs_.length : Int) + (l.Comps_.length : Int)) (by omega) (by omega)]
    rw [dF (show ¬ ¬ ((textsL l).length : Int) = 5 + (l.Rules_.length : Int) + 2 * (l.Curs_.length : Int) + (l.Comps_.length : Int) by omega), i0, i1, i4, n0, n1, n4]
    simp only [bne_self_eq_false, cond_false, cond_true, Option.bind_some, joinX]
    have hto := tag_ok ho
    have he := encode_eq hto.m
    rw [encV_ok hto] at he
    have he2 : bund_Encode (⟨l.Pats_.a0_, l.S_, l.Pats_, l.Rules_, l.Curs_, l.Comps_⟩ : St28) = some (up (summed (bytesL (tagL l))), 0) := he
    rw [he2]
    simp only [Option.bind_some, decide_true, cond_true]
    rw [up_len, up_len, dT (by have := tag_len ho; omega)]
    simp only [cond_true]
    by_cases h1 : i < 0
    · rw [dT h1]; rfl
    by_cases h2 : i ≥ ((textsL l).length : Int)
    · rw [dF h1, dT h2]; rfl
    rw [dF h1, dF h2, inR_int (by omega) (by omega)]
    simp only [cond_false, cond_true]
    obtain ⟨n, rfl⟩ := Int.eq_ofNat_of_zero_le (show 0 ≤ i by omega)
    rw [nth_nat (show n < (textsL l).length by omega)]
    obtain ⟨A, C, hAC⟩ := pool_has ho (List.getElem_mem (show n < (textsL l).length by omega))
    rw [hAC] at hsl ⊢
    rw [holds_eq (by omega)]; rfl

set_option maxRecDepth 100000 in
theorem BundPool_lifted (os : Os) (started : os.Started) (H : Type) (enc : TypeId × Value → H) :
    ReturnsInHanded {} Try.checked os 7 .any (Rows.bundPoolSpec.pre6 enc Try.prog Try.f7 Rows.bundPoolRow.domain false) (Rows.bundPoolSpec.post enc Try.prog Try.f7 false true false false) := by
  refine returnsInHanded_of_change_sized (C := Try.checked) Try.own started (by kernel_rfl) Try.func7
    (ChangeSpec.witness6 (enc := enc) (C := Try.checked) false ⟨#[], #[.agg #[.string ⟨#[]⟩, .int .i32 0, .int .i32 0, .int .i32 0, .int .i32 0, .int .i32 0, .int .i32 0, .int .i32 0, .string ⟨#[]⟩, .string ⟨#[]⟩, .string ⟨#[]⟩, .string ⟨#[]⟩, .slice none 0 0, .slice none 0 0, .slice none 0 0], .int .i64 0], []⟩ 8 (by kernel_rfl) (by kernel_rfl) (by kernel_rfl) (by kernel_rfl)) ?_
  intro W base args ds gs before hval0 hW _ hsz0 _
  have hsz : (DataW.weightsEach Try.prog (Try.f7.params.toList ++ Rows.bundPoolSpec.plain.varTypes Try.prog) (ds ++ gs)).all (· ≤ reachBytes) = true := hsz0
  clear hsz0
  refine law_post (P := Try.prog) (n := 4) (tb := 4) Try.laidOut Try.underlying4 rfl rfl (by kernel_rfl) (fun h => ?_) hval0 hW ?_ glob_none
  · rw [Try.params7] at h
    obtain ⟨d0, d1, rfl⟩ := l2 h
    exact ⟨rfl, rfl, rfl⟩
  · intro ss hg hl1 hl2 hs
    subst hg
    rw [Try.params7] at hl1 hl2 hs hsz
    obtain ⟨d0, d1, rfl⟩ := l2 hl1
    obtain ⟨s0, s1, rfl⟩ := l2 hl2
    obtain ⟨cs0, rfl, hc0⟩ := showsV_struct Try.underlying29 (hs 0 29 _ _ rfl rfl rfl)
    obtain ⟨a0, rfl, w0⟩ := tells_T29 (n := 0) _ _ hc0 (sized_param hsz (j := 0) rfl rfl)
    obtain ⟨a1, e1, w1⟩ := (show Tells Try.prog 4 3 (encI .i64) (WfI .i64) from (tells_int Try.underlying3)) _ _ (showsV_scalar Try.underlying3 (fun _ => by simp) (fun _ _ => by simp) (hs 1 3 _ _ rfl rfl rfl)) (sized_param hsz (j := 1) rfl rfl)
    obtain rfl : s1 = .int .i64 a1 := (List.cons.inj e1).1
    exact ⟨[], exerguelaw16_BundPool_ok (Pool_true a0 w0 a1 w1)⟩
theorem BundPool_holds : Rows.BundPoolSaid :=
  OpenClaim.holds_of_wide 7 Try.f7 rfl rfl rfl rfl rfl rfl rfl ⟨rfl, rfl, rfl, rfl, rfl⟩ rfl rfl rfl rfl rfl (by kernel_rfl) Try.func7 (by kernel_rfl)
    (of_decide_eq_true (by kernel_rfl)) (by unfold Func.isWrapper; first | (rw [if_pos (by decide +kernel)]; kernel_rfl) | (rw [if_neg (by decide +kernel)]; exact ⟨rfl, rfl⟩))
    (fun os started H enc _ => BundPool_lifted os started H enc)

end Go.Proofs.Ythhabncebpaheaa
