/-
  The statement PatNumbers is proved: at every input the law answers true, and its input reads as it did. No conditions.
-/
import Derived.Test.YtdflcknbelpflaaP
import Derived.Test.YtdflcknbelpflaaRows
import Derived.ProofKit
import Derived.SizedLaws
namespace Go.Proofs.Ytdflcknbelpflaa
open Go Go.Sy Go.RowKit Go.ChangeShapes Go.WideShapes Go.ChangeAt
set_option linter.unusedVariables false
set_option linter.unusedSimpArgs false
set_option maxRecDepth 100000
set_option maxHeartbeats 4000000

theorem glob_none {w : World} {K : Nat → Nat} {D : DM} : GlobOk w K D := fun g cs h => by
  have h2 : (none : Option (List SV)) = some cs := h
  cases h2
theorem Try.own : ownKnob Try.prog.godebug = none := by kernel_rfl
theorem Try.laidOut : laidOutB Try.prog = true := by kernel_rfl

theorem listN2 {α : Type} {l : List α} (h : l.length = 2) : ∃ a0 a1, l = [a0, a1] := by
  match l, h with
  | [a0, a1], _ => exact ⟨a0, a1, rfl⟩
theorem listN17 {α : Type} {l : List α} (h : l.length = 17) : ∃ a0 a1 a2 a3 a4 a5 a6 a7 a8 a9 a10 a11 a12 a13 a14 a15 a16, l = [a0, a1, a2, a3, a4, a5, a6, a7, a8, a9, a10, a11, a12, a13, a14, a15, a16] := by
  match l, h with
  | [a0, a1, a2, a3, a4, a5, a6, a7, a8, a9, a10, a11, a12, a13, a14, a15, a16], _ => exact ⟨a0, a1, a2, a3, a4, a5, a6, a7, a8, a9, a10, a11, a12, a13, a14, a15, a16, rfl⟩
/-- Its numbers are numbers of their kinds, its lists no longer than memory. -/
def WfSt33 (x : St33) : Prop := (WfI .i64) x.Kind_ ∧ (WfI .i32) x.R_
theorem tells_T34 {n : Nat} : Tells Try.prog (n + 2) 34 encSt33 WfSt33 := fun d cs h hs => by
  have hl : cs.length = 2 := (shows_len Try.underlying34 h).trans (by kernel_rfl)
  obtain ⟨c0, c1, rfl⟩ := listN2 hl
  obtain ⟨p0, h0, z0⟩ := shows_field Try.underlying34 h hs 0 3 [c0] (by kernel_rfl)
  obtain ⟨x0, e0, w0⟩ : ∃ x : Int, [c0] = (encI .i64) x ∧ (WfI .i64) x := (tells_int Try.underlying3) p0 _ h0 z0
  obtain ⟨p1, h1, z1⟩ := shows_field Try.underlying34 h hs 1 21 [c1] (by kernel_rfl)
  obtain ⟨x1, e1, w1⟩ : ∃ x : Int, [c1] = (encI .i32) x ∧ (WfI .i32) x := (tells_int Try.underlying21) p1 _ h1 z1
  refine ⟨⟨x0, x1⟩, ?_, ⟨w0, w1⟩⟩
  show [c0] ++ [c1] = ((encI .i64) x0 ++ (encI .i32) x1)
  rw [e0, e1]
/-- Its numbers are numbers of their kinds, its lists no longer than memory. -/
def WfSt23 (x : St23) : Prop := (WfL WfSt33) x.Pre_ ∧ (WfL WfSt33) x.Suf_ ∧ (WfL WfSt33) x.NPre_ ∧ (WfL WfSt33) x.NSuf_ ∧ WfB x.Neg_ ∧ (WfI .i64) x.Hash_ ∧ (WfI .i64) x.MinInt_ ∧ (WfI .i64) x.MinFrac_ ∧ (WfI .i64) x.MaxFrac_ ∧ (WfI .i64) x.G1_ ∧ (WfI .i64) x.G2_ ∧ (WfI .i64) x.MinSig_ ∧ (WfI .i64) x.MaxSig_ ∧ (WfI .i64) x.Exp_ ∧ WfB x.ExpPlus_ ∧ (WfI .i32) x.Pad_ ∧ (WfI .i64) x.PadAt_
theorem tells_T24 {n : Nat} : Tells Try.prog (n + 4) 24 encSt23 WfSt23 := fun d cs h hs => by
  have hl : cs.length = 17 := (shows_len Try.underlying24 h).trans (by kernel_rfl)
  obtain ⟨c0, c1, c2, c3, c4, c5, c6, c7, c8, c9, c10, c11, c12, c13, c14, c15, c16, rfl⟩ := listN17 hl
  obtain ⟨p0, h0, z0⟩ := shows_field Try.underlying24 h hs 0 22 [c0] (by kernel_rfl)
  obtain ⟨x0, e0, w0⟩ : ∃ x : List St33, [c0] = (encL encSt33 2) x ∧ (WfL WfSt33) x := (tells_list (enc := encSt33) (Wf := WfSt33) Try.underlying22 (k := 2) (by kernel_rfl) (by kernel_rfl) tells_T34) p0 _ h0 z0
  obtain ⟨p1, h1, z1⟩ := shows_field Try.underlying24 h hs 1 22 [c1] (by kernel_rfl)
  obtain ⟨x1, e1, w1⟩ : ∃ x : List St33, [c1] = (encL encSt33 2) x ∧ (WfL WfSt33) x := (tells_list (enc := encSt33) (Wf := WfSt33) Try.underlying22 (k := 2) (by kernel_rfl) (by kernel_rfl) tells_T34) p1 _ h1 z1
  obtain ⟨p2, h2, z2⟩ := shows_field Try.underlying24 h hs 2 22 [c2] (by kernel_rfl)
  obtain ⟨x2, e2, w2⟩ : ∃ x : List St33, [c2] = (encL encSt33 2) x ∧ (WfL WfSt33) x := (tells_list (enc := encSt33) (Wf := WfSt33) Try.underlying22 (k := 2) (by kernel_rfl) (by kernel_rfl) tells_T34) p2 _ h2 z2
  obtain ⟨p3, h3, z3⟩ := shows_field Try.underlying24 h hs 3 22 [c3] (by kernel_rfl)
  obtain ⟨x3, e3, w3⟩ : ∃ x : List St33, [c3] = (encL encSt33 2) x ∧ (WfL WfSt33) x := (tells_list (enc := encSt33) (Wf := WfSt33) Try.underlying22 (k := 2) (by kernel_rfl) (by kernel_rfl) tells_T34) p3 _ h3 z3
  obtain ⟨p4, h4, z4⟩ := shows_field Try.underlying24 h hs 4 4 [c4] (by kernel_rfl)
  obtain ⟨x4, e4, w4⟩ : ∃ x : Bool, [c4] = encB x ∧ WfB x := (tells_bool Try.underlying4) p4 _ h4 z4
  obtain ⟨p5, h5, z5⟩ := shows_field Try.underlying24 h hs 5 3 [c5] (by kernel_rfl)
  obtain ⟨x5, e5, w5⟩ : ∃ x : Int, [c5] = (encI .i64) x ∧ (WfI .i64) x := (tells_int Try.underlying3) p5 _ h5 z5
  obtain ⟨p6, h6, z6⟩ := shows_field Try.underlying24 h hs 6 3 [c6] (by kernel_rfl)
  obtain ⟨x6, e6, w6⟩ : ∃ x : Int, [c6] = (encI .i64) x ∧ (WfI .i64) x := (tells_int Try.underlying3) p6 _ h6 z6
  obtain ⟨p7, h7, z7⟩ := shows_field Try.underlying24 h hs 7 3 [c7] (by kernel_rfl)
  obtain ⟨x7, e7, w7⟩ : ∃ x : Int, [c7] = (encI .i64) x ∧ (WfI .i64) x := (tells_int Try.underlying3) p7 _ h7 z7
  obtain ⟨p8, h8, z8⟩ := shows_field Try.underlying24 h hs 8 3 [c8] (by kernel_rfl)
  obtain ⟨x8, e8, w8⟩ : ∃ x : Int, [c8] = (encI .i64) x ∧ (WfI .i64) x := (tells_int Try.underlying3) p8 _ h8 z8
  obtain ⟨p9, h9, z9⟩ := shows_field Try.underlying24 h hs 9 3 [c9] (by kernel_rfl)
  obtain ⟨x9, e9, w9⟩ : ∃ x : Int, [c9] = (encI .i64) x ∧ (WfI .i64) x := (tells_int Try.underlying3) p9 _ h9 z9
  obtain ⟨p10, h10, z10⟩ := shows_field Try.underlying24 h hs 10 3 [c10] (by kernel_rfl)
  obtain ⟨x10, e10, w10⟩ : ∃ x : Int, [c10] = (encI .i64) x ∧ (WfI .i64) x := (tells_int Try.underlying3) p10 _ h10 z10
  obtain ⟨p11, h11, z11⟩ := shows_field Try.underlying24 h hs 11 3 [c11] (by kernel_rfl)
  obtain ⟨x11, e11, w11⟩ : ∃ x : Int, [c11] = (encI .i64) x ∧ (WfI .i64) x := (tells_int Try.underlying3) p11 _ h11 z11
  obtain ⟨p12, h12, z12⟩ := shows_field Try.underlying24 h hs 12 3 [c12] (by kernel_rfl)
  obtain ⟨x12, e12, w12⟩ : ∃ x : Int, [c12] = (encI .i64) x ∧ (WfI .i64) x := (tells_int Try.underlying3) p12 _ h12 z12
  obtain ⟨p13, h13, z13⟩ := shows_field Try.underlying24 h hs 13 3 [c13] (by kernel_rfl)
  obtain ⟨x13, e13, w13⟩ : ∃ x : Int, [c13] = (encI .i64) x ∧ (WfI .i64) x := (tells_int Try.underlying3) p13 _ h13 z13
  obtain ⟨p14, h14, z14⟩ := shows_field Try.underlying24 h hs 14 4 [c14] (by kernel_rfl)
  obtain ⟨x14, e14, w14⟩ : ∃ x : Bool, [c14] = encB x ∧ WfB x := (tells_bool Try.underlying4) p14 _ h14 z14
  obtain ⟨p15, h15, z15⟩ := shows_field Try.underlying24 h hs 15 21 [c15] (by kernel_rfl)
  obtain ⟨x15, e15, w15⟩ : ∃ x : Int, [c15] = (encI .i32) x ∧ (WfI .i32) x := (tells_int Try.underlying21) p15 _ h15 z15
  obtain ⟨p16, h16, z16⟩ := shows_field Try.underlying24 h hs 16 3 [c16] (by kernel_rfl)
  obtain ⟨x16, e16, w16⟩ : ∃ x : Int, [c16] = (encI .i64) x ∧ (WfI .i64) x := (tells_int Try.underlying3) p16 _ h16 z16
  refine ⟨⟨x0, x1, x2, x3, x4, x5, x6, x7, x8, x9, x10, x11, x12, x13, x14, x15, x16⟩, ?_, ⟨w0, w1, w2, w3, w4, w5, w6, w7, w8, w9, w10, w11, w12, w13, w14, w15, w16⟩⟩
  show [c0] ++ [c1] ++ [c2] ++ [c3] ++ [c4] ++ [c5] ++ [c6] ++ [c7] ++ [c8] ++ [c9] ++ [c10] ++ [c11] ++ [c12] ++ [c13] ++ [c14] ++ [c15] ++ [c16] = ((encL encSt33 2) x0 ++ (encL encSt33 2) x1 ++ (encL encSt33 2) x2 ++ (encL encSt33 2) x3 ++ encB x4 ++ (encI .i64) x5 ++ (encI .i64) x6 ++ (encI .i64) x7 ++ (encI .i64) x8 ++ (encI .i64) x9 ++ (encI .i64) x10 ++ (encI .i64) x11 ++ (encI .i64) x12 ++ (encI .i64) x13 ++ encB x14 ++ (encI .i32) x15 ++ (encI .i64) x16)
  rw [e0, e1, e2, e3, e4, e5, e6, e7, e8, e9, e10, e11, e12, e13, e14, e15, e16]
theorem shown_eq : exerguelaw10_shown = some true := by kernel_rfl
theorem nOf_num (p : St23) : numL (nOf p) = numL p := rfl
theorem width_eq {p : St23} (hc : cntP p) (hn : canon (numsP p)) : pat_Width p = some (IntKind.wrap .i64 (((IntKind.wrap .i64 (((numL p).length : Int) + (p.Pre_.length : Int)))) + (p.Suf_.length : Int))) := by
  unfold pat_Width
  rw [(number_eq hc hn).1]; rfl
theorem wf_i32P {a : St23} (w : WfSt23 a) : i32P a := by
  obtain ⟨w1, w2, w3, w4, _, _, _, _, _, _, _, _, _, _, _, w16, _⟩ := w
  exact ⟨fun z hz => wf_i32 (w1.2 z hz).2, fun z hz => wf_i32 (w2.2 z hz).2, fun z hz => wf_i32 (w3.2 z hz).2, fun z hz => wf_i32 (w4.2 z hz).2, (wf_i32 w16).1, (wf_i32 w16).2⟩
theorem Numbers_true (a : St23) (w : WfSt23 a) : exerguelaw10_PatNumbers a = some true := by
  have w0 := w
  obtain ⟨w1, w2, w3, w4, _⟩ := w
  unfold exerguelaw10_PatNumbers
  rw [shown_eq, few_eq w1.1 w2.1 w3.1 w4.1]
  simp only [Option.bind_some]
  by_cases hf : a.Pre_.length + a.Suf_.length + a.NPre_.length + a.NSuf_.length ≤ 300
  · rw [dT hf]
    simp only [Bool.not_true, cond_false]
    obtain ⟨b, hb, hr⟩ := right1 (wf_i32P w0) (by omega) (by omega) (by omega) (by omega)
    rw [hb]
    simp only [Option.bind_some]
    cases b with
    | false => rfl
    | true =>
      have hx := hr.1 rfl
      obtain ⟨hn, _, h120, hlim, _⟩ := right_facts (by omega) (by omega) (by omega) (by omega) hx
      have hc := hx.1
      have hnl := num_in a
      simp only [Bool.not_true, cond_false, Option.bind_some, joinX]
      rw [numText_eq hc hn]
      simp only [Option.bind_some]
      rw [parse_num hc hn hlim (by omega)]
      simp only [Option.bind_some]
      have hS : exergueref10_Same (nOf a) (⟨([] : List St33), ([] : List St33), ([] : List St33), ([] : List St33), false, a.Hash_, a.MinInt_, a.MinFrac_, a.MaxFrac_, a.G1_, a.G2_, a.MinSig_, a.MaxSig_, a.Exp_, a.ExpPlus_, 0, 0⟩ : St23) = some true := by
        rw [rsame_eq ⟨by simp [nOf], by simp [nOf], by simp [nOf], by simp [nOf]⟩]
        congr 1
        exact dT rfl
      rw [show decide True = true from rfl, hS, width_eq (p := nOf a) hc hn, width_eq (p := a) hc hn, nOf_num, bytesS_ln]
      simp only [cond_true, Option.bind_some]
      have e0 : IntKind.wrap .i64 (IntKind.wrap .i64 (((numL a).length : Int) + ((nOf a).Pre_.length : Int)) + ((nOf a).Suf_.length : Int)) = ((numL a).length : Int) := by
        show IntKind.wrap .i64 (IntKind.wrap .i64 (((numL a).length : Int) + 0) + 0) = ((numL a).length : Int)
        rw [Int.add_zero, w64 (n := ((numL a).length : Int) + 0) (by omega) (by omega), Int.add_zero, w64 (n := ((numL a).length : Int)) (by omega) (by omega)]
      rw [e0, dT rfl]
      simp
  · rw [dF hf]; rfl

set_option maxRecDepth 100000 in
theorem PatNumbers_lifted (os : Os) (started : os.Started) (H : Type) (enc : TypeId × Value → H) :
    ReturnsInHanded {} Try.checked os 4 .any (Rows.patNumbersSpec.pre6 enc Try.prog Try.f4 Rows.patNumbersRow.domain false) (Rows.patNumbersSpec.post enc Try.prog Try.f4 false true false false) := by
  refine returnsInHanded_of_change_sized (C := Try.checked) Try.own started (by kernel_rfl) Try.func4
    (ChangeSpec.witness6 (enc := enc) (C := Try.checked) false ⟨#[], #[.agg #[.slice none 0 0, .slice none 0 0, .slice none 0 0, .slice none 0 0, .bool false, .int .i64 0, .int .i64 0, .int .i64 0, .int .i64 0, .int .i64 0, .int .i64 0, .int .i64 0, .int .i64 0, .int .i64 0, .bool false, .int .i32 0, .int .i64 0]], []⟩ 8 (by kernel_rfl) (by kernel_rfl) (by kernel_rfl) (by kernel_rfl)) ?_
  intro W base args ds gs before hval0 hW _ hsz0 _
  have hsz : (DataW.weightsEach Try.prog (Try.f4.params.toList ++ Rows.patNumbersSpec.plain.varTypes Try.prog) (ds ++ gs)).all (· ≤ reachBytes) = true := hsz0
  clear hsz0
  refine law_post (P := Try.prog) (n := 4) (tb := 4) Try.laidOut Try.underlying4 rfl rfl (by kernel_rfl) (fun h => ?_) hval0 hW ?_ glob_none
  · rw [Try.params4] at h
    obtain ⟨d0, rfl⟩ := l1 h
    exact ⟨rfl, rfl, rfl⟩
  · intro ss hg hl1 hl2 hs
    subst hg
    rw [Try.params4] at hl1 hl2 hs hsz
    obtain ⟨d0, rfl⟩ := l1 hl1
    obtain ⟨s0, rfl⟩ := l1 hl2
    obtain ⟨cs0, rfl, hc0⟩ := showsV_struct Try.underlying24 (hs 0 24 _ _ rfl rfl rfl)
    obtain ⟨a0, rfl, w0⟩ := tells_T24 (n := 0) _ _ hc0 (sized_param hsz (j := 0) rfl rfl)
    exact ⟨[], exerguelaw10_PatNumbers_ok (Numbers_true a0 w0)⟩
theorem PatNumbers_holds : Rows.PatNumbersSaid :=
  OpenClaim.holds_of_wide 4 Try.f4 rfl rfl rfl rfl rfl rfl rfl ⟨rfl, rfl, rfl, rfl, rfl⟩ rfl rfl rfl rfl rfl (by kernel_rfl) Try.func4 (by kernel_rfl)
    (of_decide_eq_true (by kernel_rfl)) (by unfold Func.isWrapper; first | (rw [if_pos (by decide +kernel)]; kernel_rfl) | (rw [if_neg (by decide +kernel)]; exact ⟨rfl, rfl⟩))
    (fun os started H enc _ => PatNumbers_lifted os started H enc)

end Go.Proofs.Ytdflcknbelpflaa
