/-
  The statement PatSames is proved: at every input the law answers true, and its input reads as it did. No conditions.
-/
import Derived.Test.YtdflcknbelpflaaP
import Derived.Test.YtdflcknbelpflaaRows
import Derived.ProofKit
import Derived.SizedLaws
namespace Go.Proofs.Ytdflcknbelpflaa
open Go Go.Sy Go.RowKit Go.ChangeShapes Go.WideShapes Go.ChangeAt
set_option linter.unusedVariables false
set_option linter.unusedSimpArgs false
set_option maxRecDepth 100000
set_option maxHeartbeats 4000000

theorem glob_none {w : World} {K : Nat → Nat} {D : DM} : GlobOk w K D := fun g cs h => by
  have h2 : (none : Option (List SV)) = some cs := h
  cases h2
theorem Try.own : ownKnob Try.prog.godebug = none := by kernel_rfl
theorem Try.laidOut : laidOutB Try.prog = true := by kernel_rfl

theorem listN2 {α : Type} {l : List α} (h : l.length = 2) : ∃ a0 a1, l = [a0, a1] := by
  match l, h with
  | [a0, a1], _ => exact ⟨a0, a1, rfl⟩
theorem listN17 {α : Type} {l : List α} (h : l.length = 17) : ∃ a0 a1 a2 a3 a4 a5 a6 a7 a8 a9 a10 a11 a12 a13 a14 a15 a16, l = [a0, a1, a2, a3, a4, a5, a6, a7, a8, a9, a10, a11, a12, a13, a14, a15, a16] := by
  match l, h with
  | [a0, a1, a2, a3, a4, a5, a6, a7, a8, a9, a10, a11, a12, a13, a14, a15, a16], _ => exact ⟨a0, a1, a2, a3, a4, a5, a6, a7, a8, a9, a10, a11, a12, a13, a14, a15, a16, rfl⟩
/-- Its numbers are numbers of their kinds, its lists no longer than memory. -/
def WfSt33 (x : St33) : Prop := (WfI .i64) x.Kind_ ∧ (WfI .i32) x.R_
theorem tells_T34 {n : Nat} : Tells Try.prog (n + 2) 34 encSt33 WfSt33 := fun d cs h hs => by
  have hl : cs.length = 2 := (shows_len Try.underlying34 h).trans (by kernel_rfl)
  obtain ⟨c0, c1, rfl⟩ := listN2 hl
  obtain ⟨p0, h0, z0⟩ := shows_field Try.underlying34 h hs 0 3 [c0] (by kernel_rfl)
  obtain ⟨x0, e0, w0⟩ : ∃ x : Int, [c0] = (encI .i64) x ∧ (WfI .i64) x := (tells_int Try.underlying3) p0 _ h0 z0
  obtain ⟨p1, h1, z1⟩ := shows_field Try.underlying34 h hs 1 21 [c1] (by kernel_rfl)
  obtain ⟨x1, e1, w1⟩ : ∃ x : Int, [c1] = (encI .i32) x ∧ (WfI .i32) x := (tells_int Try.underlying21) p1 _ h1 z1
  refine ⟨⟨x0, x1⟩, ?_, ⟨w0, w1⟩⟩
  show [c0] ++ [c1] = ((encI .i64) x0 ++ (encI .i32) x1)
  rw [e0, e1]
/-- Its numbers are numbers of their kinds, its lists no longer than memory. -/
def WfSt23 (x : St23) : Prop := (WfL WfSt33) x.Pre_ ∧ (WfL WfSt33) x.Suf_ ∧ (WfL WfSt33) x.NPre_ ∧ (WfL WfSt33) x.NSuf_ ∧ WfB x.Neg_ ∧ (WfI .i64) x.Hash_ ∧ (WfI .i64) x.MinInt_ ∧ (WfI .i64) x.MinFrac_ ∧ (WfI .i64) x.MaxFrac_ ∧ (WfI .i64) x.G1_ ∧ (WfI .i64) x.G2_ ∧ (WfI .i64) x.MinSig_ ∧ (WfI .i64) x.MaxSig_ ∧ (WfI .i64) x.Exp_ ∧ WfB x.ExpPlus_ ∧ (WfI .i32) x.Pad_ ∧ (WfI .i64) x.PadAt_
theorem tells_T24 {n : Nat} : Tells Try.prog (n + 4) 24 encSt23 WfSt23 := fun d cs h hs => by
  have hl : cs.length = 17 := (shows_len Try.underlying24 h).trans (by kernel_rfl)
  obtain ⟨c0, c1, c2, c3, c4, c5, c6, c7, c8, c9, c10, c11, c12, c13, c14, c15, c16, rfl⟩ := listN17 hl
  obtain ⟨p0, h0, z0⟩ := shows_field Try.underlying24 h hs 0 22 [c0] (by kernel_rfl)
  obtain ⟨x0, e0, w0⟩ : ∃ x : List St33, [c0] = (encL encSt33 2) x ∧ (WfL WfSt33) x := (tells_list (enc := encSt33) (Wf := WfSt33) Try.underlying22 (k := 2) (by kernel_rfl) (by kernel_rfl) tells_T34) p0 _ h0 z0
  obtain ⟨p1, h1, z1⟩ := shows_field Try.underlying24 h hs 1 22 [c1] (by kernel_rfl)
  obtain ⟨x1, e1, w1⟩ : ∃ x : List St33, [c1] = (encL encSt33 2) x ∧ (WfL WfSt33) x := (tells_list (enc := encSt33) (Wf := WfSt33) Try.underlying22 (k := 2) (by kernel_rfl) (by kernel_rfl) tells_T34) p1 _ h1 z1
  obtain ⟨p2, h2, z2⟩ := shows_field Try.underlying24 h hs 2 22 [c2] (by kernel_rfl)
  obtain ⟨x2, e2, w2⟩ : ∃ x : List St33, [c2] = (encL encSt33 2) x ∧ (WfL WfSt33) x := (tells_list (enc := encSt33) (Wf := WfSt33) Try.underlying22 (k := 2) (by kernel_rfl) (by kernel_rfl) tells_T34) p2 _ h2 z2
  obtain ⟨p3, h3, z3⟩ := shows_field Try.underlying24 h hs 3 22 [c3] (by kernel_rfl)
  obtain ⟨x3, e3, w3⟩ : ∃ x : List St33, [c3] = (encL encSt33 2) x ∧ (WfL WfSt33) x := (tells_list (enc := encSt33) (Wf := WfSt33) Try.underlying22 (k := 2) (by kernel_rfl) (by kernel_rfl) tells_T34) p3 _ h3 z3
  obtain ⟨p4, h4, z4⟩ := shows_field Try.underlying24 h hs 4 4 [c4] (by kernel_rfl)
  obtain ⟨x4, e4, w4⟩ : ∃ x : Bool, [c4] = encB x ∧ WfB x := (tells_bool Try.underlying4) p4 _ h4 z4
  obtain ⟨p5, h5, z5⟩ := shows_field Try.underlying24 h hs 5 3 [c5] (by kernel_rfl)
  obtain ⟨x5, e5, w5⟩ : ∃ x : Int, [c5] = (encI .i64) x ∧ (WfI .i64) x := (tells_int Try.underlying3) p5 _ h5 z5
  obtain ⟨p6, h6, z6⟩ := shows_field Try.underlying24 h hs 6 3 [c6] (by kernel_rfl)
  obtain ⟨x6, e6, w6⟩ : ∃ x : Int, [c6] = (encI .i64) x ∧ (WfI .i64) x := (tells_int Try.underlying3) p6 _ h6 z6
  obtain ⟨p7, h7, z7⟩ := shows_field Try.underlying24 h hs 7 3 [c7] (by kernel_rfl)
  obtain ⟨x7, e7, w7⟩ : ∃ x : Int, [c7] = (encI .i64) x ∧ (WfI .i64) x := (tells_int Try.underlying3) p7 _ h7 z7
  obtain ⟨p8, h8, z8⟩ := shows_field Try.underlying24 h hs 8 3 [c8] (by kernel_rfl)
  obtain ⟨x8, e8, w8⟩ : ∃ x : Int, [c8] = (encI .i64) x ∧ (WfI .i64) x := (tells_int Try.underlying3) p8 _ h8 z8
  obtain ⟨p9, h9, z9⟩ := shows_field Try.underlying24 h hs 9 3 [c9] (by kernel_rfl)
  obtain ⟨x9, e9, w9⟩ : ∃ x : Int, [c9] = (encI .i64) x ∧ (WfI .i64) x := (tells_int Try.underlying3) p9 _ h9 z9
  obtain ⟨p10, h10, z10⟩ := shows_field Try.underlying24 h hs 10 3 [c10] (by kernel_rfl)
  obtain ⟨x10, e10, w10⟩ : ∃ x : Int, [c10] = (encI .i64) x ∧ (WfI .i64) x := (tells_int Try.underlying3) p10 _ h10 z10
  obtain ⟨p11, h11, z11⟩ := shows_field Try.underlying24 h hs 11 3 [c11] (by kernel_rfl)
  obtain ⟨x11, e11, w11⟩ : ∃ x : Int, [c11] = (encI .i64) x ∧ (WfI .i64) x := (tells_int Try.underlying3) p11 _ h11 z11
  obtain ⟨p12, h12, z12⟩ := shows_field Try.underlying24 h hs 12 3 [c12] (by kernel_rfl)
  obtain ⟨x12, e12, w12⟩ : ∃ x : Int, [c12] = (encI .i64) x ∧ (WfI .i64) x := (tells_int Try.underlying3) p12 _ h12 z12
  obtain ⟨p13, h13, z13⟩ := shows_field Try.underlying24 h hs 13 3 [c13] (by kernel_rfl)
  obtain ⟨x13, e13, w13⟩ : ∃ x : Int, [c13] = (encI .i64) x ∧ (WfI .i64) x := (tells_int Try.underlying3) p13 _ h13 z13
  obtain ⟨p14, h14, z14⟩ := shows_field Try.underlying24 h hs 14 4 [c14] (by kernel_rfl)
  obtain ⟨x14, e14, w14⟩ : ∃ x : Bool, [c14] = encB x ∧ WfB x := (tells_bool Try.underlying4) p14 _ h14 z14
  obtain ⟨p15, h15, z15⟩ := shows_field Try.underlying24 h hs 15 21 [c15] (by kernel_rfl)
  obtain ⟨x15, e15, w15⟩ : ∃ x : Int, [c15] = (encI .i32) x ∧ (WfI .i32) x := (tells_int Try.underlying21) p15 _ h15 z15
  obtain ⟨p16, h16, z16⟩ := shows_field Try.underlying24 h hs 16 3 [c16] (by kernel_rfl)
  obtain ⟨x16, e16, w16⟩ : ∃ x : Int, [c16] = (encI .i64) x ∧ (WfI .i64) x := (tells_int Try.underlying3) p16 _ h16 z16
  refine ⟨⟨x0, x1, x2, x3, x4, x5, x6, x7, x8, x9, x10, x11, x12, x13, x14, x15, x16⟩, ?_, ⟨w0, w1, w2, w3, w4, w5, w6, w7, w8, w9, w10, w11, w12, w13, w14, w15, w16⟩⟩
  show [c0] ++ [c1] ++ [c2] ++ [c3] ++ [c4] ++ [c5] ++ [c6] ++ [c7] ++ [c8] ++ [c9] ++ [c10] ++ [c11] ++ [c12] ++ [c13] ++ [c14] ++ [c15] ++ [c16] = ((encL encSt33 2) x0 ++ (encL encSt33 2) x1 ++ (encL encSt33 2) x2 ++ (encL encSt33 2) x3 ++ encB x4 ++ (encI .i64) x5 ++ (encI .i64) x6 ++ (encI .i64) x7 ++ (encI .i64) x8 ++ (encI .i64) x9 ++ (encI .i64) x10 ++ (encI .i64) x11 ++ (encI .i64) x12 ++ (encI .i64) x13 ++ encB x14 ++ (encI .i32) x15 ++ (encI .i64) x16)
  rw [e0, e1, e2, e3, e4, e5, e6, e7, e8, e9, e10, e11, e12, e13, e14, e15, e16]
theorem shown_eq : exerguelaw10_shown = some true := by kernel_rfl
theorem wrap64_ne (x : Int) (h1 : -9223372036854775808 ≤ x) (h2 : x ≤ 9223372036854775807) : IntKind.wrap .i64 (x + 1) ≠ x := by
  unfold IntKind.wrap
  simp only [IntKind.signed, IntKind.bits, Bool.true_and, Bool.false_and, Bool.false_eq_true, if_false, decide_eq_true_eq]
  first | omega | (split <;> rename_i hc <;> simp at hc <;> omega)
theorem wrap32_ne (x : Int) (h1 : -2147483648 ≤ x) (h2 : x < 2147483648) : IntKind.wrap .i32 (x + 1) ≠ x ∧ -2147483648 ≤ IntKind.wrap .i32 (x + 1) ∧ IntKind.wrap .i32 (x + 1) < 2147483648 := by
  unfold IntKind.wrap
  simp only [IntKind.signed, IntKind.bits, Bool.true_and, Bool.false_and, Bool.false_eq_true, if_false, decide_eq_true_eq]
  first | omega | (split <;> rename_i hc <;> simp at hc <;> omega)
theorem Sames_fin {a b : St23} (hl : lens a) (hl2 : lens b) (ha : padOk a) (hb : padOk b) (hne : a ≠ b) :
    (Option.bind (bif true then (Option.bind (pat_Same a a) fun y97 => (bif y97 then (Option.bind (pat_Same a b) fun y103 => (bif (!y103) then (Option.bind (pat_Same b a) fun y109 => (some (!y109))) else (some false))) else (some false))) else (some false)) fun (s89 : Bool) => (some s89)) = some true := by
  rw [same_eq hl ha ha, same_eq hl ha hb, same_eq hl2 hb ha, dT rfl, dF hne, dF (Ne.symm hne)]; rfl
theorem Sames_true (a : St23) (w : WfSt23 a) (t : St33) (wt : WfSt33 t) (k : Int) (wk : WfI .u8 k) : exerguelaw10_PatSames a t k = some true := by
  obtain ⟨w1, w2, w3, w4, w5, w6, w7, w8, w9, w10, w11, w12, w13, w14, w15, w16, w17⟩ := w
  unfold exerguelaw10_PatSames
  rw [shown_eq, few_eq w1.1 w2.1 w3.1 w4.1]
  simp only [Option.bind_some]
  by_cases hf : a.Pre_.length + a.Suf_.length + a.NPre_.length + a.NSuf_.length ≤ 300
  · rw [dT hf]
    simp only [Bool.not_true, cond_false]
    have hp := wf_i32 w16
    have hm := wf_u8 wk
    have hk : 0 ≤ Int.tmod k 8 ∧ Int.tmod k 8 < 8 := by
      rw [Int.tmod_eq_emod_of_nonneg hm.1]
      omega
    have hl : lens a := ⟨by omega, by omega, by omega, by omega⟩
    have hp2 : padOk a := hp
    generalize Int.tmod k 8 = m at hk
    have hgo : ∀ (s38 : (List St33) × (List St33) × Bool × Int × Int × Int × Bool × Int), s38.1.length ≤ 400 → s38.2.1.length ≤ 400 → (-2147483648 ≤ s38.2.2.2.2.2.2.2 ∧ s38.2.2.2.2.2.2.2 < 2147483648) →
        a ≠ (⟨s38.1, a.Suf_, a.NPre_, s38.2.1, s38.2.2.1, a.Hash_, s38.2.2.2.1, a.MinFrac_, a.MaxFrac_, a.G1_, s38.2.2.2.2.1, a.MinSig_, s38.2.2.2.2.2.1, a.Exp_, s38.2.2.2.2.2.2.1, s38.2.2.2.2.2.2.2, a.PadAt_⟩ : St23) →
        (Option.bind (bif true then (Option.bind (pat_Same a a) fun y97 => (bif y97 then (Option.bind (pat_Same a (⟨s38.1, a.Suf_, a.NPre_, s38.2.1, s38.2.2.1, a.Hash_, s38.2.2.2.1, a.MinFrac_, a.MaxFrac_, a.G1_, s38.2.2.2.2.1, a.MinSig_, s38.2.2.2.2.2.1, a.Exp_, s38.2.2.2.2.2.2.1, s38.2.2.2.2.2.2.2, a.PadAt_⟩ : St23)) fun y103 => (bif (!y103) then (Option.bind (pat_Same (⟨s38.1, a.Suf_, a.NPre_, s38.2.1, s38.2.2.1, a.Hash_, s38.2.2.2.1, a.MinFrac_, a.MaxFrac_, a.G1_, s38.2.2.2.2.1, a.MinSig_, s38.2.2.2.2.2.1, a.Exp_, s38.2.2.2.2.2.2.1, s38.2.2.2.2.2.2.2, a.PadAt_⟩ : St23) a) fun y109 => (some (!y109))) else (some false))) else (some false))) else (some false)) fun (s89 : Bool) => (some s89)) = some true := by
      intro s38 h1 h2 h3 hne
      exact Sames_fin hl ⟨by show s38.1.length ≤ _; omega, by show a.Suf_.length ≤ _; omega, by show a.NPre_.length ≤ _; omega, by show s38.2.1.length ≤ _; omega⟩ hp2 h3 hne
    have b7 := wf_i64' w7
    have b11 := wf_i64' w11
    have b13 := wf_i64' w13
    rw [room_of (by omega), room_of (by simp; omega), room_of (by omega), room_of (by simp; omega)]
    simp only [cond_true]
    rcases (show m = 0 ∨ m = 1 ∨ m = 2 ∨ m = 3 ∨ m = 4 ∨ m = 5 ∨ m = 6 ∨ m = 7 by omega) with rfl | rfl | rfl | rfl | rfl | rfl | rfl | rfl
    · refine hgo (a.Pre_ ++ [t], a.NSuf_, a.Neg_, a.MinInt_, a.G2_, a.MaxSig_, a.ExpPlus_, a.Pad_) (by simp; omega) (by show a.NSuf_.length ≤ 400; omega) hp (fun h => ?_)
      have h := congrArg (fun z => z.Pre_.length) h
      simp at h
    · refine hgo (a.Pre_, a.NSuf_ ++ [t], a.Neg_, a.MinInt_, a.G2_, a.MaxSig_, a.ExpPlus_, a.Pad_) (by show a.Pre_.length ≤ 400; omega) (by simp; omega) hp (fun h => ?_)
      have h := congrArg (fun z => z.NSuf_.length) h
      simp at h
    · exact hgo (a.Pre_, a.NSuf_, a.Neg_, IntKind.wrap .i64 (a.MinInt_ + 1), a.G2_, a.MaxSig_, a.ExpPlus_, a.Pad_) (by show a.Pre_.length ≤ 400; omega) (by show a.NSuf_.length ≤ 400; omega) hp (fun h => wrap64_ne _ b7.1 b7.2 (congrArg St23.MinInt_ h).symm)
    · exact hgo (a.Pre_, a.NSuf_, a.Neg_, a.MinInt_, IntKind.wrap .i64 (a.G2_ + 1), a.MaxSig_, a.ExpPlus_, a.Pad_) (by show a.Pre_.length ≤ 400; omega) (by show a.NSuf_.length ≤ 400; omega) hp (fun h => wrap64_ne _ b11.1 b11.2 (congrArg St23.G2_ h).symm)
    · refine hgo (a.Pre_, a.NSuf_, !a.Neg_, a.MinInt_, a.G2_, a.MaxSig_, a.ExpPlus_, a.Pad_) (by show a.Pre_.length ≤ 400; omega) (by show a.NSuf_.length ≤ 400; omega) hp (fun h => ?_)
      have h := congrArg St23.Neg_ h
      simp at h
    · exact hgo (a.Pre_, a.NSuf_, a.Neg_, a.MinInt_, a.G2_, a.MaxSig_, a.ExpPlus_, IntKind.wrap .i32 (a.Pad_ + 1)) (by show a.Pre_.length ≤ 400; omega) (by show a.NSuf_.length ≤ 400; omega) (wrap32_ne _ hp.1 hp.2).2 (fun h => (wrap32_ne _ hp.1 hp.2).1 (congrArg St23.Pad_ h).symm)
    · exact hgo (a.Pre_, a.NSuf_, a.Neg_, a.MinInt_, a.G2_, IntKind.wrap .i64 (a.MaxSig_ + 1), a.ExpPlus_, a.Pad_) (by show a.Pre_.length ≤ 400; omega) (by show a.NSuf_.length ≤ 400; omega) hp (fun h => wrap64_ne _ b13.1 b13.2 (congrArg St23.MaxSig_ h).symm)
    · refine hgo (a.Pre_, a.NSuf_, a.Neg_, a.MinInt_, a.G2_, a.MaxSig_, !a.ExpPlus_, a.Pad_) (by show a.Pre_.length ≤ 400; omega) (by show a.NSuf_.length ≤ 400; omega) hp (fun h => ?_)
      have h := congrArg St23.ExpPlus_ h
      simp at h
  · rw [dF hf]; rfl

set_option maxRecDepth 100000 in
theorem PatSames_lifted (os : Os) (started : os.Started) (H : Type) (enc : TypeId × Value → H) :
    ReturnsInHanded {} Try.checked os 6 .any (Rows.patSamesSpec.pre6 enc Try.prog Try.f6 Rows.patSamesRow.domain false) (Rows.patSamesSpec.post enc Try.prog Try.f6 false true false false) := by
  refine returnsInHanded_of_change_sized (C := Try.checked) Try.own started (by kernel_rfl) Try.func6
    (ChangeSpec.witness6 (enc := enc) (C := Try.checked) false ⟨#[], #[.agg #[.slice none 0 0, .slice none 0 0, .slice none 0 0, .slice none 0 0, .bool false, .int .i64 0, .int .i64 0, .int .i64 0, .int .i64 0, .int .i64 0, .int .i64 0, .int .i64 0, .int .i64 0, .int .i64 0, .bool false, .int .i32 0, .int .i64 0], .agg #[.int .i64 0, .int .i32 0], .int .u8 0], []⟩ 8 (by kernel_rfl) (by kernel_rfl) (by kernel_rfl) (by kernel_rfl)) ?_
  intro W base args ds gs before hval0 hW _ hsz0 _
  have hsz : (DataW.weightsEach Try.prog (Try.f6.params.toList ++ Rows.patSamesSpec.plain.varTypes Try.prog) (ds ++ gs)).all (· ≤ reachBytes) = true := hsz0
  clear hsz0
  refine law_post (P := Try.prog) (n := 4) (tb := 4) Try.laidOut Try.underlying4 rfl rfl (by kernel_rfl) (fun h => ?_) hval0 hW ?_ glob_none
  · rw [Try.params6] at h
    obtain ⟨d0, d1, d2, rfl⟩ := l3 h
    exact ⟨rfl, rfl, rfl⟩
  · intro ss hg hl1 hl2 hs
    subst hg
    rw [Try.params6] at hl1 hl2 hs hsz
    obtain ⟨d0, d1, d2, rfl⟩ := l3 hl1
    obtain ⟨s0, s1, s2, rfl⟩ := l3 hl2
    obtain ⟨cs0, rfl, hc0⟩ := showsV_struct Try.underlying24 (hs 0 24 _ _ rfl rfl rfl)
    obtain ⟨a0, rfl, w0⟩ := tells_T24 (n := 0) _ _ hc0 (sized_param hsz (j := 0) rfl rfl)
    obtain ⟨cs1, rfl, hc1⟩ := showsV_struct Try.underlying34 (hs 1 34 _ _ rfl rfl rfl)
    obtain ⟨a1, rfl, w1⟩ := tells_T34 (n := 2) _ _ hc1 (sized_param hsz (j := 1) rfl rfl)
    obtain ⟨a2, e2, w2⟩ := (show Tells Try.prog 4 5 (encI .u8) (WfI .u8) from (tells_int Try.underlying5)) _ _ (showsV_scalar Try.underlying5 (fun _ => by simp) (fun _ _ => by simp) (hs 2 5 _ _ rfl rfl rfl)) (sized_param hsz (j := 2) rfl rfl)
    obtain rfl : s2 = .int .u8 a2 := (List.cons.inj e2).1
    exact ⟨[], exerguelaw10_PatSames_ok (Sames_true a0 w0 a1 w1 a2 w2)⟩
theorem PatSames_holds : Rows.PatSamesSaid :=
  OpenClaim.holds_of_wide 6 Try.f6 rfl rfl rfl rfl rfl rfl rfl ⟨rfl, rfl, rfl, rfl, rfl⟩ rfl rfl rfl rfl rfl (by kernel_rfl) Try.func6 (by kernel_rfl)
    (of_decide_eq_true (by kernel_rfl)) (by unfold Func.isWrapper; first | (rw [if_pos (by decide +kernel)]; kernel_rfl) | (rw [if_neg (by decide +kernel)]; exact ⟨rfl, rfl⟩))
    (fun os started H enc _ => PatSames_lifted os started H enc)

end Go.Proofs.Ytdflcknbelpflaa
