/-
  The statement PatTells is proved: at every input the law answers true, and its input reads as it did. No conditions.
-/
import Derived.Test.YtdflcknbelpflaaP
import Derived.Test.YtdflcknbelpflaaRows
import Derived.ProofKit
import Derived.SizedLaws
namespace Go.Proofs.Ytdflcknbelpflaa
open Go Go.Sy Go.RowKit Go.ChangeShapes Go.WideShapes Go.ChangeAt
set_option linter.unusedVariables false
set_option linter.unusedSimpArgs false
set_option maxRecDepth 100000
set_option maxHeartbeats 4000000

theorem glob_none {w : World} {K : Nat → Nat} {D : DM} : GlobOk w K D := fun g cs h => by
  have h2 : (none : Option (List SV)) = some cs := h
  cases h2
theorem Try.own : ownKnob Try.prog.godebug = none := by kernel_rfl
theorem Try.laidOut : laidOutB Try.prog = true := by kernel_rfl

theorem listN2 {α : Type} {l : List α} (h : l.length = 2) : ∃ a0 a1, l = [a0, a1] := by
  match l, h with
  | [a0, a1], _ => exact ⟨a0, a1, rfl⟩
theorem listN17 {α : Type} {l : List α} (h : l.length = 17) : ∃ a0 a1 a2 a3 a4 a5 a6 a7 a8 a9 a10 a11 a12 a13 a14 a15 a16, l = [a0, a1, a2, a3, a4, a5, a6, a7, a8, a9, a10, a11, a12, a13, a14, a15, a16] := by
  match l, h with
  | [a0, a1, a2, a3, a4, a5, a6, a7, a8, a9, a10, a11, a12, a13, a14, a15, a16], _ => exact ⟨a0, a1, a2, a3, a4, a5, a6, a7, a8, a9, a10, a11, a12, a13, a14, a15, a16, rfl⟩
/-- Its numbers are numbers of their kinds, its lists no longer than memory. -/
def WfSt33 (x : St33) : Prop := (WfI .i64) x.Kind_ ∧ (WfI .i32) x.R_
theorem tells_T34 {n : Nat} : Tells Try.prog (n + 2) 34 encSt33 WfSt33 := fun d cs h hs => by
  have hl : cs.length = 2 := (shows_len Try.underlying34 h).trans (by kernel_rfl)
  obtain ⟨c0, c1, rfl⟩ := listN2 hl
  obtain ⟨p0, h0, z0⟩ := shows_field Try.underlying34 h hs 0 3 [c0] (by kernel_rfl)
  obtain ⟨x0, e0, w0⟩ : ∃ x : Int, [c0] = (encI .i64) x ∧ (WfI .i64) x := (tells_int Try.underlying3) p0 _ h0 z0
  obtain ⟨p1, h1, z1⟩ := shows_field Try.underlying34 h hs 1 21 [c1] (by kernel_rfl)
  obtain ⟨x1, e1, w1⟩ : ∃ x : Int, [c1] = (encI .i32) x ∧ (WfI .i32) x := (tells_int Try.underlying21) p1 _ h1 z1
  refine ⟨⟨x0, x1⟩, ?_, ⟨w0, w1⟩⟩
  show [c0] ++ [c1] = ((encI .i64) x0 ++ (encI .i32) x1)
  rw [e0, e1]
/-- Its numbers are numbers of their kinds, its lists no longer than memory. -/
def WfSt23 (x : St23) : Prop := (WfL WfSt33) x.Pre_ ∧ (WfL WfSt33) x.Suf_ ∧ (WfL WfSt33) x.NPre_ ∧ (WfL WfSt33) x.NSuf_ ∧ WfB x.Neg_ ∧ (WfI .i64) x.Hash_ ∧ (WfI .i64) x.MinInt_ ∧ (WfI .i64) x.MinFrac_ ∧ (WfI .i64) x.MaxFrac_ ∧ (WfI .i64) x.G1_ ∧ (WfI .i64) x.G2_ ∧ (WfI .i64) x.MinSig_ ∧ (WfI .i64) x.MaxSig_ ∧ (WfI .i64) x.Exp_ ∧ WfB x.ExpPlus_ ∧ (WfI .i32) x.Pad_ ∧ (WfI .i64) x.PadAt_
theorem tells_T24 {n : Nat} : Tells Try.prog (n + 4) 24 encSt23 WfSt23 := fun d cs h hs => by
  have hl : cs.length = 17 := (shows_len Try.underlying24 h).trans (by kernel_rfl)
  obtain ⟨c0, c1, c2, c3, c4, c5, c6, c7, c8, c9, c10, c11, c12, c13, c14, c15, c16, rfl⟩ := listN17 hl
  obtain ⟨p0, h0, z0⟩ := shows_field Try.underlying24 h hs 0 22 [c0] (by kernel_rfl)
  obtain ⟨x0, e0, w0⟩ : ∃ x : List St33, [c0] = (encL encSt33 2) x ∧ (WfL WfSt33) x := (tells_list (enc := encSt33) (Wf := WfSt33) Try.underlying22 (k := 2) (by kernel_rfl) (by kernel_rfl) tells_T34) p0 _ h0 z0
  obtain ⟨p1, h1, z1⟩ := shows_field Try.underlying24 h hs 1 22 [c1] (by kernel_rfl)
  obtain ⟨x1, e1, w1⟩ : ∃ x : List St33, [c1] = (encL encSt33 2) x ∧ (WfL WfSt33) x := (tells_list (enc := encSt33) (Wf := WfSt33) Try.underlying22 (k := 2) (by kernel_rfl) (by kernel_rfl) tells_T34) p1 _ h1 z1
  obtain ⟨p2, h2, z2⟩ := shows_field Try.underlying24 h hs 2 22 [c2] (by kernel_rfl)
  obtain ⟨x2, e2, w2⟩ : ∃ x : List St33, [c2] = (encL encSt33 2) x ∧ (WfL WfSt33) x := (tells_list (enc := encSt33) (Wf := WfSt33) Try.underlying22 (k := 2) (by kernel_rfl) (by kernel_rfl) tells_T34) p2 _ h2 z2
  obtain ⟨p3, h3, z3⟩ := shows_field Try.underlying24 h hs 3 22 [c3] (by kernel_rfl)
  obtain ⟨x3, e3, w3⟩ : ∃ x : List St33, [c3] = (encL encSt33 2) x ∧ (WfL WfSt33) x := (tells_list (enc := encSt33) (Wf := WfSt33) Try.underlying22 (k := 2) (by kernel_rfl) (by kernel_rfl) tells_T34) p3 _ h3 z3
  obtain ⟨p4, h4, z4⟩ := shows_field Try.underlying24 h hs 4 4 [c4] (by kernel_rfl)
  obtain ⟨x4, e4, w4⟩ : ∃ x : Bool, [c4] = encB x ∧ WfB x := (tells_bool Try.underlying4) p4 _ h4 z4
  obtain ⟨p5, h5, z5⟩ := shows_field Try.underlying24 h hs 5 3 [c5] (by kernel_rfl)
  obtain ⟨x5, e5, w5⟩ : ∃ x : Int, [c5] = (encI .i64) x ∧ (WfI .i64) x := (tells_int Try.underlying3) p5 _ h5 z5
  obtain ⟨p6, h6, z6⟩ := shows_field Try.underlying24 h hs 6 3 [c6] (by kernel_rfl)
  obtain ⟨x6, e6, w6⟩ : ∃ x : Int, [c6] = (encI .i64) x ∧ (WfI .i64) x := (tells_int Try.underlying3) p6 _ h6 z6
  obtain ⟨p7, h7, z7⟩ := shows_field Try.underlying24 h hs 7 3 [c7] (by kernel_rfl)
  obtain ⟨x7, e7, w7⟩ : ∃ x : Int, [c7] = (encI .i64) x ∧ (WfI .i64) x := (tells_int Try.underlying3) p7 _ h7 z7
  obtain ⟨p8, h8, z8⟩ := shows_field Try.underlying24 h hs 8 3 [c8] (by kernel_rfl)
  obtain ⟨x8, e8, w8⟩ : ∃ x : Int, [c8] = (encI .i64) x ∧ (WfI .i64) x := (tells_int Try.underlying3) p8 _ h8 z8
  obtain ⟨p9, h9, z9⟩ := shows_field Try.underlying24 h hs 9 3 [c9] (by kernel_rfl)
  obtain ⟨x9, e9, w9⟩ : ∃ x : Int, [c9] = (encI .i64) x ∧ (WfI .i64) x := (tells_int Try.underlying3) p9 _ h9 z9
  obtain ⟨p10, h10, z10⟩ := shows_field Try.underlying24 h hs 10 3 [c10] (by kernel_rfl)
  obtain ⟨x10, e10, w10⟩ : ∃ x : Int, [c10] = (encI .i64) x ∧ (WfI .i64) x := (tells_int Try.underlying3) p10 _ h10 z10
  obtain ⟨p11, h11, z11⟩ := shows_field Try.underlying24 h hs 11 3 [c11] (by kernel_rfl)
  obtain ⟨x11, e11, w11⟩ : ∃ x : Int, [c11] = (encI .i64) x ∧ (WfI .i64) x := (tells_int Try.underlying3) p11 _ h11 z11
  obtain ⟨p12, h12, z12⟩ := shows_field Try.underlying24 h hs 12 3 [c12] (by kernel_rfl)
  obtain ⟨x12, e12, w12⟩ : ∃ x : Int, [c12] = (encI .i64) x ∧ (WfI .i64) x := (tells_int Try.underlying3) p12 _ h12 z12
  obtain ⟨p13, h13, z13⟩ := shows_field Try.underlying24 h hs 13 3 [c13] (by kernel_rfl)
  obtain ⟨x13, e13, w13⟩ : ∃ x : Int, [c13] = (encI .i64) x ∧ (WfI .i64) x := (tells_int Try.underlying3) p13 _ h13 z13
  obtain ⟨p14, h14, z14⟩ := shows_field Try.underlying24 h hs 14 4 [c14] (by kernel_rfl)
  obtain ⟨x14, e14, w14⟩ : ∃ x : Bool, [c14] = encB x ∧ WfB x := (tells_bool Try.underlying4) p14 _ h14 z14
  obtain ⟨p15, h15, z15⟩ := shows_field Try.underlying24 h hs 15 21 [c15] (by kernel_rfl)
  obtain ⟨x15, e15, w15⟩ : ∃ x : Int, [c15] = (encI .i32) x ∧ (WfI .i32) x := (tells_int Try.underlying21) p15 _ h15 z15
  obtain ⟨p16, h16, z16⟩ := shows_field Try.underlying24 h hs 16 3 [c16] (by kernel_rfl)
  obtain ⟨x16, e16, w16⟩ : ∃ x : Int, [c16] = (encI .i64) x ∧ (WfI .i64) x := (tells_int Try.underlying3) p16 _ h16 z16
  refine ⟨⟨x0, x1, x2, x3, x4, x5, x6, x7, x8, x9, x10, x11, x12, x13, x14, x15, x16⟩, ?_, ⟨w0, w1, w2, w3, w4, w5, w6, w7, w8, w9, w10, w11, w12, w13, w14, w15, w16⟩⟩
  show [c0] ++ [c1] ++ [c2] ++ [c3] ++ [c4] ++ [c5] ++ [c6] ++ [c7] ++ [c8] ++ [c9] ++ [c10] ++ [c11] ++ [c12] ++ [c13] ++ [c14] ++ [c15] ++ [c16] = ((encL encSt33 2) x0 ++ (encL encSt33 2) x1 ++ (encL encSt33 2) x2 ++ (encL encSt33 2) x3 ++ encB x4 ++ (encI .i64) x5 ++ (encI .i64) x6 ++ (encI .i64) x7 ++ (encI .i64) x8 ++ (encI .i64) x9 ++ (encI .i64) x10 ++ (encI .i64) x11 ++ (encI .i64) x12 ++ (encI .i64) x13 ++ encB x14 ++ (encI .i32) x15 ++ (encI .i64) x16)
  rw [e0, e1, e2, e3, e4, e5, e6, e7, e8, e9, e10, e11, e12, e13, e14, e15, e16]
theorem shown_eq : exerguelaw10_shown = some true := by kernel_rfl
theorem tok_in_ok {l : List Int} {ts : List St33} (hl : l.all isRb = true) (h : tokIn l ts) : tokOk ts = true := by
  refine List.all_eq_true.2 (fun t ht => ?_)
  rcases h t ht with ⟨_, h1 | h1⟩ | ⟨h1, _⟩
  · exact List.all_eq_true.1 hl _ h1
  · rw [h1]; decide
  · rw [h1]; decide
theorem cnt_of {q : St23} (hn : canon (numsP q)) (hl : limP q) : cntP q := by
  obtain ⟨n1, n2, n3, n4, n5, n6, n7, n8, n9, n10, n11⟩ := hn
  obtain ⟨l1, l2, l3, l4⟩ := hl
  have hg : (0 ≤ q.G1_ ∧ q.G1_ ≤ 40) ∧ (0 ≤ q.G2_ ∧ q.G2_ ≤ 40) := by
    rcases n11 with ⟨h1, h2⟩ | ⟨h1, h2, h3, h4⟩
    · omega
    · by_cases hc : q.Hash_ + q.MinInt_ ≤ q.G1_ + q.G2_
      · have := h4 hc; omega
      · omega
  exact ⟨by omega, by omega, by omega, by omega, hg.1, hg.2, by omega, by omega, by omega⟩
theorem code_text {a : St23} (hc : cntP a) (hn : canon (numsP a)) (h1 : a.Pre_.length ≤ 300) (h2 : a.Suf_.length ≤ 300) (h3 : a.NPre_.length ≤ 300) (h4 : a.NSuf_.length ≤ 300) : pat_pattern a = some (txL a) := pattern_text (number_eq hc hn).1 (by have := numL_len hc hn; omega) h1 h2 h3 h4
theorem right_same {a : St23} (w : i32P a) (h1 : a.Pre_.length ≤ 300) (h2 : a.Suf_.length ≤ 300) (h3 : a.NPre_.length ≤ 300) (h4 : a.NSuf_.length ≤ 300) : ∃ b, exergueref10_Right a = some b ∧ pat_Right a = some b ∧ (b = true → rightX a) := by
  obtain ⟨b, hb, hr⟩ := right1 w h1 h2 h3 h4
  obtain ⟨N, hN, hNl⟩ := cnumber_tot a
  have hP := pattern_text hN hNl h1 h2 h3 h4
  have hlen := txN_len hNl h1 h2 h3 h4
  have hok := fix_ok (txN N a)
  have hll : ((txN N a).map fixR).length ≤ 20000 := by rw [List.length_map]; exact hlen
  have hT : pat_Text a = some (bytesS (encL1 ((txN N a).map fixR))) := by
    unfold pat_Text
    rw [hP]
    simp only [Option.bind_some]
    rw [runes_fix]
  have hd1 := decode_full hok (by omega)
  have hd2 := rdecode_full hok hll
  rw [← enc_back hok] at hd1 hd2
  -- of a right pattern the texts are the same
  have hsame : rightX a → (txN N a).map fixR = txL a ∧ ∃ i, exergueref10_Parse (bytesS (encL1 ((txN N a).map fixR))) = some (a, i, 0) := by
    intro hx
    obtain ⟨hn, ht, _, _, i, hp⟩ := right_facts h1 h2 h3 h4 hx
    have h5 := code_text hx.1 hn h1 h2 h3 h4
    rw [hP] at h5
    have h6 : txN N a = txL a := by injection h5
    obtain ⟨_, v0, ⟨v1, v2, v3, v4⟩, _⟩ := hx
    have h7 : (txN N a).map fixR = txL a := by rw [h6, fix_id (txL_ok v0 v1 v2 v3 v4)]
    rw [h7]
    exact ⟨rfl, i, hp⟩
  have htl : (bytesS (encL1 ((txN N a).map fixR))).length ≤ 100000 := by
    have := encB_len ((txN N a).map fixR)
    omega
  generalize hL : (txN N a).map fixR = L at *
  refine ⟨b, hb, ?_, hr.1⟩
  have hposL : ∀ c ∈ L, 0 ≤ c := fun c hc => (isRb_iff.1 (List.all_eq_true.1 hok c hc)).1
  -- both decoders give the same row
  have hE1 : utf_Decode (bytesI (bytesS (encL1 L))) = some (L, 0, 0) := by rw [enc_back hok]; exact decode_full hok (by omega)
  have hE2 : exergueref01_Decode (bytesI (bytesS (encL1 L))) = some (L, 0, 0) := by rw [enc_back hok]; exact rdecode_full hok hll
  unfold pat_Right
  rw [hT]
  simp only [Option.bind_some]
  rcases parse_same hE1 hE2 hposL with ⟨q, e1, e2, e3, e4⟩ | ⟨⟨q, i, e, e1, e2⟩, q', i', e', e3, e4⟩
  · rw [e1]
    simp only [Option.bind_some]
    obtain ⟨t1, t2, t3, t4, t5, t6, t7⟩ := e3
    have hqp : isRb q.Pad_ = true := by
      rcases t5 with h | h
      · rw [h]; decide
      · exact List.all_eq_true.1 hok _ h
    have hqp2 : padOk q := by have := isRb_iff.1 hqp; exact ⟨by omega, by omega⟩
    rw [show decide True = true from rfl, same_eq ⟨by omega, by omega, by omega, by omega⟩ ⟨w.2.2.2.2.1, w.2.2.2.2.2⟩ hqp2]
    simp only [cond_true, Option.bind_some]
    congr 1
    by_cases hq : a = q
    · subst hq
      rw [dT rfl]
      obtain ⟨o, ho, hoc⟩ := parse_tot htl
      rw [e2] at ho
      cases ho
      have hn := hoc rfl
      have hc := cnt_of hn e4
      have o1 := tok_in_ok hok t1
      have o2 := tok_in_ok hok t2
      have o3 := tok_in_ok hok t3
      have o4 := tok_in_ok hok t4
      have h5 := code_text hc hn h1 h2 h3 h4
      rw [hP] at h5
      have h6 : txN N a = txL a := by injection h5
      have h7 : L = txL a := by rw [← hL, h6, fix_id (txL_ok hqp o1 o2 o3 o4)]
      have hx : rightX a := ⟨hc, hqp, ⟨o1, o2, o3, o4⟩, _, 0, text_ref hc hn h1 h2 h3 h4 hqp o1 o2 o3 o4, by rw [← h7]; exact e2⟩
      exact (hr.2 hx).symm
    · rw [dF hq]
      cases b with
      | false => rfl
      | true =>
        obtain ⟨_, i, hp⟩ := hsame (hr.1 rfl)
        rw [e2] at hp
        cases hp
        exact absurd rfl hq
  · rw [e1]
    simp only [Option.bind_some]
    rw [dF e2]
    simp only [cond_false, Option.bind_some]
    congr 1
    cases b with
    | false => rfl
    | true =>
      obtain ⟨_, i, hp⟩ := hsame (hr.1 rfl)
      rw [e3] at hp
      cases hp
      exact absurd rfl e4
theorem wf_i32P {a : St23} (w : WfSt23 a) : i32P a := by
  obtain ⟨w1, w2, w3, w4, _, _, _, _, _, _, _, _, _, _, _, w16, _⟩ := w
  exact ⟨fun z hz => wf_i32 (w1.2 z hz).2, fun z hz => wf_i32 (w2.2 z hz).2, fun z hz => wf_i32 (w3.2 z hz).2, fun z hz => wf_i32 (w4.2 z hz).2, (wf_i32 w16).1, (wf_i32 w16).2⟩
theorem Tells_true (a : St23) (w : WfSt23 a) (b : St23) (wb : WfSt23 b) : exerguelaw10_PatTells a b = some true := by
  have w0 := wf_i32P w
  have wb0 := wf_i32P wb
  obtain ⟨w1, w2, w3, w4, _⟩ := w
  obtain ⟨u1, u2, u3, u4, _⟩ := wb
  unfold exerguelaw10_PatTells
  rw [shown_eq, few_eq w1.1 w2.1 w3.1 w4.1, few_eq u1.1 u2.1 u3.1 u4.1]
  simp only [Option.bind_some]
  by_cases hf : a.Pre_.length + a.Suf_.length + a.NPre_.length + a.NSuf_.length ≤ 300
  · rw [dT hf]
    simp only [Bool.not_true, cond_false]
    by_cases hg : b.Pre_.length + b.Suf_.length + b.NPre_.length + b.NSuf_.length ≤ 300
    · rw [dT hg]
      simp only [Bool.not_true, cond_false, Option.bind_some, joinX]
      obtain ⟨r, e1, e2, e3⟩ := right_same w0 (by omega) (by omega) (by omega) (by omega)
      rw [e1]
      simp only [Option.bind_some]
      have hla : lens a := ⟨by omega, by omega, by omega, by omega⟩
      rw [e2, same_eq hla ⟨w0.2.2.2.2.1, w0.2.2.2.2.2⟩ ⟨wb0.2.2.2.2.1, wb0.2.2.2.2.2⟩, rsame_eq hla]
      simp only [Option.bind_some]
      have n1 : (r != r) = false := by cases r <;> rfl
      have n2 : ∀ x : Bool, (x != x) = false := fun x => by cases x <;> rfl
      rw [n1, n2]
      simp only [cond_false, cond_true, Option.bind_some, joinX]
      cases r with
      | false => rfl
      | true =>
        have hx := e3 rfl
        obtain ⟨hn, ht, _, _, _⟩ := right_facts (by omega) (by omega) (by omega) (by omega) hx
        have hc := hx.1
        obtain ⟨_, v0, ⟨v1, v2, v3, v4⟩, _⟩ := hx
        have hT : pat_Text a = some (bytesS (encL1 (txL a))) := by
          unfold pat_Text
          rw [code_text hc hn (by omega) (by omega) (by omega) (by omega)]
          simp only [Option.bind_some]
          rw [runes_enc (txL_ok v0 v1 v2 v3 v4)]
        have hW : exergueref10_Width a = some (IntKind.wrap .i64 (((IntKind.wrap .i64 (((numL a).length : Int) + (a.Pre_.length : Int)))) + (a.Suf_.length : Int))) := by
          unfold exergueref10_Width
          rw [number1 hc hn]
          simp only [Option.bind_some]
          rw [bytesS_ln]
        have hW2 : pat_Width a = some (IntKind.wrap .i64 (((IntKind.wrap .i64 (((numL a).length : Int) + (a.Pre_.length : Int)))) + (a.Suf_.length : Int))) := by
          unfold pat_Width
          rw [(number_eq hc hn).1]; rfl
        rw [hT, ht, numText_eq hc hn, number1 hc hn, hW, hW2]
        simp only [Option.bind_some, Bool.not_true, cond_false]
        simp
    · rw [dF hg]; rfl
  · rw [dF hf]; rfl

set_option maxRecDepth 100000 in
theorem PatTells_lifted (os : Os) (started : os.Started) (H : Type) (enc : TypeId × Value → H) :
    ReturnsInHanded {} Try.checked os 3 .any (Rows.patTellsSpec.pre6 enc Try.prog Try.f3 Rows.patTellsRow.domain false) (Rows.patTellsSpec.post enc Try.prog Try.f3 false true false false) := by
  refine returnsInHanded_of_change_sized (C := Try.checked) Try.own started (by kernel_rfl) Try.func3
    (ChangeSpec.witness6 (enc := enc) (C := Try.checked) false ⟨#[], #[.agg #[.slice none 0 0, .slice none 0 0, .slice none 0 0, .slice none 0 0, .bool false, .int .i64 0, .int .i64 0, .int .i64 0, .int .i64 0, .int .i64 0, .int .i64 0, .int .i64 0, .int .i64 0, .int .i64 0, .bool false, .int .i32 0, .int .i64 0], .agg #[.slice none 0 0, .slice none 0 0, .slice none 0 0, .slice none 0 0, .bool false, .int .i64 0, .int .i64 0, .int .i64 0, .int .i64 0, .int .i64 0, .int .i64 0, .int .i64 0, .int .i64 0, .int .i64 0, .bool false, .int .i32 0, .int .i64 0]], []⟩ 8 (by kernel_rfl) (by kernel_rfl) (by kernel_rfl) (by kernel_rfl)) ?_
  intro W base args ds gs before hval0 hW _ hsz0 _
  have hsz : (DataW.weightsEach Try.prog (Try.f3.params.toList ++ Rows.patTellsSpec.plain.varTypes Try.prog) (ds ++ gs)).all (· ≤ reachBytes) = true := hsz0
  clear hsz0
  refine law_post (P := Try.prog) (n := 4) (tb := 4) Try.laidOut Try.underlying4 rfl rfl (by kernel_rfl) (fun h => ?_) hval0 hW ?_ glob_none
  · rw [Try.params3] at h
    obtain ⟨d0, d1, rfl⟩ := l2 h
    exact ⟨rfl, rfl, rfl⟩
  · intro ss hg hl1 hl2 hs
    subst hg
    rw [Try.params3] at hl1 hl2 hs hsz
    obtain ⟨d0, d1, rfl⟩ := l2 hl1
    obtain ⟨s0, s1, rfl⟩ := l2 hl2
    obtain ⟨cs0, rfl, hc0⟩ := showsV_struct Try.underlying24 (hs 0 24 _ _ rfl rfl rfl)
    obtain ⟨a0, rfl, w0⟩ := tells_T24 (n := 0) _ _ hc0 (sized_param hsz (j := 0) rfl rfl)
    obtain ⟨cs1, rfl, hc1⟩ := showsV_struct Try.underlying24 (hs 1 24 _ _ rfl rfl rfl)
    obtain ⟨a1, rfl, w1⟩ := tells_T24 (n := 0) _ _ hc1 (sized_param hsz (j := 1) rfl rfl)
    exact ⟨[], exerguelaw10_PatTells_ok (Tells_true a0 w0 a1 w1)⟩
theorem PatTells_holds : Rows.PatTellsSaid :=
  OpenClaim.holds_of_wide 3 Try.f3 rfl rfl rfl rfl rfl rfl rfl ⟨rfl, rfl, rfl, rfl, rfl⟩ rfl rfl rfl rfl rfl (by kernel_rfl) Try.func3 (by kernel_rfl)
    (of_decide_eq_true (by kernel_rfl)) (by unfold Func.isWrapper; first | (rw [if_pos (by decide +kernel)]; kernel_rfl) | (rw [if_neg (by decide +kernel)]; exact ⟨rfl, rfl⟩))
    (fun os started H enc _ => PatTells_lifted os started H enc)

end Go.Proofs.Ytdflcknbelpflaa
