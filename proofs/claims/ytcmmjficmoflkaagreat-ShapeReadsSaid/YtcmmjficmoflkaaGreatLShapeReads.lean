/-
  The statement ShapeReads is proved: at every input the law answers true, and its input reads as it did. No conditions.
-/
import Derived.Test.YtcmmjficmoflkaaGreatP
import Derived.Test.YtcmmjficmoflkaaGreatRows
import Derived.ProofKit
import Derived.SizedLaws
namespace Go.Proofs.YtcmmjficmoflkaaGreat
open Go Go.Sy Go.RowKit Go.ChangeShapes Go.WideShapes Go.ChangeAt
set_option linter.unusedVariables false
set_option linter.unusedSimpArgs false
set_option maxRecDepth 100000
set_option maxHeartbeats 4000000

theorem Tryz.own : ownKnob Tryz.prog.godebug = none := by kernel_rfl
theorem Tryz.laidOut : laidOutB Tryz.prog = true := by kernel_rfl

theorem listN2 {α : Type} {l : List α} (h : l.length = 2) : ∃ a0 a1, l = [a0, a1] := by
  match l, h with
  | [a0, a1], _ => exact ⟨a0, a1, rfl⟩
theorem listN7 {α : Type} {l : List α} (h : l.length = 7) : ∃ a0 a1 a2 a3 a4 a5 a6, l = [a0, a1, a2, a3, a4, a5, a6] := by
  match l, h with
  | [a0, a1, a2, a3, a4, a5, a6], _ => exact ⟨a0, a1, a2, a3, a4, a5, a6, rfl⟩
theorem listN17 {α : Type} {l : List α} (h : l.length = 17) : ∃ a0 a1 a2 a3 a4 a5 a6 a7 a8 a9 a10 a11 a12 a13 a14 a15 a16, l = [a0, a1, a2, a3, a4, a5, a6, a7, a8, a9, a10, a11, a12, a13, a14, a15, a16] := by
  match l, h with
  | [a0, a1, a2, a3, a4, a5, a6, a7, a8, a9, a10, a11, a12, a13, a14, a15, a16], _ => exact ⟨a0, a1, a2, a3, a4, a5, a6, a7, a8, a9, a10, a11, a12, a13, a14, a15, a16, rfl⟩
/-- Its numbers are numbers of their kinds, its lists no longer than memory. -/
def WfSt22 (x : St22) : Prop := (WfI .i32) x.Zero_ ∧ (WfI .i32) x.Dec_ ∧ (WfI .i32) x.Group_ ∧ (WfI .i32) x.Minus_ ∧ (WfI .i32) x.Plus_ ∧ (WfI .i32) x.Percent_ ∧ (WfI .i32) x.Exp_
theorem tells_T23 {n : Nat} : Tells Tryz.prog (n + 2) 23 encSt22 WfSt22 := fun d cs h hs => by
  have hl : cs.length = 7 := (shows_len Tryz.underlying23 h).trans (by kernel_rfl)
  obtain ⟨c0, c1, c2, c3, c4, c5, c6, rfl⟩ := listN7 hl
  obtain ⟨p0, h0, z0⟩ := shows_field Tryz.underlying23 h hs 0 21 [c0] (by kernel_rfl)
  obtain ⟨x0, e0, w0⟩ : ∃ x : Int, [c0] = (encI .i32) x ∧ (WfI .i32) x := (tells_int Tryz.underlying21) p0 _ h0 z0
  obtain ⟨p1, h1, z1⟩ := shows_field Tryz.underlying23 h hs 1 21 [c1] (by kernel_rfl)
  obtain ⟨x1, e1, w1⟩ : ∃ x : Int, [c1] = (encI .i32) x ∧ (WfI .i32) x := (tells_int Tryz.underlying21) p1 _ h1 z1
  obtain ⟨p2, h2, z2⟩ := shows_field Tryz.underlying23 h hs 2 21 [c2] (by kernel_rfl)
  obtain ⟨x2, e2, w2⟩ : ∃ x : Int, [c2] = (encI .i32) x ∧ (WfI .i32) x := (tells_int Tryz.underlying21) p2 _ h2 z2
  obtain ⟨p3, h3, z3⟩ := shows_field Tryz.underlying23 h hs 3 21 [c3] (by kernel_rfl)
  obtain ⟨x3, e3, w3⟩ : ∃ x : Int, [c3] = (encI .i32) x ∧ (WfI .i32) x := (tells_int Tryz.underlying21) p3 _ h3 z3
  obtain ⟨p4, h4, z4⟩ := shows_field Tryz.underlying23 h hs 4 21 [c4] (by kernel_rfl)
  obtain ⟨x4, e4, w4⟩ : ∃ x : Int, [c4] = (encI .i32) x ∧ (WfI .i32) x := (tells_int Tryz.underlying21) p4 _ h4 z4
  obtain ⟨p5, h5, z5⟩ := shows_field Tryz.underlying23 h hs 5 21 [c5] (by kernel_rfl)
  obtain ⟨x5, e5, w5⟩ : ∃ x : Int, [c5] = (encI .i32) x ∧ (WfI .i32) x := (tells_int Tryz.underlying21) p5 _ h5 z5
  obtain ⟨p6, h6, z6⟩ := shows_field Tryz.underlying23 h hs 6 21 [c6] (by kernel_rfl)
  obtain ⟨x6, e6, w6⟩ : ∃ x : Int, [c6] = (encI .i32) x ∧ (WfI .i32) x := (tells_int Tryz.underlying21) p6 _ h6 z6
  refine ⟨⟨x0, x1, x2, x3, x4, x5, x6⟩, ?_, ⟨w0, w1, w2, w3, w4, w5, w6⟩⟩
  show [c0] ++ [c1] ++ [c2] ++ [c3] ++ [c4] ++ [c5] ++ [c6] = ((encI .i32) x0 ++ (encI .i32) x1 ++ (encI .i32) x2 ++ (encI .i32) x3 ++ (encI .i32) x4 ++ (encI .i32) x5 ++ (encI .i32) x6)
  rw [e0, e1, e2, e3, e4, e5, e6]
/-- Its numbers are numbers of their kinds, its lists no longer than memory. -/
def WfSt106 (x : St106) : Prop := (WfI .i64) x.Kind_ ∧ (WfI .i32) x.R_
theorem tells_T107 {n : Nat} : Tells Tryz.prog (n + 2) 107 encSt106 WfSt106 := fun d cs h hs => by
  have hl : cs.length = 2 := (shows_len Tryz.underlying107 h).trans (by kernel_rfl)
  obtain ⟨c0, c1, rfl⟩ := listN2 hl
  obtain ⟨p0, h0, z0⟩ := shows_field Tryz.underlying107 h hs 0 3 [c0] (by kernel_rfl)
  obtain ⟨x0, e0, w0⟩ : ∃ x : Int, [c0] = (encI .i64) x ∧ (WfI .i64) x := (tells_int Tryz.underlying3) p0 _ h0 z0
  obtain ⟨p1, h1, z1⟩ := shows_field Tryz.underlying107 h hs 1 21 [c1] (by kernel_rfl)
  obtain ⟨x1, e1, w1⟩ : ∃ x : Int, [c1] = (encI .i32) x ∧ (WfI .i32) x := (tells_int Tryz.underlying21) p1 _ h1 z1
  refine ⟨⟨x0, x1⟩, ?_, ⟨w0, w1⟩⟩
  show [c0] ++ [c1] = ((encI .i64) x0 ++ (encI .i32) x1)
  rw [e0, e1]
/-- Its numbers are numbers of their kinds, its lists no longer than memory. -/
def WfSt25 (x : St25) : Prop := (WfL WfSt106) x.Pre_ ∧ (WfL WfSt106) x.Suf_ ∧ (WfL WfSt106) x.NPre_ ∧ (WfL WfSt106) x.NSuf_ ∧ WfB x.Neg_ ∧ (WfI .i64) x.Hash_ ∧ (WfI .i64) x.MinInt_ ∧ (WfI .i64) x.MinFrac_ ∧ (WfI .i64) x.MaxFrac_ ∧ (WfI .i64) x.G1_ ∧ (WfI .i64) x.G2_ ∧ (WfI .i64) x.MinSig_ ∧ (WfI .i64) x.MaxSig_ ∧ (WfI .i64) x.Exp_ ∧ WfB x.ExpPlus_ ∧ (WfI .i32) x.Pad_ ∧ (WfI .i64) x.PadAt_
theorem tells_T26 {n : Nat} : Tells Tryz.prog (n + 4) 26 encSt25 WfSt25 := fun d cs h hs => by
  have hl : cs.length = 17 := (shows_len Tryz.underlying26 h).trans (by kernel_rfl)
  obtain ⟨c0, c1, c2, c3, c4, c5, c6, c7, c8, c9, c10, c11, c12, c13, c14, c15, c16, rfl⟩ := listN17 hl
  obtain ⟨p0, h0, z0⟩ := shows_field Tryz.underlying26 h hs 0 24 [c0] (by kernel_rfl)
  obtain ⟨x0, e0, w0⟩ : ∃ x : List St106, [c0] = (encL encSt106 2) x ∧ (WfL WfSt106) x := (tells_list (enc := encSt106) (Wf := WfSt106) Tryz.underlying24 (k := 2) (by kernel_rfl) (by kernel_rfl) tells_T107) p0 _ h0 z0
  obtain ⟨p1, h1, z1⟩ := shows_field Tryz.underlying26 h hs 1 24 [c1] (by kernel_rfl)
  obtain ⟨x1, e1, w1⟩ : ∃ x : List St106, [c1] = (encL encSt106 2) x ∧ (WfL WfSt106) x := (tells_list (enc := encSt106) (Wf := WfSt106) Tryz.underlying24 (k := 2) (by kernel_rfl) (by kernel_rfl) tells_T107) p1 _ h1 z1
  obtain ⟨p2, h2, z2⟩ := shows_field Tryz.underlying26 h hs 2 24 [c2] (by kernel_rfl)
  obtain ⟨x2, e2, w2⟩ : ∃ x : List St106, [c2] = (encL encSt106 2) x ∧ (WfL WfSt106) x := (tells_list (enc := encSt106) (Wf := WfSt106) Tryz.underlying24 (k := 2) (by kernel_rfl) (by kernel_rfl) tells_T107) p2 _ h2 z2
  obtain ⟨p3, h3, z3⟩ := shows_field Tryz.underlying26 h hs 3 24 [c3] (by kernel_rfl)
  obtain ⟨x3, e3, w3⟩ : ∃ x : List St106, [c3] = (encL encSt106 2) x ∧ (WfL WfSt106) x := (tells_list (enc := encSt106) (Wf := WfSt106) Tryz.underlying24 (k := 2) (by kernel_rfl) (by kernel_rfl) tells_T107) p3 _ h3 z3
  obtain ⟨p4, h4, z4⟩ := shows_field Tryz.underlying26 h hs 4 4 [c4] (by kernel_rfl)
  obtain ⟨x4, e4, w4⟩ : ∃ x : Bool, [c4] = encB x ∧ WfB x := (tells_bool Tryz.underlying4) p4 _ h4 z4
  obtain ⟨p5, h5, z5⟩ := shows_field Tryz.underlying26 h hs 5 3 [c5] (by kernel_rfl)
  obtain ⟨x5, e5, w5⟩ : ∃ x : Int, [c5] = (encI .i64) x ∧ (WfI .i64) x := (tells_int Tryz.underlying3) p5 _ h5 z5
  obtain ⟨p6, h6, z6⟩ := shows_field Tryz.underlying26 h hs 6 3 [c6] (by kernel_rfl)
  obtain ⟨x6, e6, w6⟩ : ∃ x : Int, [c6] = (encI .i64) x ∧ (WfI .i64) x := (tells_int Tryz.underlying3) p6 _ h6 z6
  obtain ⟨p7, h7, z7⟩ := shows_field Tryz.underlying26 h hs 7 3 [c7] (by kernel_rfl)
  obtain ⟨x7, e7, w7⟩ : ∃ x : Int, [c7] = (encI .i64) x ∧ (WfI .i64) x := (tells_int Tryz.underlying3) p7 _ h7 z7
  obtain ⟨p8, h8, z8⟩ := shows_field Tryz.underlying26 h hs 8 3 [c8] (by kernel_rfl)
  obtain ⟨x8, e8, w8⟩ : ∃ x : Int, [c8] = (encI .i64) x ∧ (WfI .i64) x := (tells_int Tryz.underlying3) p8 _ h8 z8
  obtain ⟨p9, h9, z9⟩ := shows_field Tryz.underlying26 h hs 9 3 [c9] (by kernel_rfl)
  obtain ⟨x9, e9, w9⟩ : ∃ x : Int, [c9] = (encI .i64) x ∧ (WfI .i64) x := (tells_int Tryz.underlying3) p9 _ h9 z9
  obtain ⟨p10, h10, z10⟩ := shows_field Tryz.underlying26 h hs 10 3 [c10] (by kernel_rfl)
  obtain ⟨x10, e10, w10⟩ : ∃ x : Int, [c10] = (encI .i64) x ∧ (WfI .i64) x := (tells_int Tryz.underlying3) p10 _ h10 z10
  obtain ⟨p11, h11, z11⟩ := shows_field Tryz.underlying26 h hs 11 3 [c11] (by kernel_rfl)
  obtain ⟨x11, e11, w11⟩ : ∃ x : Int, [c11] = (encI .i64) x ∧ (WfI .i64) x := (tells_int Tryz.underlying3) p11 _ h11 z11
  obtain ⟨p12, h12, z12⟩ := shows_field Tryz.underlying26 h hs 12 3 [c12] (by kernel_rfl)
  obtain ⟨x12, e12, w12⟩ : ∃ x : Int, [c12] = (encI .i64) x ∧ (WfI .i64) x := (tells_int Tryz.underlying3) p12 _ h12 z12
  obtain ⟨p13, h13, z13⟩ := shows_field Tryz.underlying26 h hs 13 3 [c13] (by kernel_rfl)
  obtain ⟨x13, e13, w13⟩ : ∃ x : Int, [c13] = (encI .i64) x ∧ (WfI .i64) x := (tells_int Tryz.underlying3) p13 _ h13 z13
  obtain ⟨p14, h14, z14⟩ := shows_field Tryz.underlying26 h hs 14 4 [c14] (by kernel_rfl)
  obtain ⟨x14, e14, w14⟩ : ∃ x : Bool, [c14] = encB x ∧ WfB x := (tells_bool Tryz.underlying4) p14 _ h14 z14
  obtain ⟨p15, h15, z15⟩ := shows_field Tryz.underlying26 h hs 15 21 [c15] (by kernel_rfl)
  obtain ⟨x15, e15, w15⟩ : ∃ x : Int, [c15] = (encI .i32) x ∧ (WfI .i32) x := (tells_int Tryz.underlying21) p15 _ h15 z15
  obtain ⟨p16, h16, z16⟩ := shows_field Tryz.underlying26 h hs 16 3 [c16] (by kernel_rfl)
  obtain ⟨x16, e16, w16⟩ : ∃ x : Int, [c16] = (encI .i64) x ∧ (WfI .i64) x := (tells_int Tryz.underlying3) p16 _ h16 z16
  refine ⟨⟨x0, x1, x2, x3, x4, x5, x6, x7, x8, x9, x10, x11, x12, x13, x14, x15, x16⟩, ?_, ⟨w0, w1, w2, w3, w4, w5, w6, w7, w8, w9, w10, w11, w12, w13, w14, w15, w16⟩⟩
  show [c0] ++ [c1] ++ [c2] ++ [c3] ++ [c4] ++ [c5] ++ [c6] ++ [c7] ++ [c8] ++ [c9] ++ [c10] ++ [c11] ++ [c12] ++ [c13] ++ [c14] ++ [c15] ++ [c16] = ((encL encSt106 2) x0 ++ (encL encSt106 2) x1 ++ (encL encSt106 2) x2 ++ (encL encSt106 2) x3 ++ encB x4 ++ (encI .i64) x5 ++ (encI .i64) x6 ++ (encI .i64) x7 ++ (encI .i64) x8 ++ (encI .i64) x9 ++ (encI .i64) x10 ++ (encI .i64) x11 ++ (encI .i64) x12 ++ (encI .i64) x13 ++ encB x14 ++ (encI .i32) x15 ++ (encI .i64) x16)
  rw [e0, e1, e2, e3, e4, e5, e6, e7, e8, e9, e10, e11, e12, e13, e14, e15, e16]
theorem of_pat {p : St25} (w : WfSt25 p) (n : Int) : ∃ b, exerguelaw17_of p n = some b ∧ (b = true → cntP p ∧ pfP p ∧ n ≤ 40) := by
  obtain ⟨w1, w2, w3, w4, _⟩ := w
  exact of_tot w1.1 w2.1 w3.1 w4.1


theorem read_pair {s : St22} {p : St25} {l : List Int} (hz : okZ s.Zero_) (hp : cntP p) (hi : i32P l) (hl : l.length ≤ 300) :
    ∃ y : St28 × Int, shape_Read s p l = some y ∧ exergueref17_Read s p l = some y ∧ ∃ c E, y.1 = ⟨false, up c, E⟩ ∧ rightP c E := by
  obtain ⟨c1, c2, c3, c4, c5, c6, c7, c8, c9⟩ := hp
  have h00 : ∃ c E, (⟨false, [], 0⟩ : St28) = ⟨false, up c, E⟩ ∧ rightP c E := ⟨[], 0, rfl, ⟨fun x hx => (by cases hx), fun _ => rfl, fun h => absurd rfl h⟩⟩
  unfold shape_Read exergueref17_Read
  rcases power_pair (p := p) hz hi hl with ⟨l1, P, hi1, hl1, p1, p2, f1, f2⟩ | ⟨q, f1, f3, f2⟩
  · unfold rFirst at f2
    rw [f1, f2]
    simp only [Option.bind_some, Bool.not_true, cond_false, joinX]
    unfold shape_cutPart
    by_cases hm : s.Dec_ ∈ l1
    · obtain ⟨A, B, e, hA⟩ := mem_first hm
      have hll : l1.length = A.length + B.length + 1 := by rw [e]; simp; omega
      have h1 : slices_Index l1 s.Dec_ = some (A.length : Int) := by rw [e]; exact index_at hA (by omega)
      have h2 : exergueref17_place l1 s.Dec_ = some (A.length : Int) := by rw [e]; exact place_at hA (by omega)
      have ec : cut l1 ((A.length : Int) + 1) (l1.length : Int) = B := by rw [e]; exact cut_snd rfl
      have ec2 : cut l1 0 (A.length : Int) = A := by rw [e]; exact cut_fst
      have g1 : inS ((A.length : Int) + 1) (l1.length : Int) l1.length = true := inS_of (by omega) (by omega) (by omega)
      have g2 : inS 0 (A.length : Int) l1.length = true := inS_of (by omega) (by omega) (by omega)
      have hiA : i32P A := fun r hr => hi1 r (by rw [e]; simp [hr])
      have hiB : i32P B := fun r hr => hi1 r (by rw [e]; simp [hr])
      rw [h1, h2]
      simp only [Option.bind_some]
      rw [dF (show ¬ (A.length : Int) < 0 by omega), w64 (n := (A.length : Int) + 1) (by omega) (by omega), g1, g2, ec, ec2, dT (show (A.length : Int) < l1.length by omega), sfig_eq hz hiB (by omega), rfig_eq hz hiB (by omega)]
      obtain ⟨u, hu, hu2⟩ := sung_tot (s := s) (l := A) hz hiA (by omega) c5 c6
      obtain ⟨v, hv, hv2⟩ := rung_tot (s := s) (l := A) hz hiA (by omega) c5 c6
      simp only [Option.bind_some, cond_true, cond_false]
      rw [hv]
      simp only [Option.bind_some]
      obtain ⟨ok, k, hf, hk, hkl⟩ : ∃ (ok : Bool) (k : List Nat), figsV s.Zero_ B = (up k, ok) ∧ digP k ∧ k.length ≤ B.length := by
        rcases figsV_cases (z := s.Zero_) (l := B) with hf | ⟨k, hf, hk, hkl⟩
        · exact ⟨false, [], hf, (fun x hx => by cases hx), by simp⟩
        · exact ⟨true, k, hf, hk, by omega⟩
      rw [hf]
      simp only [Option.bind_some, up_len]
      cases hx : ungV s A p.G1_ p.G2_ with
      | none =>
        have u10 : u.2.2 = 10 := by
          rcases hu2 with ⟨a, _⟩ | ⟨_, a⟩
          · exact a
          · rw [hx] at a; cases a
        have v10 : v.2.2 = 10 := by
          rcases hv2 with ⟨a, _⟩ | ⟨_, a⟩
          · exact a
          · rw [hx] at a; cases a
        rw [v10]
        cases ok with
        | false => exact ⟨_, rfl, rfl, h00⟩
        | true =>
          by_cases hk0 : (k.length : Int) > 0
          · rw [dT hk0]
            simp only [Option.bind_some, cond_true, cond_false, Bool.not_true]
            rw [hu]
            simp only [Option.bind_some]
            rw [u10]
            exact ⟨_, rfl, rfl, h00⟩
          · rw [dF hk0]
            exact ⟨_, rfl, rfl, h00⟩
      | some x =>
        obtain ⟨m, hxm, hmd, hml⟩ := ung_some hx
        obtain ⟨u0, ux⟩ : u.2.2 = 0 ∧ u.1 = x := by
          rcases hu2 with ⟨_, a⟩ | ⟨a, b⟩
          · rw [hx] at a; cases a
          · rw [hx] at b; exact ⟨a, (Option.some.inj b).symm⟩
        obtain ⟨v0, vx⟩ : v.2.2 = 0 ∧ v.1 = x := by
          rcases hv2 with ⟨_, a⟩ | ⟨a, b⟩
          · rw [hx] at a; cases a
          · rw [hx] at b; exact ⟨a, (Option.some.inj b).symm⟩
        subst hxm
        rw [v0, vx]
        have r1 : room (up m).length = true := room_of (by rw [up_len]; omega)
        have r2 : room ((up m).length + k.length) = true := room_of (by rw [up_len]; omega)
        cases ok with
        | false =>
          rw [dF (show ¬ ¬ (0 : Int) = 0 by omega), r1]
          exact ⟨_, rfl, rfl, h00⟩
        | true =>
          by_cases hk0 : (k.length : Int) > 0
          · rw [dT hk0, dF (show ¬ (k.length : Int) = 0 by omega), dF (show ¬ ¬ (0 : Int) = 0 by omega), r1]
            simp only [Option.bind_some, cond_true, cond_false, Bool.not_true, joinX]
            rw [hu]
            simp only [Option.bind_some]
            rw [u0, ux, dF (show ¬ ¬ (0 : Int) = 0 by omega)]
            simp only [up_len, Option.bind_some, cond_true, cond_false, joinX]
            rw [room_of (show m.length + k.length ≤ 4294967296 by omega)]
            simp only [Option.bind_some, cond_true, cond_false, joinX]
            rw [← up_append, w64 (by omega) (by omega)]
            obtain ⟨y, y1, y2, y3⟩ := norm_pair (z := m ++ k) (e := P - k.length) (dig_append hmd hk) (by simp; omega) (by omega) (by omega)
            rw [y1, y2]
            simp only [Option.bind_some]
            by_cases hy : y.2 = 0
            · obtain ⟨c, E, yc, yr⟩ := y3 hy
              rw [hy]
              exact ⟨_, rfl, rfl, c, E, yc, yr⟩
            · rw [dT hy]
              exact ⟨_, rfl, rfl, h00⟩
          · rw [dF hk0, dT (show (k.length : Int) = 0 by omega), dF (show ¬ ¬ (0 : Int) = 0 by omega), r1]
            exact ⟨_, rfl, rfl, h00⟩
    · have g2 : inS 0 (l1.length : Int) l1.length = true := inS_of (by omega) (by omega) (by omega)
      have ec2 : cut l1 0 (l1.length : Int) = l1 := by simp [cut]
      rw [index_none hm (by omega), place_none hm (by omega)]
      simp only [Option.bind_some]
      rw [dT (show (-1 : Int) < 0 by omega), g2, ec2, dF (show ¬ (l1.length : Int) < l1.length by omega)]
      obtain ⟨u, hu, hu2⟩ := sung_tot (s := s) (l := l1) hz hi1 (by omega) c5 c6
      obtain ⟨v, hv, hv2⟩ := rung_tot (s := s) (l := l1) hz hi1 (by omega) c5 c6
      simp only [Option.bind_some, cond_true, cond_false, Bool.not_true]
      rw [hu, hv]
      simp only [Option.bind_some]
      cases hx : ungV s l1 p.G1_ p.G2_ with
      | none =>
        have u10 : u.2.2 = 10 := by
          rcases hu2 with ⟨a, _⟩ | ⟨_, a⟩
          · exact a
          · rw [hx] at a; cases a
        have v10 : v.2.2 = 10 := by
          rcases hv2 with ⟨a, _⟩ | ⟨_, a⟩
          · exact a
          · rw [hx] at a; cases a
        rw [u10, v10]
        exact ⟨_, rfl, rfl, h00⟩
      | some x =>
        obtain ⟨m, hxm, hmd, hml⟩ := ung_some hx
        obtain ⟨u0, ux⟩ : u.2.2 = 0 ∧ u.1 = x := by
          rcases hu2 with ⟨_, a⟩ | ⟨a, b⟩
          · rw [hx] at a; cases a
          · rw [hx] at b; exact ⟨a, (Option.some.inj b).symm⟩
        obtain ⟨v0, vx⟩ : v.2.2 = 0 ∧ v.1 = x := by
          rcases hv2 with ⟨_, a⟩ | ⟨a, b⟩
          · rw [hx] at a; cases a
          · rw [hx] at b; exact ⟨a, (Option.some.inj b).symm⟩
        subst hxm
        have r1 : room (up m).length = true := room_of (by rw [up_len]; omega)
        rw [u0, ux, v0, vx, dF (show ¬ ¬ (0 : Int) = 0 by omega)]
        simp only [List.append_nil, List.length_nil, Nat.add_zero, Int.natCast_zero, cond_false]
        rw [r1]
        have e0 : IntKind.wrap .i64 (P - 0) = P := by rw [w64 (by omega) (by omega)]; omega
        obtain ⟨y, y1, y2, y3⟩ := norm_pair (z := m) (e := P) hmd (by omega) (by omega) (by omega)
        have q1 : IntKind.wrap .i64 (P - ((0 : Nat) : Int)) = P := e0
        simp only [Option.bind_some, cond_true, joinX]
        first | rw [q1] | skip
        rw [e0, y1, y2]
        simp only [Option.bind_some]
        by_cases hy : y.2 = 0
        · obtain ⟨c, E, yc, yr⟩ := y3 hy
          rw [hy]
          exact ⟨_, rfl, rfl, c, E, yc, yr⟩
        · rw [dT hy]
          exact ⟨_, rfl, rfl, h00⟩
  · unfold rFirst at f2
    rw [f1, f2]
    simp only [Option.bind_some]
    rw [f3]
    exact ⟨_, rfl, rfl, h00⟩
theorem Reads_true (s : St22) (ws : WfSt22 s) (p : St25) (wp : WfSt25 p) (l : List Int) (wl : (WfL (WfI .i32)) l) : exerguelaw17_ShapeReads s p l = some true := by
  obtain ⟨b1, e1, f1⟩ := of_pat wp (-1)
  obtain ⟨b3, e3, f3⟩ := good_tot s
  unfold exerguelaw17_ShapeReads
  rw [shown_eq, e1, e3]
  simp only [Option.bind_some]
  cases b1 with
  | false => rfl
  | true =>
  cases b3 with
  | false => rfl
  | true =>
  by_cases hlen : (l.length : Int) > 300
  · rw [dT hlen]; rfl
  rw [dF hlen]
  obtain ⟨hc, hpf, hn⟩ := f1 rfl
  have hg := f3 rfl
  have hz := zs_ok hg.1
  have hi : i32P l := fun r hr => by
    have : -2147483648 ≤ r ∧ r < 2147483648 := wf_i32 (wl.2 r hr)
    omega
  obtain ⟨y, hy1, hy2, c, E, hyc, hr⟩ := read_pair (p := p) hz hc hi (by omega)
  simp only [cond_false, Bool.not_true, Option.bind_some, joinX]
  rw [hy1]
  simp only [Option.bind_some]
  rw [hy2]
  simp only [Option.bind_some, cond_true]
  have hsame : exergueref05_Same y.1 y.1 = some true := by rw [hyc, rsame_eq hr hr]; simp
  rw [hsame]
  simp only [Option.bind_some, cond_true]
  rw [dT True.intro]

set_option maxRecDepth 100000 in
theorem ShapeReads_lifted (os : Os) (started : os.Started) (H : Type) (enc : TypeId × Value → H) :
    ReturnsInHanded {} Tryz.checked os 4 .any (Rows.shapeReadsSpec.pre6 enc Tryz.prog Tryz.f4 Rows.shapeReadsRow.domain false) (Rows.shapeReadsSpec.post enc Tryz.prog Tryz.f4 false true false false) := by
  refine returnsInHanded_of_change_sized (C := Tryz.checked) Tryz.own started (by kernel_rfl) Tryz.func4
    (ChangeSpec.witness6 (enc := enc) (C := Tryz.checked) false ⟨#[], #[.agg #[.int .i32 0, .int .i32 0, .int .i32 0, .int .i32 0, .int .i32 0, .int .i32 0, .int .i32 0], .agg #[.slice none 0 0, .slice none 0 0, .slice none 0 0, .slice none 0 0, .bool false, .int .i64 0, .int .i64 0, .int .i64 0, .int .i64 0, .int .i64 0, .int .i64 0, .int .i64 0, .int .i64 0, .int .i64 0, .bool false, .int .i32 0, .int .i64 0], .slice none 0 0], []⟩ 8 (by kernel_rfl) (by kernel_rfl) (by kernel_rfl) (by kernel_rfl)) ?_
  intro W base args ds gs before hval0 hW _ hsz0 _
  have hsz : (DataW.weightsEach Tryz.prog (Tryz.f4.params.toList ++ Rows.shapeReadsSpec.plain.varTypes Tryz.prog) (ds ++ gs)).all (· ≤ reachBytes) = true := hsz0
  clear hsz0
  refine law_post (P := Tryz.prog) (n := 4) (tb := 4) Tryz.laidOut Tryz.underlying4 rfl rfl (by kernel_rfl) (fun h => ?_) hval0 hW ?_
  · rw [Tryz.params4] at h
    obtain ⟨d0, d1, d2, rfl⟩ := l3 h
    exact ⟨rfl, rfl, rfl⟩
  · intro ss hg hl1 hl2 hs
    subst hg
    rw [Tryz.params4] at hl1 hl2 hs hsz
    obtain ⟨d0, d1, d2, rfl⟩ := l3 hl1
    obtain ⟨s0, s1, s2, rfl⟩ := l3 hl2
    obtain ⟨cs0, rfl, hc0⟩ := showsV_struct Tryz.underlying23 (hs 0 23 _ _ rfl rfl rfl)
    obtain ⟨a0, rfl, w0⟩ := tells_T23 (n := 2) _ _ hc0 (sized_param hsz (j := 0) rfl rfl)
    obtain ⟨cs1, rfl, hc1⟩ := showsV_struct Tryz.underlying26 (hs 1 26 _ _ rfl rfl rfl)
    obtain ⟨a1, rfl, w1⟩ := tells_T26 (n := 0) _ _ hc1 (sized_param hsz (j := 1) rfl rfl)
    obtain ⟨a2, e2, w2⟩ := (show Tells Tryz.prog 4 46 (encL (encI .i32) 1) (WfL (WfI .i32)) from (tells_list (enc := (encI .i32)) (Wf := (WfI .i32)) Tryz.underlying46 (k := 1) (by kernel_rfl) (by kernel_rfl) (tells_int Tryz.underlying21))) _ _ (showsV_scalar Tryz.underlying46 (fun _ => by simp) (fun _ _ => by simp) (hs 2 46 _ _ rfl rfl rfl)) (sized_param hsz (j := 2) rfl rfl)
    obtain rfl : s2 = lsv (encI .i32) 1 a2 := (List.cons.inj e2).1
    exact ⟨[], exerguelaw17_ShapeReads_ok (Reads_true a0 w0 a1 w1 a2 w2)⟩
theorem ShapeReads_holds : Rows.ShapeReadsSaid :=
  OpenClaim.holds_of_wide 4 Tryz.f4 rfl rfl rfl rfl rfl rfl rfl ⟨rfl, rfl, rfl, rfl, rfl⟩ rfl rfl rfl rfl rfl (by kernel_rfl) Tryz.func4 (by kernel_rfl)
    (of_decide_eq_true (by kernel_rfl)) (by unfold Func.isWrapper; first | (rw [if_pos (by decide +kernel)]; kernel_rfl) | (rw [if_neg (by decide +kernel)]; exact ⟨rfl, rfl⟩))
    (fun os started H enc _ => ShapeReads_lifted os started H enc)

end Go.Proofs.YtcmmjficmoflkaaGreat
