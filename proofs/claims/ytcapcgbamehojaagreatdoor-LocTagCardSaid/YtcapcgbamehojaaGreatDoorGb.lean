/-
  What the functions of this program come to, as functions of natives, each with the proof that it does. No conditions.
-/
import Derived.Test.YtcapcgbamehojaaGreatDoorProg
import Derived.Test.YtcapcgbamehojaaGreatDoorSySL
import Derived.Test.YtcapcgbamehojaaGreatDoorGa
namespace Go.Proofs.YtcapcgbamehojaaGreatDoor
open Go Go.Sy Go.RowKit
set_option linter.unusedVariables false
set_option linter.unusedSimpArgs false
set_option maxRecDepth 100000
set_option maxHeartbeats 4000000
theorem mapRun_inl {E X : Type} [DecidableEq X] {f : E → Option (Unit ⊕ X)} : ∀ ms : List E, mapRun f ms = some (.inl ()) ↔ ∀ e ∈ ms, f e = some (.inl ())
 | [] => by simp [mapRun]
 | e :: r => by
  have ih := mapRun_inl (f := f) r
  rw [List.forall_mem_cons, ← ih]
  simp only [mapRun]
  cases f e with
  | none => simp
  | some v =>
   cases v with
   | inl u => cases u; simp
   | inr x =>
    cases mapRun f r with
    | none => simp
    | some w =>
     cases w with
     | inl u => simp
     | inr y => by_cases h : x = y <;> simp [h]
theorem mapRun_only {E X : Type} [DecidableEq X] {p : E → Option Bool} {ms : List E} {q : Unit ⊕ X} (h : mapRun (fun e => Option.bind (p e) fun s => bif s then none else some (.inl ())) ms = some q) : q = .inl () := by
 rcases q with u | x
 ·rfl
 ·exfalso
  revert h
  induction ms with
  | nil => intro h; cases h
  | cons e r ih =>
   intro h
   simp only [mapRun] at h
   cases hp : p e with
   | none => rw [hp] at h; cases h
   | some b =>
    cases b with
    | true => rw [hp] at h; cases h
    | false => rw [hp] at h; exact ih h
theorem tableP {x : Int} {ms ms' : List (St196 × Int)} {r : Int × List (St196 × Int)} (hp : List.Perm ms' ms) (h : class_table__class_s0 x ms = some r) : class_table__class_s0 x ms' = some (r.1, ms') ∧ r.2 = ms := by
 unfold class_table__class_s0 at h ⊢
 obtain ⟨y0, e0, h⟩ := bindS h
 rw [e0]
 simp only [Option.bind_some]
 cases y0 with
 | false => cases h
 | true =>
  simp only [Bool.not_true, cond_false] at h ⊢
  cases hb : decide (bits .and .i32 x 65534 = 65534) with
  | true => rw [hb] at h; cases h
  | false =>
   rw [hb] at h
   simp only [cond_false] at h ⊢
   obtain ⟨u, e1, h⟩ := bindS h
   obtain ⟨q, e2, h1⟩ := bindS e1
   have hq : q = .inl () := by
    have := mapRun_only e2
    exact this
   subst hq
   rw [(mapRun_inl ms').2 (fun e he => (mapRun_inl ms).1 e2 e (hp.mem_iff.1 he))]
   simp only [Option.bind_some, joinX]
   obtain ⟨y1, e3, h⟩ := bindS h
   rw [e3]
   simp only [Option.bind_some]
   cases hv : y1.2 with
   | true => rw [hv] at h; cases h
   | false => rw [hv] at h; obtain rfl := oi h; exact ⟨rfl, rfl⟩
theorem loopN_sim {S X : Type} {f : S → Option (S ⊕ X)} (R : S → S → Prop) (hs : ∀ s s' o, R s s' → f s = some o → (∃ a b, o = .inl a ∧ f s' = some (.inl b) ∧ R a b) ∨ ∃ x, o = .inr x ∧ f s' = some (.inr x)) : ∀ (n : Nat) (s s' : S) (r : X), R s s' → loopN f n s = some r → loopN f n s' = some r
 | 0, _, _, _, _, h => by cases h
 | n + 1, s, s', r, hR, h => by
  simp only [loopN] at h ⊢
  cases hf : f s with
  | none => rw [hf] at h; cases h
  | some o =>
   rw [hf] at h
   rcases hs s s' o hR hf with ⟨a, b, rfl, h0, h1⟩ | ⟨x, rfl, h0⟩
   ·rw [h0]; exact loopN_sim R hs n a b r h1 h
   ·rw [h0]; exact h
def class_Calm (x0 : List Int) : Option (Bool) :=
 (Option.bind class_ranges_s0 fun y1 => (fun (ms4 : List (St196 × Int)) => (Option.bind (loopN (fun (s0 : Int × (List (St196 × Int))) => (bif (decide (s0.1 < (x0.length : Int))) then (Option.bind (bif inR s0.1 x0.length then (Option.bind (class_table__class_s0 (nth x0 s0.1) s0.2) fun y0 => (Option.bind (bif (decide (y0.1 = 0)) then (some ()) else none) fun (s2 : Unit) => (some y0.2))) else none) fun (s1 : (List (St196 × Int))) => (some (.inl ((IntKind.wrap .i64 (s0.1 + 1)), s1)))) else (some (.inr ())))) big (0, ms4)) fun (s3 : Unit) => (some true))) y1)
theorem class_Calm_ok {x0 : List Int} {r : Bool} (h : class_Calm x0 = some r) : SC Tryz.prog 94 [lR x0] [] (.bool r) [] := class_CalmM_ok (by
 unfold class_Calm at h; unfold class_CalmM
 obtain ⟨y, hy, h⟩ := bindS h
 rw [hy]; simp only [Option.bind_some]
 obtain ⟨u, hu, hr⟩ := bindS h
 refine anyOrd_of fun ms hp => ?_
 have hL := loopN_sim (fun a b => a.1 = b.1 ∧ List.Perm b.2 y ∧ a.2 = y) (fun s s' o hR hf => ?_) big (0, y) (0, ms) u ⟨rfl, hp, rfl⟩ hu
 ·show Option.bind (loopN _ big (0, ms)) _ = _
  rw [hL]; exact hr
 obtain ⟨i, a⟩ := s
 obtain ⟨j, b⟩ := s'
 obtain ⟨h1, h0, h2⟩ := hR
 simp only at h1 h0 h2 hf ⊢
 subst h1; subst h2
 cases hc : decide (i < (x0.length : Int)) with
 | false => rw [hc] at hf; obtain rfl := oi hf; right; exact ⟨_, rfl, rfl⟩
 | true =>
  rw [hc] at hf
  simp only [cond_true] at hf ⊢
  obtain ⟨s4, e1, hf⟩ := bindS hf
  cases hi : inR i x0.length with
  | false => rw [hi] at e1; cases e1
  | true =>
   rw [hi] at e1
   simp only [cond_true] at e1 ⊢
   obtain ⟨y2, e2, e1⟩ := bindS e1
   obtain ⟨t1, t2⟩ := tableP h0 e2
   rw [t1]; simp only [Option.bind_some]
   cases hd : decide (y2.1 = 0) with
   | false => rw [hd] at e1; cases e1
   | true => rw [hd] at e1; obtain rfl := oi e1; obtain rfl := oi hf; left; exact ⟨_, _, rfl, rfl, rfl, h0, t2⟩
 )
def class_Turns (x0 : List Int) : Option (Bool) :=
 (Option.bind (loopN (fun (s0 : Int) => (bif (decide (s0 < (x0.length : Int))) then (Option.bind (bif inR s0 x0.length then (Option.bind (bif (decide (8234 ≤ (nth x0 s0))) then none else (some ())) fun (s1 : Unit) => (Option.bind (bif (decide (8294 ≤ (nth x0 s0))) then none else (some ())) fun (s2 : Unit) => (Option.bind (bif (decide ((nth x0 s0) = 8297)) then none else (some ())) fun (s3 : Unit) => (bif (decide ((nth x0 s0) = 8297)) then none else (some ()))))) else none) fun (s4 : Unit) => (some (.inl (IntKind.wrap .i64 (s0 + 1))))) else (some (.inr ())))) big 0) fun (s5 : Unit) => (some (decide (0 = 0))))
theorem class_Turns_ok {x0 : List Int} {r : Bool} (h : class_Turns x0 = some r) : SC Tryz.prog 95 [lR x0] [] (.bool r) [] := by
 refine kFn (fn := Tryz.f95) (fun F hFn hFH hFD => ?_)
 unfold class_Turns at h
 refine kSR ?_
 refine kC 1 [0,2] ?_
 refine kEN ?_
 refine kSR ?_
 refine kC 1 [0,2,3] ?_
 refine kEN ?_
 obtain ⟨s5, hy0, h0⟩ := bindS h
 refine K.cutN (by kernel_rfl) (fun (s5 : Unit) => ([(2, .bool false), (3, iL 0)], [])) s5 ?_ ?_
 ·refine kSR ?_
  refine kC 3 [2,3,6,7,8] ?_
  refine kEN ?_
  refine kb 0 ?_
  refine kl (fun (s0 : Int) => ([(2, .bool false), (3, iL 0), (6, lR x0), (7, iL (x0.length : Int)), (8, iL s0)], [])) hy0 [2, 3, 6, 7, 8] (fun s0 x431 hs0 => ?_)
  refine kSR ?_
  refine kC 1 [2,3,6,7,8,9] ?_
  refine kEN ?_
  refine kS ?_
  refine kBJ 9 hs0 (fun h1 => ?_) (fun h2 => ?_)
  ·refine kT ?_
   refine kK ?_
   refine PJ.next ?_
   obtain ⟨s4, hy1, h3⟩ := bindS h1
   refine K.cutN (by kernel_rfl) (fun (s4 : Unit) => ([(2, .bool false), (3, iL 0), (6, lR x0), (7, iL (x0.length : Int)), (8, iL s0)], [])) s4 ?_ ?_
   ·refine kb 1 ?_
    refine kSR ?_
    obtain ⟨hm, h4⟩ := asrt hy1
    refine kI 10 (encI_len .i32) hm ?_
    refine kC 2 [2,3,5,6,7,8] ?_
    refine kEN ?_
    refine kb 2 ?_
    obtain ⟨s1, hy2, h5⟩ := bindS h4
    refine K.cutN (by kernel_rfl) (fun (s1 : Unit) => ([(2, .bool false), (3, iL 0), (5, iM (nth x0 s0)), (6, lR x0), (7, iL (x0.length : Int)), (8, iL s0), (12, .bool false)], [])) s1 ?_ ?_
    ·refine kR ?_
     refine kC 3 [2,3,5,6,7,8,15] ?_
     refine cTR 15 hy2 (fun h6 => ?_)
     refine kC 4 [2,3,5,6,7,8,12] ?_
     refine kE ?_
     obtain rfl := oi h6
     exact kN [2, 3, 5, 6, 7, 8, 12]
    ·refine kF ?_
     obtain ⟨s2, hy3, h7⟩ := bindS h5
     refine K.cutN (by kernel_rfl) (fun (s2 : Unit) => ([(2, .bool false), (3, iL 0), (5, iM (nth x0 s0)), (6, lR x0), (7, iL (x0.length : Int)), (8, iL s0), (19, .bool false)], [])) s2 ?_ ?_
     ·refine kR ?_
      refine kC 3 [2,3,5,6,7,8,22] ?_
      refine cTR 22 hy3 (fun h8 => ?_)
      refine kC 4 [2,3,5,6,7,8,19] ?_
      refine kE ?_
      obtain rfl := oi h8
      exact kN [2, 3, 5, 6, 7, 8, 19]
     ·refine kF ?_
      obtain ⟨s3, hy4, h9⟩ := bindS h7
      refine K.cutN (by kernel_rfl) (fun (s3 : Unit) => ([(2, .bool false), (3, iL 0), (5, iM (nth x0 s0)), (6, lR x0), (7, iL (x0.length : Int)), (8, iL s0), (28, .bool false)], [])) s3 ?_ ?_
      ·refine kR ?_
       refine kC 3 [2,3,5,6,7,8,31] ?_
       refine cTR 31 hy4 (fun h10 => ?_)
       refine kC 4 [2,3,5,6,7,8,28] ?_
       refine kE ?_
       obtain rfl := oi h10
       exact kN [2, 3, 5, 6, 7, 8, 28]
      ·refine kF ?_
       refine kSR ?_
       refine kC 3 [2,3,6,7,8,35] ?_
       refine kEN ?_
       refine cT 35 h9 (fun h11 => ?_)
       refine kF ?_
       refine kK ?_
       refine PJ.blockNormal ?_
       refine PJ.blockNormal ?_
       obtain rfl := oi h11
       exact kN [2, 3, 6, 7, 8]
   ·refine kR ?_
    refine kC 2 [2,3,6,7,8] ?_
    refine kE ?_
    obtain rfl := oi h3
    exact kLN [2, 3, 6, 7, 8]
  ·refine kF ?_
   refine K.exit 0 (by kernel_rfl) ?_
   refine PJ.passExit ?_
   obtain rfl := oi h2
   refine PJ.loopOut (fun e => nomatch e) (fun he0 => ?_)
   have h12 := congrArg some he0
   refine PJ.blockOut ?_
   obtain rfl := oi h12
   exact kN [2, 3]
 ·refine kSR ?_
  refine kC 3 [2] ?_
  refine kEN ?_
  refine kX ?_
  obtain rfl := oi h0
  exact kZ hFn hFH hFD
def sym_Calm (x0 : St22) (x1 : List Int) : Option (Bool) :=
 (Option.bind (loopN (fun (s0 : Int) => (bif (decide (s0 < (x1.length : Int))) then (Option.bind (bif inR s0 x1.length then (Option.bind (class_Value (nth x1 s0)) fun y0 => (Option.bind (bif y0.2 then none else (Option.bind (sym_between x0 (nth x1 s0)) fun y1 => (some y1))) fun (s1 : Bool) => (bif s1 then none else (some ())))) else none) fun (s3 : Unit) => (some (.inl (IntKind.wrap .i64 (s0 + 1))))) else (some (.inr ())))) big 0) fun (s4 : Unit) => (Option.bind (Option.bind (class_Calm x1) fun y2 => (bif y2 then (Option.bind (class_Turns x1) fun y3 => (some y3)) else none)) fun (s2 : Bool) => (some s2)))
theorem sym_Calm_ok {x0 : St22} {x1 : List Int} {r : Bool} (h : sym_Calm x0 x1 = some r) : SC Tryz.prog 49 [.agg (encSt22 x0), lR x1] [] (.bool r) [] := by
 refine kFn (fn := Tryz.f49) (fun F hFn hFH hFD => ?_)
 unfold sym_Calm at h
 refine kSR ?_
 refine kC 2 [1,2,4] ?_
 refine kEN ?_
 obtain ⟨s4, hy0, h0⟩ := bindS h
 refine K.cutN (by kernel_rfl) (fun (s4 : Unit) => ([(1, lR x1), (4, .bool false)], [])) s4 ?_ ?_
 ·refine kSR ?_
  refine kC 3 [1,2,4,9,10,11] ?_
  refine kEN ?_
  refine kb 0 ?_
  refine kl (fun (s0 : Int) => ([(1, lR x1), (2, .ptr 0 0), (4, .bool false), (9, lR x1), (10, iL (x1.length : Int)), (11, iL s0)], [.box (encSt22 x0)])) hy0 [1, 2, 4, 9, 10, 11] (fun s0 x301 hs0 => ?_)
  refine kSR ?_
  refine kC 1 [1,2,4,9,10,11,12] ?_
  refine kEN ?_
  refine kS ?_
  refine kBJ 12 hs0 (fun h1 => ?_) (fun h2 => ?_)
  ·refine kT ?_
   refine kK ?_
   refine PJ.next ?_
   obtain ⟨s3, hy1, h3⟩ := bindS h1
   refine K.cutN (by kernel_rfl) (fun (s3 : Unit) => ([(1, lR x1), (2, .ptr 0 0), (4, .bool false), (9, lR x1), (10, iL (x1.length : Int)), (11, iL s0)], [.box (encSt22 x0)])) s3 ?_ ?_
   ·refine kb 1 ?_
    refine kSR ?_
    obtain ⟨hm, h4⟩ := asrt hy1
    refine kI 13 (encI_len .i32) hm ?_
    refine kC 2 [1,2,4,6,9,10,11] ?_
    refine kEN ?_
    refine kSR ?_
    refine kC 1 [1,2,4,6,9,10,11,16] ?_
    obtain ⟨y0, hy2, h5⟩ := bindS h4
    refine kA 17 (class_Value_ok hy2) ?_
    refine kC 5 [1,2,4,6,8,9,10,11] ?_
    refine kEN ?_
    obtain ⟨s1, hy3, h6⟩ := bindS h5
    refine K.cutN (by kernel_rfl) (fun (s1 : Bool) => ([(1, lR x1), (2, .ptr 0 0), (4, .bool false), (9, lR x1), (10, iL (x1.length : Int)), (11, iL s0), (25, .bool s1)], [.box (encSt22 x0)])) s1 ?_ ?_
    ·refine kR ?_
     refine kC 2 [1,2,4,6,9,10,11,21] ?_
     refine cTR 21 hy3 (fun h7 => ?_)
     refine kC 2 [1,2,4,9,10,11,21,22,23] ?_
     obtain ⟨y1, hy4, h8⟩ := bindS h7
     refine kA 24 (sym_between_ok hy4) ?_
     refine kC 1 [1,2,4,9,10,11,25] ?_
     refine kE ?_
     obtain rfl := oi h8
     exact kN [1, 2, 4, 9, 10, 11, 25]
    ·refine cT 25 h6 (fun h9 => ?_)
     refine kF ?_
     refine kK ?_
     refine PJ.blockNormal ?_
     obtain rfl := oi h9
     exact kN [1, 2, 4, 9, 10, 11]
   ·refine kR ?_
    refine kC 2 [1,2,4,9,10,11] ?_
    refine kE ?_
    obtain rfl := oi h3
    exact kLN [1, 2, 4, 9, 10, 11]
  ·refine kF ?_
   refine K.exit 0 (by kernel_rfl) ?_
   refine PJ.passExit ?_
   obtain rfl := oi h2
   refine PJ.loopOut (fun e => nomatch e) (fun he0 => ?_)
   have h10 := congrArg some he0
   refine PJ.blockOut ?_
   obtain rfl := oi h10
   refine kW (L2 := [(1, lR x1), (4, .bool false)]) (H2 := []) hFH hFD [] ?_
   exact kN [1, 4]
 ·obtain ⟨s2, hy5, h11⟩ := bindS h0
  refine K.cutN (by kernel_rfl) (fun (s2 : Bool) => ([(4, .bool s2)], [])) s2 ?_ ?_
  ·refine kR ?_
   refine kC 1 [1,4,27] ?_
   obtain ⟨y2, hy6, h12⟩ := bindS hy5
   refine kA 28 (class_Calm_ok hy6) ?_
   refine kC 1 [1,4,29] ?_
   refine cFR 29 h12 (fun h13 => ?_)
   refine kC 1 [4,29,30] ?_
   obtain ⟨y3, hy7, h14⟩ := bindS h13
   refine kA 31 (class_Turns_ok hy7) ?_
   refine kC 2 [4] ?_
   refine kE ?_
   obtain rfl := oi h14
   exact kN [4]
  ·refine kX ?_
   obtain rfl := oi h11
   exact kZ hFn hFH hFD
def affix_Calm (x0 : St22) (x1 : St63) : Option (Bool) :=
 (Option.bind (slices_Clone x1.Pre_) fun y0 => (bif room (y0.length + x1.Suf_.length) then (Option.bind (sym_Calm x0 (y0 ++ x1.Suf_)) fun y1 => (some y1)) else none))
theorem affix_Calm_ok {x0 : St22} {x1 : St63} {r : Bool} (h : affix_Calm x0 x1 = some r) : SC Tryz.prog 81 [.agg (encSt22 x0), .agg (encSt63 x1)] [] (.bool r) [] := by
 refine kFn (fn := Tryz.f81) (fun F hFn hFH hFD => ?_)
 unfold affix_Calm at h
 refine kSR ?_
 refine kC 3 [2,3,4] ?_
 refine kEN ?_
 refine kS ?_
 refine J.keep [2, 3, 4] (L2 := [(2, .ptr 0 0), (3, .ptr 1 0), (4, .bool false)]) (by kernel_rfl) ?_
 refine K.draw (by kernel_rfl) (by kernel_rfl) (by kernel_rfl) (H2 := [.box (encSt22 x0), .box (encSt63 x1), .res, .res, .res]) (by kernel_rfl) (n := 2) (by kernel_rfl) ?_
 refine kD 3 ?_
 obtain ⟨y0, hy0, h0⟩ := bindS h
 refine RJ.callM (d := (some 8)) (f := 119) (args := [lR x1.Pre_]) (v0 := .vc 0) (v := .vc 2) (en0 := .vec y0.length 1 21 (y0.flatMap (encI .i32))) (tr2 := [([0, 1], []), ([], []), ([2, 3], []), ([], [4, 5, 4, 5])]) (H2 := [.box (encSt22 x0), .box (encSt63 x1), vecL (encI .i32) 1 21 y0, .res, .res]) 2 (by kernel_rfl) (by kernel_rfl) (by kernel_rfl) (by kernel_rfl) (.cons (Le.refl _) .nil) (slices_Clone_ok_o hy0) (by kernel_rfl) (by kernel_rfl) ?_
 refine kD 2 ?_
 obtain ⟨hm, h1⟩ := asrt h0
 refine RJ.rel (d := (some 11)) (ef := ⟨.vc 3, [2], [(2, .gone), (3, .vec (y0.length + x1.Suf_.length) 1 21 (y0.flatMap (encI .i32) ++ x1.Suf_.flatMap (encI .i32)))]⟩) (ef' := ⟨.vc 3, [2], [(2, .gone), (3, vecL (encI .i32) 1 21 (y0 ++ x1.Suf_))]⟩) (c := room (y0.length + x1.Suf_.length)) (tr2 := [([0, 1], []), ([], []), ([2, 3], []), ([], [4, 5, 4, 5]), ([], []), ([2, 3], []), ([4, 5], [4, 5, 6, 7, 6, 7])]) (H2 := [.box (encSt22 x0), .box (encSt63 x1), .gone, vecL (encI .i32) 1 21 (y0 ++ x1.Suf_), .res]) (by kernel_rfl) hm (fun hc => N.app) (by kernel_rfl) ?_
 obtain ⟨y1, hy1, h2⟩ := bindS h1
 refine RJ.callL (d := (some 12)) (f := 49) (args := [.agg (encSt22 x0), .vc 3]) (args0 := [.agg (encSt22 x0), .vc 0]) (args1 := [.agg (encSt22 x0), lR (y0 ++ x1.Suf_)]) (H0 := [vecL (encI .i32) 1 21 (y0 ++ x1.Suf_)]) (v := .bool y1) (tr2 := [([0, 1], []), ([], []), ([2, 3], []), ([], [4, 5, 4, 5]), ([], []), ([2, 3], []), ([4, 5], [4, 5, 6, 7, 6, 7]), ([6, 7], [8, 9])]) [3] (by kernel_rfl) (by kernel_rfl) (by kernel_rfl) (by kernel_rfl) (by decide) (by kernel_rfl) (by kernel_rfl) (by kernel_rfl) (by kernel_rfl) (.cons (Le.refl _) (.cons (Le.refl _) .nil)) (sym_Calm_ok hy1) (by kernel_rfl) (by kernel_rfl) ?_
 refine kD 1 ?_
 refine kEN ?_
 refine kX ?_
 obtain rfl := oi h2
 exact kZ hFn hFH hFD
def slices_Equal (x0 : List Int) (x1 : List Int) : Option (Bool) :=
 (bif (decide (¬ (x0.length : Int) = (x1.length : Int))) then (some false) else (Option.bind (loopN (fun (s0 : Int) => (bif (decide (s0 < (x0.length : Int))) then (bif inR s0 x0.length then (bif inR s0 x1.length then (bif (decide (¬ (nth x0 s0) = (nth x1 s0))) then (some (.inr (.inr false))) else (some (.inl (IntKind.wrap .i64 (s0 + 1))))) else none) else none) else (some (.inr (.inl ()))))) big 0) (joinX fun (s1 : Unit) => (some true))))
theorem slices_Equal_ok {x0 : List Int} {x1 : List Int} {r : Bool} (h : slices_Equal x0 x1 = some r) : SC Tryz.prog 120 [lR x0, lR x1] [] (.bool r) [] := by
 refine kFn (fn := Tryz.f120) (fun F hFn hFH hFD => ?_)
 unfold slices_Equal at h
 refine kSR ?_
 refine kC 1 [0,1,4] ?_
 refine kEN ?_
 refine kS ?_
 refine kSR ?_
 refine kC 5 [0,1,4,10] ?_
 refine kEN ?_
 refine kBJ 10 h (fun h1 => ?_) (fun h2 => ?_)
 ·refine kT ?_
  refine kSR ?_
  refine kC 1 [0,1,4] ?_
  refine kEN ?_
  refine kX ?_
  refine PJ.passRet ?_
  obtain rfl := oi h1
  exact kZ hFn hFH hFD
 ·refine kF ?_
  refine kK ?_
  refine PJ.next ?_
  obtain ⟨y0, hy0, h0⟩ := bindS h2
  refine K.cutX (by kernel_rfl) (fun (s1 : Unit) => ([(4, .bool false)], [])) y0 ?_ (fun s1 hs => ?_)
  ·refine kSR ?_
   refine kC 3 [0,1,4,12,13] ?_
   refine kEN ?_
   refine kb 0 ?_
   refine kl (fun (s0 : Int) => ([(0, lR x0), (1, lR x1), (4, .bool false), (12, iL (x0.length : Int)), (13, iL s0)], [])) hy0 [0, 1, 4, 12, 13] (fun s0 x79 hs0 => ?_)
   refine kSR ?_
   refine kC 1 [0,1,4,12,13,14] ?_
   refine kEN ?_
   refine kS ?_
   refine kBJ 14 hs0 (fun h3 => ?_) (fun h4 => ?_)
   ·refine kT ?_
    refine kK ?_
    refine PJ.next ?_
    refine kS ?_
    refine kb 1 ?_
    refine kSR ?_
    refine kC 2 [0,1,4,5,12,13] ?_
    refine kEN ?_
    refine kS ?_
    refine J.keep [0, 1, 4, 5, 12, 13] (L2 := [(0, lR x0), (1, lR x1), (4, .bool false), (5, iL s0), (12, iL (x0.length : Int)), (13, iL s0)]) (by kernel_rfl) ?_
    refine K.draw (by kernel_rfl) (by kernel_rfl) (by kernel_rfl) (H2 := []) (by kernel_rfl) (n := 0) (by kernel_rfl) ?_
    refine kD 2 ?_
    obtain ⟨hm, h5⟩ := asrt h3
    refine kJ 18 (tr2 := [([], []), ([], []), ([], [])]) (encI_len .i32) hm ?_
    refine kD 3 ?_
    obtain ⟨hm, h6⟩ := asrt h5
    refine kJ 22 (tr2 := [([], []), ([], []), ([], []), ([], []), ([], []), ([], []), ([], [])]) (encI_len .i32) hm ?_
    refine kD 2 ?_
    refine kEN ?_
    refine kBJ 24 h6 (fun h7 => ?_) (fun h8 => ?_)
    ·refine kT ?_
     refine kSR ?_
     refine kC 1 [0,1,4,12,13] ?_
     refine kEN ?_
     refine kX ?_
     refine PJ.blockRet ?_
     refine PJ.passRet ?_
     obtain rfl := oi h7
     refine PJ.loopOut (fun e => nomatch e) (fun he0 => ?_)
     have h9 := congrArg some he0
     refine PJ.blockRet ?_
     obtain rfl := oi h9
     have h10 := joinX_inr h0
     refine PJ.cutXr (fun e => nomatch e) ?_
     obtain rfl := oi h10
     exact kZ hFn hFH hFD
    ·refine kF ?_
     refine kK ?_
     refine PJ.blockNormal ?_
     refine PJ.next ?_
     refine kR ?_
     refine kC 2 [0,1,4,12,13] ?_
     refine kE ?_
     obtain rfl := oi h8
     exact kLN [0, 1, 4, 12, 13]
   ·refine kF ?_
    refine K.exit 0 (by kernel_rfl) ?_
    refine PJ.passExit ?_
    obtain rfl := oi h4
    refine PJ.loopOut (fun e => nomatch e) (fun he1 => ?_)
    have h11 := congrArg some he1
    refine PJ.blockOut ?_
    obtain rfl := oi h11
    exact kXl [4]
  ·subst hs
   have h12 := joinX_inl h0
   refine kSR ?_
   refine kC 1 [4] ?_
   refine kEN ?_
   refine kX ?_
   obtain rfl := oi h12
   exact kZ hFn hFH hFD
def affix_Same (x0 : St63) (x1 : St63) : Option (Bool) :=
 (Option.bind (Option.bind (slices_Equal x0.Pre_ x1.Pre_) fun y1 => (bif y1 then (Option.bind (slices_Equal x0.Suf_ x1.Suf_) fun y0 => (some y0)) else (some false))) fun (s0 : Bool) => (some s0))
theorem affix_Same_ok {x0 : St63} {x1 : St63} {r : Bool} (h : affix_Same x0 x1 = some r) : SC Tryz.prog 82 [.agg (encSt63 x0), .agg (encSt63 x1)] [] (.bool r) [] := by
 refine kFn (fn := Tryz.f82) (fun F hFn hFH hFD => ?_)
 unfold affix_Same at h
 refine kSR ?_
 refine kC 3 [2,3,4] ?_
 refine kEN ?_
 obtain ⟨s0, hy0, h0⟩ := bindS h
 refine K.cutN (by kernel_rfl) (fun (s0 : Bool) => ([(4, .bool s0)], [])) s0 ?_ ?_
 ·refine kR ?_
  refine kC 4 [2,3,4,6,8] ?_
  obtain ⟨y1, hy1, h1⟩ := bindS hy0
  refine kA 9 (slices_Equal_ok hy1) ?_
  refine kC 1 [2,3,4,10] ?_
  refine kB 10 h1 (fun h2 => ?_) (fun h3 => ?_)
  ·refine kC 4 [4,10,12,14] ?_
   obtain ⟨y0, hy2, h4⟩ := bindS h2
   refine kA 15 (slices_Equal_ok hy2) ?_
   refine kC 2 [4] ?_
   refine kE ?_
   obtain rfl := oi h4
   refine kW (L2 := [(4, .bool y0)]) (H2 := []) hFH hFD [] ?_
   exact kN [4]
  ·refine kC 7 [4] ?_
   refine kE ?_
   obtain rfl := oi h3
   refine kW (L2 := [(4, .bool false)]) (H2 := []) hFH hFD [] ?_
   exact kN [4]
 ·refine kX ?_
  obtain rfl := oi h0
  exact kZ hFn hFH hFD
def loc_toldApart (x0 : St22) (x1 : St32) (x2 : List Int) : Option (Bool) :=
 (Option.bind (loc_around x0 x1 x2) fun y0 => (Option.bind (loopN (fun (s0 : Int) => (bif (decide (s0 < 3)) then (bif (decide (s0 = 0)) then (Option.bind (affix_Calm x0 y0.a0_) fun y2 => (bif (!y2) then none else (some (.inl (IntKind.wrap .i64 (0 + 1)))))) else (bif (decide (s0 = 1)) then (Option.bind (affix_Calm x0 y0.a1_) fun y3 => (bif (!y3) then none else (some (.inl (IntKind.wrap .i64 (1 + 1)))))) else (bif (decide (s0 = 2)) then (Option.bind (affix_Calm x0 y0.a2_) fun y4 => (bif (!y4) then none else (some (.inl (IntKind.wrap .i64 (2 + 1)))))) else none))) else (some (.inr ())))) big 0) fun (s2 : Unit) => (Option.bind (Option.bind (affix_Same y0.a0_ y0.a1_) fun y5 => (bif (!y5) then (Option.bind (affix_Same y0.a1_ y0.a2_) fun y1 => (some (!y1))) else none)) fun (s1 : Bool) => (some s1))))
theorem loc_toldApart_ok {x0 : St22} {x1 : St32} {x2 : List Int} {r : Bool} (h : loc_toldApart x0 x1 x2 = some r) : SC Tryz.prog 40 [.agg (encSt22 x0), .agg (encSt32 x1), lR x2] [] (.bool r) [] := by
 refine kFn (fn := Tryz.f40) (fun F hFn hFH hFD => ?_)
 unfold loc_toldApart at h
 refine kSR ?_
 refine kC 3 [2,3,4,6] ?_
 refine kEN ?_
 refine kSR ?_
 refine kC 3 [3,6,10,11,12] ?_
 obtain ⟨y0, hy0, h3⟩ := bindS h
 refine kA 13 (loc_around_ok hy0) ?_
 refine kC 2 [3,6,7] ?_
 refine kEN ?_
 obtain ⟨s2, hy1, h4⟩ := bindS h3
 refine K.cutN (by kernel_rfl) (fun (s2 : Unit) => ([(6, .bool false), (7, .ptr 0 0)], [.box (encSt124 y0)])) s2 ?_ ?_
 ·refine kSR ?_
  refine kC 2 [3,6,7,14,15] ?_
  refine kEN ?_
  refine kb 0 ?_
  refine J.wk (Wk.sel (L2 := [(3, .ptr 0 0), (6, .bool false), (7, .ptr 1 0), (14, .agg (encSt124 y0)), (15, iL 0)]) (H2 := [.box (encSt22 x0), .box (encSt124 y0)]) 0 (by rw [hFH]; rfl) hFD [0, 2] (by kernel_rfl) (by kernel_rfl) (by decide) (by kernel_rfl) (by kernel_rfl) (by kernel_rfl) (by kernel_rfl)) ?_
  refine kl (fun (s0 : Int) => ([(3, .ptr 0 0), (6, .bool false), (7, .ptr 1 0), (14, .agg (encSt124 y0)), (15, iL s0)], [.box (encSt22 x0), .box (encSt124 y0)])) hy1 [3, 6, 7, 14, 15] (fun s0 x132 hs0 => ?_)
  refine kSR ?_
  refine kC 1 [3,6,7,14,15,16] ?_
  refine kEN ?_
  refine kS ?_
  refine kBJ 16 hs0 (fun h0 => ?_) (fun h5 => ?_)
  ·refine kT ?_
   refine kK ?_
   refine PJ.next ?_
   refine kS ?_
   refine kb 1 ?_
   refine kSR ?_
   cases hb0 : (decide (s0 = 0))
   ·have h1 := condF hb0 h0
    cases hb1 : (decide (s0 = 1))
    ·have h2 := condF hb1 h1
     cases hb2 : (decide (s0 = 2))
     ·have h6 := condF hb2 h2
      cases h6
     ·have h7 := condT hb2 h2
      refine RJ.pin 15 (kd := .i64) (by kernel_rfl) (of_decide_eq_true hb2) ?_
      refine kC 3 [3,6,7,9,14,15] ?_
      refine kEN ?_
      refine kSR ?_
      refine kC 2 [3,6,7,14,15,18,19] ?_
      obtain ⟨y4, hy2, h8⟩ := bindS h7
      refine kA 20 (affix_Calm_ok hy2) ?_
      refine kC 1 [3,6,7,14,15,21] ?_
      refine kEN ?_
      refine cT 21 h8 (fun h9 => ?_)
      refine kF ?_
      refine kK ?_
      refine PJ.blockNormal ?_
      refine PJ.next ?_
      refine kR ?_
      refine kC 2 [3,6,7,14,15] ?_
      refine kE ?_
      obtain rfl := oi h9
      refine kW (L2 := [(3, .ptr 0 0), (6, .bool false), (7, .ptr 1 0), (14, .agg (encSt124 y0)), (15, iL (IntKind.wrap .i64 (2 + 1)))]) (H2 := [.box (encSt22 x0), .box (encSt124 y0)]) hFH hFD [0, 1] ?_
      exact kLN [3, 6, 7, 14, 15]
    ·have h10 := condT hb1 h1
     refine RJ.pin 15 (kd := .i64) (by kernel_rfl) (of_decide_eq_true hb1) ?_
     refine kC 3 [3,6,7,9,14,15] ?_
     refine kEN ?_
     refine kSR ?_
     refine kC 2 [3,6,7,14,15,18,19] ?_
     obtain ⟨y3, hy3, h11⟩ := bindS h10
     refine kA 20 (affix_Calm_ok hy3) ?_
     refine kC 1 [3,6,7,14,15,21] ?_
     refine kEN ?_
     refine cT 21 h11 (fun h12 => ?_)
     refine kF ?_
     refine kK ?_
     refine PJ.blockNormal ?_
     refine PJ.next ?_
     refine kR ?_
     refine kC 2 [3,6,7,14,15] ?_
     refine kE ?_
     obtain rfl := oi h12
     refine kW (L2 := [(3, .ptr 0 0), (6, .bool false), (7, .ptr 1 0), (14, .agg (encSt124 y0)), (15, iL (IntKind.wrap .i64 (1 + 1)))]) (H2 := [.box (encSt22 x0), .box (encSt124 y0)]) hFH hFD [0, 1] ?_
     exact kLN [3, 6, 7, 14, 15]
   ·have h13 := condT hb0 h0
    refine RJ.pin 15 (kd := .i64) (by kernel_rfl) (of_decide_eq_true hb0) ?_
    refine kC 3 [3,6,7,9,14,15] ?_
    refine kEN ?_
    refine kSR ?_
    refine kC 2 [3,6,7,14,15,18,19] ?_
    obtain ⟨y2, hy4, h14⟩ := bindS h13
    refine kA 20 (affix_Calm_ok hy4) ?_
    refine kC 1 [3,6,7,14,15,21] ?_
    refine kEN ?_
    refine cT 21 h14 (fun h15 => ?_)
    refine kF ?_
    refine kK ?_
    refine PJ.blockNormal ?_
    refine PJ.next ?_
    refine kR ?_
    refine kC 2 [3,6,7,14,15] ?_
    refine kE ?_
    obtain rfl := oi h15
    refine kW (L2 := [(3, .ptr 0 0), (6, .bool false), (7, .ptr 1 0), (14, .agg (encSt124 y0)), (15, iL (IntKind.wrap .i64 (0 + 1)))]) (H2 := [.box (encSt22 x0), .box (encSt124 y0)]) hFH hFD [0, 1] ?_
    exact kLN [3, 6, 7, 14, 15]
  ·refine kF ?_
   refine K.exit 0 (by kernel_rfl) ?_
   refine PJ.passExit ?_
   obtain rfl := oi h5
   refine PJ.loopOut (fun e => nomatch e) (fun he0 => ?_)
   have h16 := congrArg some he0
   refine PJ.blockOut ?_
   obtain rfl := oi h16
   refine kW (L2 := [(6, .bool false), (7, .ptr 0 0)]) (H2 := [.box (encSt124 y0)]) hFH hFD [1] ?_
   exact kN [6, 7]
 ·obtain ⟨s1, hy5, h17⟩ := bindS h4
  refine K.cutN (by kernel_rfl) (fun (s1 : Bool) => ([(6, .bool s1)], [])) s1 ?_ ?_
  ·refine kR ?_
   refine kC 4 [6,7,24,26] ?_
   obtain ⟨y5, hy6, h18⟩ := bindS hy5
   refine kA 27 (affix_Same_ok hy6) ?_
   refine kC 2 [6,7,29] ?_
   refine cFR 29 h18 (fun h19 => ?_)
   refine kC 4 [6,29,31,33] ?_
   obtain ⟨y1, hy7, h20⟩ := bindS h19
   refine kA 34 (affix_Same_ok hy7) ?_
   refine kC 3 [6] ?_
   refine kE ?_
   obtain rfl := oi h20
   refine kW (L2 := [(6, .bool (!y1))]) (H2 := []) hFH hFD [] ?_
   exact kN [6]
  ·refine kX ?_
   obtain rfl := oi h17
   exact kZ hFn hFH hFD
def loc_padded (x0 : St22) (x1 : St32) : Option (Bool) :=
 (bif (decide (x1.PadAt_ = 0)) then (some true) else none)
theorem loc_padded_ok {x0 : St22} {x1 : St32} {r : Bool} (h : loc_padded x0 x1 = some r) : SC Tryz.prog 41 [.agg (encSt22 x0), .agg (encSt32 x1)] [] (.bool r) [] := by
 refine kFn (fn := Tryz.f41) (fun F hFn hFH hFD => ?_)
 unfold loc_padded at h
 refine kSR ?_
 refine kC 3 [2,3,4] ?_
 refine kEN ?_
 refine kS ?_
 refine kSR ?_
 refine kC 3 [2,3,4,10] ?_
 refine kEN ?_
 refine cF 10 h (fun h0 => ?_)
 refine kT ?_
 refine kSR ?_
 refine kC 1 [2,3,4] ?_
 refine kEN ?_
 refine kX ?_
 refine PJ.passRet ?_
 obtain rfl := oi h0
 exact kZ hFn hFH hFD
def loc_Pattern (x0 : St22) (x1 : Int) (x2 : List UInt8) : Option (St32 × Bool) :=
 (Option.bind (loc_read x2) fun y0 => (Option.bind (Option.bind (bif (!y0.2) then none else (bif (decide (x1 < 0)) then none else (some ()))) fun (s2 : Unit) => (bif (decide (x1 > 3)) then none else (some ()))) fun (s3 : Unit) => (Option.bind (Option.bind (Option.bind (loc_numbered y0.1 x1) fun y3 => (bif (!y3) then none else (Option.bind (loc_pieced y0.1.Pre_ y0.1.Suf_ x1 0) fun y4 => (bif (!y4) then (some true) else (bif y0.1.Neg_ then none else (some false)))))) fun (s0 : Bool) => (bif s0 then (some (.inr ((⟨([] : List St106), ([] : List St106), ([] : List St106), ([] : List St106), false, 0, 0, 0, 0, 0, 0, 0, 0, 0, false, 0, 0⟩ : St32), false))) else (some (.inl ())))) (joinX fun (s5 : Unit) => (Option.bind (Option.bind (Option.bind (loc_toldApart x0 y0.1 ([] : List Int)) fun y1 => (bif (!y1) then none else (Option.bind (loc_padded x0 y0.1) fun y2 => (some (!y2))))) fun (s1 : Bool) => (bif s1 then none else (some ()))) fun (s4 : Unit) => (some (y0.1, true)))))))
theorem loc_Pattern_ok {x0 : St22} {x1 : Int} {x2 : List UInt8} {r : St32 × Bool} (h : loc_Pattern x0 x1 x2 = some r) : SC Tryz.prog 11 [.agg (encSt22 x0), iL x1, .str x2] [] (.tup [.agg (encSt32 r.1), .bool r.2]) [] := by
 refine kFn (fn := Tryz.f11) (fun F hFn hFH hFD => ?_)
 unfold loc_Pattern at h
 refine kSR ?_
 refine kC 3 [1,2,3,6,7] ?_
 refine kEN ?_
 refine kSR ?_
 refine kC 1 [1,3,6,7,11] ?_
 obtain ⟨y0, hy0, h1⟩ := bindS h
 refine kA 12 (loc_read_ok hy0) ?_
 refine kC 6 [1,3,6,7,8,9] ?_
 refine kEN ?_
 obtain ⟨s3, hy1, h2⟩ := bindS h1
 refine K.cutN (by kernel_rfl) (fun (s3 : Unit) => ([(1, iL x1), (3, .ptr 0 0), (6, .ptr 1 0), (7, .bool false), (8, .ptr 2 0)], [.box (encSt22 x0), .box [.nl, .nl, .nl, .nl, .bool false, iL 0, iL 0, iL 0, iL 0, iL 0, iL 0, iL 0, iL 0, iL 0, .bool false, iM 0, iL 0], .box (encSt32 y0.1)])) s3 ?_ ?_
 ·obtain ⟨s2, hy2, h3⟩ := bindS hy1
  refine K.cutN (by kernel_rfl) (fun (s2 : Unit) => ([(1, iL x1), (3, .ptr 0 0), (6, .ptr 1 0), (7, .bool false), (8, .ptr 2 0), (24, .bool (decide (x1 > 3)))], [.box (encSt22 x0), .box [.nl, .nl, .nl, .nl, .bool false, iL 0, iL 0, iL 0, iL 0, iL 0, iL 0, iL 0, iL 0, iL 0, .bool false, iM 0, iL 0], .box (encSt32 y0.1)])) s2 ?_ ?_
  ·refine kR ?_
   refine kC 3 [1,3,6,7,8,17] ?_
   refine cTR 17 hy2 (fun h4 => ?_)
   refine kC 4 [1,3,6,7,8,21] ?_
   refine cTR 21 h4 (fun h5 => ?_)
   refine kC 3 [1,3,6,7,8,24] ?_
   refine kE ?_
   obtain rfl := oi h5
   exact kN [1, 3, 6, 7, 8, 24]
  ·refine cT 24 h3 (fun h6 => ?_)
   refine kF ?_
   refine kK ?_
   obtain rfl := oi h6
   exact kN [1, 3, 6, 7, 8]
 ·obtain ⟨y5, hy3, h0⟩ := bindS h2
  refine K.cutX (by kernel_rfl) (fun (s5 : Unit) => ([(3, .ptr 0 0), (6, .ptr 1 0), (7, .bool false), (8, .ptr 2 0)], [.box (encSt22 x0), .box [.nl, .nl, .nl, .nl, .bool false, iL 0, iL 0, iL 0, iL 0, iL 0, iL 0, iL 0, iL 0, iL 0, .bool false, iM 0, iL 0], .box (encSt32 y0.1)])) y5 ?_ (fun s5 hs => ?_)
  ·obtain ⟨s0, hy4, h7⟩ := bindS hy3
   refine K.cutN (by kernel_rfl) (fun (s0 : Bool) => ([(3, .ptr 0 0), (6, .ptr 1 0), (7, .bool false), (8, .ptr 2 0), (51, .bool s0)], [.box (encSt22 x0), .box [.nl, .nl, .nl, .nl, .bool false, iL 0, iL 0, iL 0, iL 0, iL 0, iL 0, iL 0, iL 0, iL 0, .bool false, iM 0, iL 0], .box (encSt32 y0.1)])) s0 ?_ ?_
   ·refine kR ?_
    refine kC 2 [1,3,6,7,8,26,27] ?_
    obtain ⟨y3, hy5, h8⟩ := bindS hy4
    refine kA 28 (loc_numbered_ok hy5) ?_
    refine kC 2 [1,3,6,7,8,30] ?_
    refine cTR 30 h8 (fun h9 => ?_)
    refine kC 5 [1,3,6,7,8,30,32,34,35] ?_
    obtain ⟨y4, hy6, h10⟩ := bindS h9
    refine kA 36 (loc_pieced_ok hy6) ?_
    refine kC 3 [1,3,6,7,8,39] ?_
    refine kB 39 h10 (fun h11 => ?_) (fun h12 => ?_)
    ·refine kC 12 [3,6,7,8,51] ?_
     refine kE ?_
     obtain rfl := oi h11
     exact kN [3, 6, 7, 8, 51]
    ·refine kC 3 [1,3,6,7,8,39,42] ?_
     refine cTR 42 h12 (fun h13 => ?_)
     refine kC 9 [3,6,7,8,51] ?_
     refine kE ?_
     obtain rfl := oi h13
     exact kN [3, 6, 7, 8, 51]
   ·refine kBJ 51 h7 (fun h14 => ?_) (fun h15 => ?_)
    ·refine kT ?_
     refine kSR ?_
     refine kC 3 [3,6,7,8] ?_
     refine kEN ?_
     refine kX ?_
     obtain rfl := oi h14
     have h16 := joinX_inr h0
     refine PJ.cutXr (fun e => nomatch e) ?_
     obtain rfl := oi h16
     refine PJ.res (v1 := .tup [.agg [.nl, .nl, .nl, .nl, .bool false, iL 0, iL 0, iL 0, iL 0, iL 0, iL 0, iL 0, iL 0, iL 0, .bool false, iM 0, iL 0], .bool false]) (Le.tup (.cons (Le.agg (.cons (Le.nl _) (.cons (Le.nl _) (.cons (Le.nl _) (.cons (Le.nl _) (.cons (Le.refl _) (.cons (Le.refl _) (.cons (Le.refl _) (.cons (Le.refl _) (.cons (Le.refl _) (.cons (Le.refl _) (.cons (Le.refl _) (.cons (Le.refl _) (.cons (Le.refl _) (.cons (Le.refl _) (.cons (Le.refl _) (.cons (Le.refl _) (.cons (Le.refl _) .nil)))))))))))))))))) (.cons (Le.refl _) .nil))) ?_
     exact kZ hFn hFH hFD
    ·refine kF ?_
     refine kK ?_
     obtain rfl := oi h15
     exact kXl [3, 6, 7, 8]
  ·subst hs
   have h17 := joinX_inl h0
   obtain ⟨s4, hy7, h18⟩ := bindS h17
   refine K.cutN (by kernel_rfl) (fun (s4 : Unit) => ([(6, .ptr 0 0), (7, .bool false), (8, .ptr 1 0)], [.box [.nl, .nl, .nl, .nl, .bool false, iL 0, iL 0, iL 0, iL 0, iL 0, iL 0, iL 0, iL 0, iL 0, .bool false, iM 0, iL 0], .box (encSt32 y0.1)])) s4 ?_ ?_
   ·obtain ⟨s1, hy8, h19⟩ := bindS hy7
    refine K.cutN (by kernel_rfl) (fun (s1 : Bool) => ([(6, .ptr 0 0), (7, .bool false), (8, .ptr 1 0), (62, .bool s1)], [.box [.nl, .nl, .nl, .nl, .bool false, iL 0, iL 0, iL 0, iL 0, iL 0, iL 0, iL 0, iL 0, iL 0, .bool false, iM 0, iL 0], .box (encSt32 y0.1)])) s1 ?_ ?_
    ·refine kR ?_
     refine kC 2 [3,6,7,8,53,54] ?_
     obtain ⟨y1, hy9, h20⟩ := bindS hy8
     refine RJ.call0 (d := (some 55)) (f := 40) (args := [.agg (encSt22 x0), .agg (encSt32 y0.1), .nl]) (v := .bool y1) (tr2 := []) (by kernel_rfl) (by kernel_rfl) (.cons (Le.refl _) (.cons (Le.refl _) (.cons (Le.nl _) .nil))) (loc_toldApart_ok hy9) (by kernel_rfl) ?_
     refine kC 2 [3,6,7,8,57] ?_
     refine cTR 57 h20 (fun h21 => ?_)
     refine kC 2 [6,7,8,57,58,59] ?_
     obtain ⟨y2, hy10, h22⟩ := bindS h21
     refine kA 60 (loc_padded_ok hy10) ?_
     refine kC 2 [6,7,8,62] ?_
     refine kE ?_
     obtain rfl := oi h22
     refine kW (L2 := [(6, .ptr 0 0), (7, .bool false), (8, .ptr 1 0), (62, .bool (!y2))]) (H2 := [.box [.nl, .nl, .nl, .nl, .bool false, iL 0, iL 0, iL 0, iL 0, iL 0, iL 0, iL 0, iL 0, iL 0, .bool false, iM 0, iL 0], .box (encSt32 y0.1)]) hFH hFD [1, 2] ?_
     exact kN [6, 7, 8, 62]
    ·refine cT 62 h19 (fun h23 => ?_)
     refine kF ?_
     refine kK ?_
     obtain rfl := oi h23
     exact kN [6, 7, 8]
   ·refine kSR ?_
    refine kC 3 [6,7] ?_
    refine kEN ?_
    refine kX ?_
    obtain rfl := oi h18
    exact kZ hFn hFH hFD
structure St42 where
 a0_ : List UInt8
 a1_ : List UInt8
 a2_ : List UInt8
 a3_ : List UInt8
 deriving Inhabited, DecidableEq
def encSt42 (x : St42) : List SV := [.str x.a0_, .str x.a1_, .str x.a2_, .str x.a3_]
theorem encSt42_len (x : St42) : (encSt42 x).length = 4 := rfl
structure St91 where
 Cat_ : Int
 Text_ : List UInt8
 deriving Inhabited, DecidableEq
def encSt91 (x : St91) : List SV := [.int .i64 x.Cat_, .str x.Text_]
theorem encSt91_len (x : St91) : (encSt91 x).length = 2 := rfl
structure St58 where
 Code_ : List UInt8
 Sign_ : List UInt8
 Digits_ : Int
 deriving Inhabited, DecidableEq
def encSt58 (x : St58) : List SV := [.str x.Code_, .str x.Sign_, .int .i64 x.Digits_]
theorem encSt58_len (x : St58) : (encSt58 x).length = 3 := rfl
structure St25 where
 Mag_ : Int
 Cat_ : Int
 Pat_ : List UInt8
 deriving Inhabited, DecidableEq
def encSt25 (x : St25) : List SV := [.int .i64 x.Mag_, .int .i64 x.Cat_, .str x.Pat_]
theorem encSt25_len (x : St25) : (encSt25 x).length = 3 := rfl
structure St46 where
 Tag_ : List UInt8
 S_ : St22
 Pats_ : St42
 Rules_ : List St91
 Curs_ : List St58
 Comps_ : List St25
 deriving Inhabited, DecidableEq
def encSt46 (x : St46) : List SV := [.str x.Tag_, .int .i32 x.S_.Zero_, .int .i32 x.S_.Dec_, .int .i32 x.S_.Group_, .int .i32 x.S_.Minus_, .int .i32 x.S_.Plus_, .int .i32 x.S_.Percent_, .int .i32 x.S_.Exp_, .str x.Pats_.a0_, .str x.Pats_.a1_, .str x.Pats_.a2_, .str x.Pats_.a3_, lsv encSt91 2 x.Rules_, lsv encSt58 3 x.Curs_, lsv encSt25 3 x.Comps_]
theorem encSt46_len (x : St46) : (encSt46 x).length = 15 := rfl
def exerguelaw15_small  : Option (St46) :=
 (Option.bind exerguelaw15_latin fun y0 => (some (⟨([101, 110] : List UInt8), y0, (⟨([35, 44, 35, 35, 48, 46, 35, 35, 35] : List UInt8), ([35, 44, 35, 35, 48, 37] : List UInt8), ([48, 46, 35, 35, 35, 69, 48] : List UInt8), ([194, 164, 35, 44, 35, 35, 48, 46, 48, 48] : List UInt8)⟩ : St42), ([(⟨2, ([105, 32, 61, 32, 49, 32, 97, 110, 100, 32, 118, 32, 61, 32, 48] : List UInt8)⟩ : St91)] : List St91), ([(⟨([85, 83, 68] : List UInt8), ([36] : List UInt8), 2⟩ : St58)] : List St58), ([(⟨4, 0, ([48, 75] : List UInt8)⟩ : St25), (⟨5, 0, ([48, 48, 75] : List UInt8)⟩ : St25)] : List St25)⟩ : St46)))
theorem exerguelaw15_small_ok  {r : St46} (h : exerguelaw15_small = some r) : SC Tryz.prog 33 [] [] (.agg (encSt46 r)) [] := by
 refine kFn (fn := Tryz.f33) (fun F hFn hFH hFD => ?_)
 unfold exerguelaw15_small at h
 refine kSR ?_
 refine kC 1 [0] ?_
 refine kEN ?_
 refine kSR ?_
 obtain ⟨y0, hy0, h0⟩ := bindS h
 refine kA 1 (exerguelaw15_latin_ok hy0) ?_
 refine kC 10 [0] ?_
 refine kEN ?_
 refine kX ?_
 obtain rfl := oi h0
 refine PJ.wk (Wk.freeze 1 (n := (([(⟨2, ([105, 32, 61, 32, 49, 32, 97, 110, 100, 32, 118, 32, 61, 32, 48] : List UInt8)⟩ : St91)] : List St91)).length) (k := 2) (e := 92) (cs := (([(⟨2, ([105, 32, 61, 32, 49, 32, 97, 110, 100, 32, 118, 32, 61, 32, 48] : List UInt8)⟩ : St91)] : List St91)).flatMap encSt91) (by kernel_rfl)) ?_
 refine PJ.wk (Wk.freeze 2 (n := (([(⟨([85, 83, 68] : List UInt8), ([36] : List UInt8), 2⟩ : St58)] : List St58)).length) (k := 3) (e := 59) (cs := (([(⟨([85, 83, 68] : List UInt8), ([36] : List UInt8), 2⟩ : St58)] : List St58)).flatMap encSt58) (by kernel_rfl)) ?_
 refine PJ.wk (Wk.freeze 3 (n := (([(⟨4, 0, ([48, 75] : List UInt8)⟩ : St25), (⟨5, 0, ([48, 48, 75] : List UInt8)⟩ : St25)] : List St25)).length) (k := 3) (e := 26) (cs := (([(⟨4, 0, ([48, 75] : List UInt8)⟩ : St25), (⟨5, 0, ([48, 48, 75] : List UInt8)⟩ : St25)] : List St25)).flatMap encSt25) (by kernel_rfl)) ?_
 exact kZ hFn hFH hFD
structure St93 where
 Locale_ : St46
 deriving Inhabited, DecidableEq
def encSt93 (x : St93) : List SV := [.str x.Locale_.Tag_, .int .i32 x.Locale_.S_.Zero_, .int .i32 x.Locale_.S_.Dec_, .int .i32 x.Locale_.S_.Group_, .int .i32 x.Locale_.S_.Minus_, .int .i32 x.Locale_.S_.Plus_, .int .i32 x.Locale_.S_.Percent_, .int .i32 x.Locale_.S_.Exp_, .str x.Locale_.Pats_.a0_, .str x.Locale_.Pats_.a1_, .str x.Locale_.Pats_.a2_, .str x.Locale_.Pats_.a3_, lsv encSt91 2 x.Locale_.Rules_, lsv encSt58 3 x.Locale_.Curs_, lsv encSt25 3 x.Locale_.Comps_]
theorem encSt93_len (x : St93) : (encSt93 x).length = 15 := rfl
def loc_capital (x0 : Int) : Option (Bool) :=
 (Option.bind (bif (decide (65 ≤ x0)) then (some (decide (x0 ≤ 90))) else (some false)) fun (s0 : Bool) => (some s0))
theorem loc_capital_ok {x0 : Int} {r : Bool} (h : loc_capital x0 = some r) : SC Tryz.prog 91 [.int .u8 x0] [] (.bool r) [] := by
 refine kFn (fn := Tryz.f91) (fun F hFn hFH hFD => ?_)
 unfold loc_capital at h
 refine kSR ?_
 refine kC 1 [0,2] ?_
 refine kEN ?_
 obtain ⟨s0, hy0, h0⟩ := bindS h
 refine K.cutN (by kernel_rfl) (fun (s0 : Bool) => ([(2, .bool s0)], [])) s0 ?_ ?_
 ·refine kR ?_
  refine kC 3 [0,2,5] ?_
  refine kB 5 hy0 (fun h1 => ?_) (fun h2 => ?_)
  ·refine kC 4 [2] ?_
   refine kE ?_
   obtain rfl := oi h1
   exact kN [2]
  ·refine kC 4 [2] ?_
   refine kE ?_
   obtain rfl := oi h2
   exact kN [2]
 ·refine kX ?_
  obtain rfl := oi h0
  exact kZ hFn hFH hFD
def loc_letter (x0 : Int) : Option (Bool) :=
 (Option.bind (bif (decide (97 ≤ x0)) then (bif (decide (x0 ≤ 122)) then (some true) else (Option.bind (loc_capital x0) fun y0 => (some y0))) else (Option.bind (loc_capital x0) fun y1 => (some y1))) fun (s0 : Bool) => (some s0))
theorem loc_letter_ok {x0 : Int} {r : Bool} (h : loc_letter x0 = some r) : SC Tryz.prog 48 [.int .u8 x0] [] (.bool r) [] := by
 refine kFn (fn := Tryz.f48) (fun F hFn hFH hFD => ?_)
 unfold loc_letter at h
 refine kSR ?_
 refine kC 1 [0,2] ?_
 refine kEN ?_
 obtain ⟨s0, hy0, h0⟩ := bindS h
 refine K.cutN (by kernel_rfl) (fun (s0 : Bool) => ([(2, .bool s0)], [])) s0 ?_ ?_
 ·refine kR ?_
  refine kC 3 [0,2,5] ?_
  refine kB 5 hy0 (fun h1 => ?_) (fun h2 => ?_)
  ·refine kC 4 [0,2,9] ?_
   refine kB 9 h1 (fun h3 => ?_) (fun h4 => ?_)
   ·refine kC 4 [2] ?_
    refine kE ?_
    obtain rfl := oi h3
    exact kN [2]
   ·refine kC 1 [2,9,10] ?_
    obtain ⟨y0, hy1, h5⟩ := bindS h4
    refine kA 11 (loc_capital_ok hy1) ?_
    refine kC 2 [2] ?_
    refine kE ?_
    obtain rfl := oi h5
    exact kN [2]
  ·refine kC 5 [2,9,10] ?_
   obtain ⟨y1, hy2, h6⟩ := bindS h2
   refine kA 11 (loc_capital_ok hy2) ?_
   refine kC 2 [2] ?_
   refine kE ?_
   obtain rfl := oi h6
   exact kN [2]
 ·refine kX ?_
  obtain rfl := oi h0
  exact kZ hFn hFH hFD
def loc_Tag (x0 : List UInt8) : Option (Bool) :=
 (Option.bind (Option.bind (bif (decide ((x0.length : Int) = 0)) then (some true) else (some ((decide ((x0.length : Int) > 20))))) fun (s1 : Bool) => (bif s1 then (some (.inr false)) else (some (.inl ())))) (joinX fun (s3 : Unit) => (Option.bind (loopN (fun (s0 : Int) => (bif (decide (s0 < ((bytesI x0).length : Int))) then (Option.bind (bif inR s0 (bytesI x0).length then (Option.bind (Option.bind (loc_letter (nth (bytesI x0) s0)) fun y0 => (bif (!y0) then (bif (decide (¬ (nth (bytesI x0) s0) = 45)) then (bif (decide ((nth (bytesI x0) s0) < 48)) then (some true) else (some ((decide ((nth (bytesI x0) s0) > 57))))) else (some false)) else (some false))) fun (s2 : Bool) => (bif s2 then (some (.inr (.inr (.inr false)))) else (some (.inl ())))) else none) (joinX fun (s4 : Unit) => (some (.inl (IntKind.wrap .i64 (s0 + 1)))))) else (some (.inr (.inl ()))))) big 0) (joinX fun (s5 : Unit) => (some true)))))
theorem loc_Tag_ok {x0 : List UInt8} {r : Bool} (h : loc_Tag x0 = some r) : SC Tryz.prog 16 [.str x0] [] (.bool r) [] := by
 refine kFn (fn := Tryz.f16) (fun F hFn hFH hFD => ?_)
 unfold loc_Tag at h
 refine kSR ?_
 refine kC 1 [0,2] ?_
 refine kEN ?_
 obtain ⟨y1, hy0, h0⟩ := bindS h
 refine K.cutX (by kernel_rfl) (fun (s3 : Unit) => ([(0, .str x0), (2, .bool false)], [])) y1 ?_ (fun s3 hs => ?_)
 ·obtain ⟨s1, hy1, h3⟩ := bindS hy0
  refine K.cutN (by kernel_rfl) (fun (s1 : Bool) => ([(0, .str x0), (2, .bool false), (12, .bool s1)], [])) s1 ?_ ?_
  ·refine kR ?_
   refine kC 4 [0,2,8] ?_
   refine kB 8 hy1 (fun h4 => ?_) (fun h5 => ?_)
   ·refine kC 4 [0,2,12] ?_
    refine kE ?_
    obtain rfl := oi h4
    exact kN [0, 2, 12]
   ·refine kC 4 [0,2,12] ?_
    refine kE ?_
    obtain rfl := oi h5
    exact kN [0, 2, 12]
  ·refine kBJ 12 h3 (fun h6 => ?_) (fun h7 => ?_)
   ·refine kT ?_
    refine kSR ?_
    refine kC 1 [0,2] ?_
    refine kEN ?_
    refine kX ?_
    obtain rfl := oi h6
    have h8 := joinX_inr h0
    refine PJ.cutXr (fun e => nomatch e) ?_
    obtain rfl := oi h8
    exact kZ hFn hFH hFD
   ·refine kF ?_
    refine kK ?_
    obtain rfl := oi h7
    exact kXl [0, 2]
 ·subst hs
  have h9 := joinX_inl h0
  obtain ⟨y2, hy2, h1⟩ := bindS h9
  refine K.cutX (by kernel_rfl) (fun (s5 : Unit) => ([(2, .bool false)], [])) y2 ?_ (fun s5 hs => ?_)
  ·refine kSR ?_
   refine kC 1 [2,13] ?_
   refine RJ.rel (d := (some 14)) (ef := ⟨.lst x0.length 1 (x0.map byteSV), [], []⟩) (ef' := ⟨lB (bytesI x0), [], []⟩) (c := true) (tr2 := []) (H2 := []) (by kernel_rfl) rfl (fun hc => N.toBytes) (by kernel_rfl) ?_
   refine kC 2 [2,14,15,16] ?_
   refine kEN ?_
   refine kb 0 ?_
   refine kl (fun (s0 : Int) => ([(2, .bool false), (14, lB (bytesI x0)), (15, iL ((bytesI x0).length : Int)), (16, iL s0)], [])) hy2 [2, 14, 15, 16] (fun s0 x466 hs0 => ?_)
   refine kSR ?_
   refine kC 1 [2,14,15,16,17] ?_
   refine kEN ?_
   refine kS ?_
   refine kBJ 17 hs0 (fun h10 => ?_) (fun h11 => ?_)
   ·refine kT ?_
    refine kK ?_
    refine PJ.next ?_
    obtain ⟨y3, hy3, h2⟩ := bindS h10
    refine K.cutX (by kernel_rfl) (fun (s4 : Unit) => ([(2, .bool false), (14, lB (bytesI x0)), (15, iL ((bytesI x0).length : Int)), (16, iL s0)], [])) y3 ?_ (fun s4 hs => ?_)
    ·refine kb 1 ?_
     refine kSR ?_
     obtain ⟨hm, h12⟩ := asrt hy3
     refine kI 18 (encI_len .u8) hm ?_
     refine kC 2 [2,4,14,15,16] ?_
     refine kEN ?_
     obtain ⟨s2, hy4, h13⟩ := bindS h12
     refine K.cutN (by kernel_rfl) (fun (s2 : Bool) => ([(2, .bool false), (14, lB (bytesI x0)), (15, iL ((bytesI x0).length : Int)), (16, iL s0), (34, .bool s2)], [])) s2 ?_ ?_
     ·refine kR ?_
      refine kC 1 [2,4,14,15,16,20] ?_
      obtain ⟨y0, hy5, h14⟩ := bindS hy4
      refine kA 21 (loc_letter_ok hy5) ?_
      refine kC 2 [2,4,14,15,16,23] ?_
      refine kB 23 h14 (fun h15 => ?_) (fun h16 => ?_)
      ·refine kC 4 [2,4,14,15,16,27] ?_
       refine kB 27 h15 (fun h17 => ?_) (fun h18 => ?_)
       ·refine kC 3 [2,4,14,15,16,27,30] ?_
        refine kB 30 h17 (fun h19 => ?_) (fun h20 => ?_)
        ·refine kC 4 [2,14,15,16,34] ?_
         refine kE ?_
         obtain rfl := oi h19
         exact kN [2, 14, 15, 16, 34]
        ·refine kC 4 [2,14,15,16,34] ?_
         refine kE ?_
         obtain rfl := oi h20
         exact kN [2, 14, 15, 16, 34]
       ·refine kC 7 [2,14,15,16,34] ?_
        refine kE ?_
        obtain rfl := oi h18
        exact kN [2, 14, 15, 16, 34]
      ·refine kC 11 [2,14,15,16,34] ?_
       refine kE ?_
       obtain rfl := oi h16
       exact kN [2, 14, 15, 16, 34]
     ·refine kBJ 34 h13 (fun h21 => ?_) (fun h22 => ?_)
      ·refine kT ?_
       refine kSR ?_
       refine kC 1 [2,14,15,16] ?_
       refine kEN ?_
       refine kX ?_
       refine PJ.blockRet ?_
       obtain rfl := oi h21
       have h23 := joinX_inr h2
       refine PJ.cutXr (fun e => nomatch e) ?_
       obtain rfl := oi h23
       refine PJ.loopOut (fun e => nomatch e) (fun he0 => ?_)
       have h24 := congrArg some he0
       refine PJ.blockRet ?_
       obtain rfl := oi h24
       have h25 := joinX_inr h1
       refine PJ.cutXr (fun e => nomatch e) ?_
       obtain rfl := oi h25
       exact kZ hFn hFH hFD
      ·refine kF ?_
       refine kK ?_
       refine PJ.blockNormal ?_
       obtain rfl := oi h22
       exact kXl [2, 14, 15, 16]
    ·subst hs
     have h26 := joinX_inl h2
     refine kR ?_
     refine kC 2 [2,14,15,16] ?_
     refine kE ?_
     obtain rfl := oi h26
     exact kLN [2, 14, 15, 16]
   ·refine kF ?_
    refine K.exit 0 (by kernel_rfl) ?_
    refine PJ.passExit ?_
    obtain rfl := oi h11
    refine PJ.loopOut (fun e => nomatch e) (fun he1 => ?_)
    have h27 := congrArg some he1
    refine PJ.blockOut ?_
    obtain rfl := oi h27
    exact kXl [2]
  ·subst hs
   have h28 := joinX_inl h1
   refine kSR ?_
   refine kC 1 [2] ?_
   refine kEN ?_
   refine kX ?_
   obtain rfl := oi h28
   exact kZ hFn hFH hFD
def loc_checker__tag (x0 : St93) : Option (Int × Bool) :=
 (Option.bind (loc_Tag x0.Locale_.Tag_) fun y0 => (some (0, y0)))
theorem loc_checker__tag_ok {x0 : St93} {r : Int × Bool} (h : loc_checker__tag x0 = some r) : SC Tryz.prog 52 [.agg (encSt93 x0)] [] (.tup [iL r.1, .bool r.2]) [] := by
 refine kFn (fn := Tryz.f52) (fun F hFn hFH hFD => ?_)
 unfold loc_checker__tag at h
 refine kSR ?_
 refine kC 3 [1,2,3] ?_
 refine kEN ?_
 refine kSR ?_
 refine kC 3 [2,3,6] ?_
 obtain ⟨y0, hy0, h0⟩ := bindS h
 refine kA 7 (loc_Tag_ok hy0) ?_
 refine kC 2 [2,3] ?_
 refine kEN ?_
 refine kX ?_
 obtain rfl := oi h0
 exact kZ hFn hFH hFD
def class_Zero (x0 : Int) : Option (Bool) :=
 (Option.bind (class_Value x0) fun y0 => (Option.bind (bif y0.2 then (some ()) else none) fun (s0 : Unit) => (some (decide (y0.1 = 0)))))
theorem class_Zero_ok {x0 : Int} {r : Bool} (h : class_Zero x0 = some r) : SC Tryz.prog 128 [iM x0] [] (.bool r) [] := by
 refine kFn (fn := Tryz.f128) (fun F hFn hFH hFD => ?_)
 unfold class_Zero at h
 refine kSR ?_
 refine kC 1 [0,2] ?_
 refine kEN ?_
 refine kSR ?_
 refine kC 1 [2,6] ?_
 obtain ⟨y0, hy0, h0⟩ := bindS h
 refine kA 7 (class_Value_ok hy0) ?_
 refine kC 5 [2,3,4] ?_
 refine kEN ?_
 obtain ⟨s0, hy1, h1⟩ := bindS h0
 refine K.cutN (by kernel_rfl) (fun (s0 : Unit) => ([(2, .bool (decide (y0.1 = 0)))], [])) s0 ?_ ?_
 ·refine kR ?_
  refine kC 2 [2,3,11] ?_
  refine cFR 11 hy1 (fun h2 => ?_)
  refine kC 4 [2] ?_
  refine kE ?_
  obtain rfl := oi h2
  exact kN [2]
 ·refine kX ?_
  obtain rfl := oi h1
  exact kZ hFn hFH hFD
def sym_apart_s0 (x0 : St22) : Option ((List (Int × Int))) :=
 (Option.bind (loopN (fun (s0 : Int × (List (Int × Int))) => (bif (decide (s0.1 < 6)) then (bif (decide (s0.1 = 0)) then (bif (mget (fun a b : Int => a == b) s0.2 x0.Dec_).isNone then (some (.inl ((IntKind.wrap .i64 (0 + 1)), (s0.2 ++ [(x0.Dec_, (IntKind.wrap .i64 ((((mget (fun a b : Int => a == b) s0.2 x0.Dec_).getD 0)) + 1)))])))) else none) else (bif (decide (s0.1 = 1)) then (bif (mget (fun a b : Int => a == b) s0.2 x0.Group_).isNone then (some (.inl ((IntKind.wrap .i64 (1 + 1)), (s0.2 ++ [(x0.Group_, (IntKind.wrap .i64 ((((mget (fun a b : Int => a == b) s0.2 x0.Group_).getD 0)) + 1)))])))) else none) else (bif (decide (s0.1 = 2)) then (bif (mget (fun a b : Int => a == b) s0.2 x0.Minus_).isNone then (some (.inl ((IntKind.wrap .i64 (2 + 1)), (s0.2 ++ [(x0.Minus_, (IntKind.wrap .i64 ((((mget (fun a b : Int => a == b) s0.2 x0.Minus_).getD 0)) + 1)))])))) else none) else (bif (decide (s0.1 = 3)) then (bif (mget (fun a b : Int => a == b) s0.2 x0.Plus_).isNone then (some (.inl ((IntKind.wrap .i64 (3 + 1)), (s0.2 ++ [(x0.Plus_, (IntKind.wrap .i64 ((((mget (fun a b : Int => a == b) s0.2 x0.Plus_).getD 0)) + 1)))])))) else none) else (bif (decide (s0.1 = 4)) then (bif (mget (fun a b : Int => a == b) s0.2 x0.Percent_).isNone then (some (.inl ((IntKind.wrap .i64 (4 + 1)), (s0.2 ++ [(x0.Percent_, (IntKind.wrap .i64 ((((mget (fun a b : Int => a == b) s0.2 x0.Percent_).getD 0)) + 1)))])))) else none) else (bif (decide (s0.1 = 5)) then (bif (mget (fun a b : Int => a == b) s0.2 x0.Exp_).isNone then (some (.inl ((IntKind.wrap .i64 (5 + 1)), (s0.2 ++ [(x0.Exp_, (IntKind.wrap .i64 ((((mget (fun a b : Int => a == b) s0.2 x0.Exp_).getD 0)) + 1)))])))) else none) else none)))))) else (some (.inr s0.2)))) big (0, ([] : List (Int × Int)))) fun (s1 : (List (Int × Int))) => (some s1))
theorem sym_apart_s0_ok {x0 : St22} {r : (List (Int × Int))} (h : sym_apart_s0 x0 = some r) : SC Tryz.prog 129 [.agg (encSt22 x0)] [] (.mp 0) [.map (mapL (fun k : Int => iM k) (fun k : Int => iL k) r)] := by
 refine kFn (fn := Tryz.f129) (fun F hFn hFH hFD => ?_)
 unfold sym_apart_s0 at h
 refine kSR ?_
 refine kC 2 [1] ?_
 refine kEN ?_
 refine kSR ?_
 refine kC 2 [1,3] ?_
 refine kEN ?_
 obtain ⟨s1, hy0, h6⟩ := bindS h
 refine K.cutN (by kernel_rfl) (fun (s1 : (List (Int × Int))) => ([(3, .mp 0)], [.map (mapL (fun k : Int => iM k) (fun k : Int => iL k) s1)])) s1 ?_ ?_
 ·refine kSR ?_
  refine kC 14 [3,19,20] ?_
  refine kEN ?_
  refine kb 0 ?_
  refine J.wk (Wk.sel (L2 := [(3, .mp 0), (19, .agg [iM x0.Dec_, iM x0.Group_, iM x0.Minus_, iM x0.Plus_, iM x0.Percent_, iM x0.Exp_]), (20, iL 0)]) (H2 := [.map (mapL (fun k : Int => iM k) (fun k : Int => iL k) ([] : List (Int × Int)))]) 0 (by rw [hFH]; rfl) hFD [1] (by kernel_rfl) (by simp only [List.map_cons, List.map_nil, rn_mapL (ek := (fun k : Int => iM k)) (ev := (fun k : Int => iL k)) (fun _ _ => rfl) (fun _ _ => rfl)]; kernel_rfl) (by decide) (by simp only [List.all_cons, List.all_nil, refs_mapL (ek := (fun k : Int => iM k)) (ev := (fun k : Int => iL k)) (fun _ _ => rfl) (fun _ _ => rfl)]; kernel_rfl) (by kernel_rfl) (by kernel_rfl) (by kernel_rfl)) ?_
  refine kl (fun (s0 : Int × (List (Int × Int))) => ([(3, .mp 0), (19, .agg [iM x0.Dec_, iM x0.Group_, iM x0.Minus_, iM x0.Plus_, iM x0.Percent_, iM x0.Exp_]), (20, iL s0.1)], [.map (mapL (fun k : Int => iM k) (fun k : Int => iL k) s0.2)])) hy0 [3, 19, 20] (fun s0 x110 hs0 => ?_)
  refine kSR ?_
  refine kC 1 [3,19,20,21] ?_
  refine kEN ?_
  refine kS ?_
  refine kBJ 21 hs0 (fun h0 => ?_) (fun h7 => ?_)
  ·refine kT ?_
   refine kK ?_
   refine PJ.next ?_
   refine kS ?_
   refine kb 1 ?_
   refine kSR ?_
   cases hb0 : (decide (s0.1 = 0))
   ·have h1 := condF hb0 h0
    cases hb1 : (decide (s0.1 = 1))
    ·have h2 := condF hb1 h1
     cases hb2 : (decide (s0.1 = 2))
     ·have h3 := condF hb2 h2
      cases hb3 : (decide (s0.1 = 3))
      ·have h4 := condF hb3 h3
       cases hb4 : (decide (s0.1 = 4))
       ·have h5 := condF hb4 h4
        cases hb5 : (decide (s0.1 = 5))
        ·have h8 := condF hb5 h5
         cases h8
        ·have h9 := condT hb5 h5
         refine RJ.pin 20 (kd := .i64) (by kernel_rfl) (of_decide_eq_true hb5) ?_
         refine kC 2 [3,5,19,20] ?_
         refine kEN ?_
         refine kR ?_
         refine kC 2 [3,19,20,23,24] ?_
         refine RJ.lookK (d := (some 25)) (i := 0) (ok := false) (tr2 := []) .i32 (fun k : Int => iL k) s0.2 x0.Exp_ (0 : Int) (by kernel_rfl) ?_
         refine kC 1 [3,19,20,23,24,26] ?_
         obtain ⟨hm, h10⟩ := asrt h9
         refine RJ.insK (d := none) (i := 0) (sv := iL ((IntKind.wrap .i64 ((((mget (fun a b : Int => a == b) s0.2 x0.Exp_).getD 0)) + 1)))) (tr2 := []) (H2 := [.map (mapL (fun k : Int => iM k) (fun k : Int => iL k) ((s0.2 ++ [(x0.Exp_, (IntKind.wrap .i64 ((((mget (fun a b : Int => a == b) s0.2 x0.Exp_).getD 0)) + 1)))])))]) .i32 (fun k : Int => iL k) s0.2 x0.Exp_ ((IntKind.wrap .i64 ((((mget (fun a b : Int => a == b) s0.2 x0.Exp_).getD 0)) + 1))) (by kernel_rfl) rfl hm (by kernel_rfl) ?_
         refine kE ?_
         refine PJ.blockNormal ?_
         refine PJ.next ?_
         refine kR ?_
         refine kC 2 [3,19,20] ?_
         refine kE ?_
         obtain rfl := oi h10
         exact kLN [3, 19, 20]
       ·have h11 := condT hb4 h4
        refine RJ.pin 20 (kd := .i64) (by kernel_rfl) (of_decide_eq_true hb4) ?_
        refine kC 2 [3,5,19,20] ?_
        refine kEN ?_
        refine kR ?_
        refine kC 2 [3,19,20,23,24] ?_
        refine RJ.lookK (d := (some 25)) (i := 0) (ok := false) (tr2 := []) .i32 (fun k : Int => iL k) s0.2 x0.Percent_ (0 : Int) (by kernel_rfl) ?_
        refine kC 1 [3,19,20,23,24,26] ?_
        obtain ⟨hm, h12⟩ := asrt h11
        refine RJ.insK (d := none) (i := 0) (sv := iL ((IntKind.wrap .i64 ((((mget (fun a b : Int => a == b) s0.2 x0.Percent_).getD 0)) + 1)))) (tr2 := []) (H2 := [.map (mapL (fun k : Int => iM k) (fun k : Int => iL k) ((s0.2 ++ [(x0.Percent_, (IntKind.wrap .i64 ((((mget (fun a b : Int => a == b) s0.2 x0.Percent_).getD 0)) + 1)))])))]) .i32 (fun k : Int => iL k) s0.2 x0.Percent_ ((IntKind.wrap .i64 ((((mget (fun a b : Int => a == b) s0.2 x0.Percent_).getD 0)) + 1))) (by kernel_rfl) rfl hm (by kernel_rfl) ?_
        refine kE ?_
        refine PJ.blockNormal ?_
        refine PJ.next ?_
        refine kR ?_
        refine kC 2 [3,19,20] ?_
        refine kE ?_
        obtain rfl := oi h12
        exact kLN [3, 19, 20]
      ·have h13 := condT hb3 h3
       refine RJ.pin 20 (kd := .i64) (by kernel_rfl) (of_decide_eq_true hb3) ?_
       refine kC 2 [3,5,19,20] ?_
       refine kEN ?_
       refine kR ?_
       refine kC 2 [3,19,20,23,24] ?_
       refine RJ.lookK (d := (some 25)) (i := 0) (ok := false) (tr2 := []) .i32 (fun k : Int => iL k) s0.2 x0.Plus_ (0 : Int) (by kernel_rfl) ?_
       refine kC 1 [3,19,20,23,24,26] ?_
       obtain ⟨hm, h14⟩ := asrt h13
       refine RJ.insK (d := none) (i := 0) (sv := iL ((IntKind.wrap .i64 ((((mget (fun a b : Int => a == b) s0.2 x0.Plus_).getD 0)) + 1)))) (tr2 := []) (H2 := [.map (mapL (fun k : Int => iM k) (fun k : Int => iL k) ((s0.2 ++ [(x0.Plus_, (IntKind.wrap .i64 ((((mget (fun a b : Int => a == b) s0.2 x0.Plus_).getD 0)) + 1)))])))]) .i32 (fun k : Int => iL k) s0.2 x0.Plus_ ((IntKind.wrap .i64 ((((mget (fun a b : Int => a == b) s0.2 x0.Plus_).getD 0)) + 1))) (by kernel_rfl) rfl hm (by kernel_rfl) ?_
       refine kE ?_
       refine PJ.blockNormal ?_
       refine PJ.next ?_
       refine kR ?_
       refine kC 2 [3,19,20] ?_
       refine kE ?_
       obtain rfl := oi h14
       exact kLN [3, 19, 20]
     ·have h15 := condT hb2 h2
      refine RJ.pin 20 (kd := .i64) (by kernel_rfl) (of_decide_eq_true hb2) ?_
      refine kC 2 [3,5,19,20] ?_
      refine kEN ?_
      refine kR ?_
      refine kC 2 [3,19,20,23,24] ?_
      refine RJ.lookK (d := (some 25)) (i := 0) (ok := false) (tr2 := []) .i32 (fun k : Int => iL k) s0.2 x0.Minus_ (0 : Int) (by kernel_rfl) ?_
      refine kC 1 [3,19,20,23,24,26] ?_
      obtain ⟨hm, h16⟩ := asrt h15
      refine RJ.insK (d := none) (i := 0) (sv := iL ((IntKind.wrap .i64 ((((mget (fun a b : Int => a == b) s0.2 x0.Minus_).getD 0)) + 1)))) (tr2 := []) (H2 := [.map (mapL (fun k : Int => iM k) (fun k : Int => iL k) ((s0.2 ++ [(x0.Minus_, (IntKind.wrap .i64 ((((mget (fun a b : Int => a == b) s0.2 x0.Minus_).getD 0)) + 1)))])))]) .i32 (fun k : Int => iL k) s0.2 x0.Minus_ ((IntKind.wrap .i64 ((((mget (fun a b : Int => a == b) s0.2 x0.Minus_).getD 0)) + 1))) (by kernel_rfl) rfl hm (by kernel_rfl) ?_
      refine kE ?_
      refine PJ.blockNormal ?_
      refine PJ.next ?_
      refine kR ?_
      refine kC 2 [3,19,20] ?_
      refine kE ?_
      obtain rfl := oi h16
      exact kLN [3, 19, 20]
    ·have h17 := condT hb1 h1
     refine RJ.pin 20 (kd := .i64) (by kernel_rfl) (of_decide_eq_true hb1) ?_
     refine kC 2 [3,5,19,20] ?_
     refine kEN ?_
     refine kR ?_
     refine kC 2 [3,19,20,23,24] ?_
     refine RJ.lookK (d := (some 25)) (i := 0) (ok := false) (tr2 := []) .i32 (fun k : Int => iL k) s0.2 x0.Group_ (0 : Int) (by kernel_rfl) ?_
     refine kC 1 [3,19,20,23,24,26] ?_
     obtain ⟨hm, h18⟩ := asrt h17
     refine RJ.insK (d := none) (i := 0) (sv := iL ((IntKind.wrap .i64 ((((mget (fun a b : Int => a == b) s0.2 x0.Group_).getD 0)) + 1)))) (tr2 := []) (H2 := [.map (mapL (fun k : Int => iM k) (fun k : Int => iL k) ((s0.2 ++ [(x0.Group_, (IntKind.wrap .i64 ((((mget (fun a b : Int => a == b) s0.2 x0.Group_).getD 0)) + 1)))])))]) .i32 (fun k : Int => iL k) s0.2 x0.Group_ ((IntKind.wrap .i64 ((((mget (fun a b : Int => a == b) s0.2 x0.Group_).getD 0)) + 1))) (by kernel_rfl) rfl hm (by kernel_rfl) ?_
     refine kE ?_
     refine PJ.blockNormal ?_
     refine PJ.next ?_
     refine kR ?_
     refine kC 2 [3,19,20] ?_
     refine kE ?_
     obtain rfl := oi h18
     exact kLN [3, 19, 20]
   ·have h19 := condT hb0 h0
    refine RJ.pin 20 (kd := .i64) (by kernel_rfl) (of_decide_eq_true hb0) ?_
    refine kC 2 [3,5,19,20] ?_
    refine kEN ?_
    refine kR ?_
    refine kC 2 [3,19,20,23,24] ?_
    refine RJ.lookK (d := (some 25)) (i := 0) (ok := false) (tr2 := []) .i32 (fun k : Int => iL k) s0.2 x0.Dec_ (0 : Int) (by kernel_rfl) ?_
    refine kC 1 [3,19,20,23,24,26] ?_
    obtain ⟨hm, h20⟩ := asrt h19
    refine RJ.insK (d := none) (i := 0) (sv := iL ((IntKind.wrap .i64 ((((mget (fun a b : Int => a == b) s0.2 x0.Dec_).getD 0)) + 1)))) (tr2 := []) (H2 := [.map (mapL (fun k : Int => iM k) (fun k : Int => iL k) ((s0.2 ++ [(x0.Dec_, (IntKind.wrap .i64 ((((mget (fun a b : Int => a == b) s0.2 x0.Dec_).getD 0)) + 1)))])))]) .i32 (fun k : Int => iL k) s0.2 x0.Dec_ ((IntKind.wrap .i64 ((((mget (fun a b : Int => a == b) s0.2 x0.Dec_).getD 0)) + 1))) (by kernel_rfl) rfl hm (by kernel_rfl) ?_
    refine kE ?_
    refine PJ.blockNormal ?_
    refine PJ.next ?_
    refine kR ?_
    refine kC 2 [3,19,20] ?_
    refine kE ?_
    obtain rfl := oi h20
    exact kLN [3, 19, 20]
  ·refine kF ?_
   refine K.exit 0 (by kernel_rfl) ?_
   refine PJ.passExit ?_
   obtain rfl := oi h7
   refine PJ.loopOut (fun e => nomatch e) (fun he0 => ?_)
   have h21 := congrArg some he0
   refine PJ.blockOut ?_
   obtain rfl := oi h21
   exact kN [3]
 ·refine kSR ?_
  refine kC 2 [2] ?_
  refine kEN ?_
  refine kX ?_
  obtain rfl := oi h6
  exact K.retV (H0 := []) [0] (.inr rfl) hFn hFH hFD (by kernel_rfl) (v1 := .mp 0) (by kernel_rfl) (by kernel_rfl) (by simp only [List.map_cons, List.map_nil, rn_mapL (ek := (fun k : Int => iM k)) (ev := (fun k : Int => iL k)) (fun _ _ => rfl) (fun _ _ => rfl)]; kernel_rfl) (by decide) (by simp only [List.all_cons, List.all_nil, refs_mapL (ek := (fun k : Int => iM k)) (ev := (fun k : Int => iL k)) (fun _ _ => rfl) (fun _ _ => rfl)]; kernel_rfl) (by kernel_rfl) (by kernel_rfl) (by kernel_rfl) (by kernel_rfl)
noncomputable def class_OfM (x0 : Int) : Option (Int) :=
 (Option.bind class_ranges_s0 fun y1 => anyOrd (fun (ms4 : List (St196 × Int)) => (Option.bind (class_table__class_s0 x0 ms4) fun y0 => (some y0.1))) y1)
theorem class_OfM_ok {x0 : Int} {r : Int} (h : class_OfM x0 = some r) : SC Tryz.prog 83 [iM x0] [] (iL r) [] := by
 refine kFn (fn := Tryz.f83) (fun F hFn hFH hFD => ?_)
 unfold class_OfM at h
 refine kSR ?_
 refine kC 1 [0,2] ?_
 refine kEN ?_
 refine kSR ?_
 obtain ⟨y1, hy0, h0⟩ := bindS h
 refine RJ.callG (d := (some 3)) (f := 121) (args := []) (args0 := []) (v0 := .mp 0) (v := .mp 0) (tr2 := []) (H0 := []) (H0' := [.pmap (mapL (fun k : St196 => .agg (encSt196 k)) (fun k : Int => iL k) y1)]) (H2 := [.pmap (mapL (fun k : St196 => .agg (encSt196 k)) (fun k : Int => iL k) y1)]) [] (by kernel_rfl) (by kernel_rfl) (by kernel_rfl) (by kernel_rfl) (by decide) (by kernel_rfl) (by kernel_rfl) (by kernel_rfl) .nil (class_ranges_s0_ok hy0) (by kernel_rfl) (by kernel_rfl) ((show frameH (selF []) 0 _ [.pmap (mapL (fun k : St196 => .agg (encSt196 k)) (fun k : Int => iL k) y1)] = [Ent.rn (gOf (selF []) 0 0) (.pmap (mapL (fun k : St196 => .agg (encSt196 k)) (fun k : Int => iL k) y1))] by kernel_rfl).trans (by simp only [rn_pmapL (ek := (fun k : St196 => .agg (encSt196 k))) (ev := (fun k : Int => iL k)) (fun _ _ => rfl) (fun _ _ => rfl)])) ?_
 refine RJ.openMap (ek := (fun k : St196 => .agg (encSt196 k))) (ev := (fun k : Int => iL k)) y1 0 (fun ms4 => [.map (mapL (fun k : St196 => .agg (encSt196 k)) (fun k : Int => iL k) ms4)]) (by kernel_rfl) (fun _ => by kernel_rfl) (fun ms4 hp5 => ?_)
 have h1 := anyOrd_all h0 ms4 hp5
 refine kC 1 [2,3,4] ?_
 obtain ⟨y0, hy1, h2⟩ := bindS h1
 refine RJ.callG (d := (some 5)) (f := 122) (args := [.mp 0, iM x0]) (args0 := [.mp 0, iM x0]) (v0 := iL y0.1) (v := iL y0.1) (tr2 := []) (H0 := [.map (mapL (fun k : St196 => .agg (encSt196 k)) (fun k : Int => iL k) ms4)]) (H0' := [.map (mapL (fun k : St196 => .agg (encSt196 k)) (fun k : Int => iL k) y0.2)]) (H2 := [.map (mapL (fun k : St196 => .agg (encSt196 k)) (fun k : Int => iL k) y0.2)]) [0] (by kernel_rfl) (by kernel_rfl) (by kernel_rfl) (by simp only [List.map_cons, List.map_nil, rn_mapL (ek := (fun k : St196 => .agg (encSt196 k))) (ev := (fun k : Int => iL k)) (fun _ _ => rfl) (fun _ _ => rfl)]; kernel_rfl) (by decide) (by simp only [List.all_cons, List.all_nil, refs_mapL (ek := (fun k : St196 => .agg (encSt196 k))) (ev := (fun k : Int => iL k)) (fun _ _ => rfl) (fun _ _ => rfl)]; kernel_rfl) (by kernel_rfl) (by kernel_rfl) (.cons (Le.refl _) (.cons (Le.refl _) .nil)) (class_table__class_s0_ok hy1) (by kernel_rfl) (by kernel_rfl) ((show frameH (selF [0]) 1 _ [.map (mapL (fun k : St196 => .agg (encSt196 k)) (fun k : Int => iL k) y0.2)] = [Ent.rn (gOf (selF [0]) 1 1) (.map (mapL (fun k : St196 => .agg (encSt196 k)) (fun k : Int => iL k) y0.2))] by kernel_rfl).trans (by simp only [rn_mapL (ek := (fun k : St196 => .agg (encSt196 k))) (ev := (fun k : Int => iL k)) (fun _ _ => rfl) (fun _ _ => rfl)])) ?_
 refine kC 1 [2] ?_
 refine kEN ?_
 refine kX ?_
 obtain rfl := oi h2
 exact kZ hFn hFH hFD
def class_Of (x0 : Int) : Option (Int) :=
 (Option.bind class_ranges_s0 fun y0 => (fun (ms4 : List (St196 × Int)) => (Option.bind (class_table__class_s0 x0 ms4) fun y1 => (some y1.1))) y0)
theorem class_Of_ok {x0 : Int} {r : Int} (h : class_Of x0 = some r) : SC Tryz.prog 83 [iM x0] [] (iL r) [] := class_OfM_ok (by
 unfold class_Of at h; unfold class_OfM
 obtain ⟨y, hy, h⟩ := bindS h
 rw [hy]; simp only [Option.bind_some]
 obtain ⟨y2, e0, h⟩ := bindS h
 exact anyOrd_of fun ms hp => by
  show Option.bind (class_table__class_s0 x0 ms) _ = _
  rw [(tableP hp e0).1]; exact h
 )
def sym_Good (x0 : St22) : Option (Bool) :=
 (Option.bind (class_Zero x0.Zero_) fun y1 => (bif (!y1) then none else (Option.bind (Option.bind (sym_apart_s0 x0) fun y0 => (Option.bind (mapRun (fun (e55 : Int × Int) => (Option.bind (class_Of e55.1) fun y2 => (Option.bind (bif (decide (e55.2 > 1)) then none else (bif (decide (¬ y2 = 0)) then none else (some ()))) fun (s0 : Unit) => (some (.inl ()))))) y0) (joinX fun (_ : Unit) => (some ())))) fun (s1 : Unit) => (some true))))
theorem sym_Good_ok {x0 : St22} {r : Bool} (h : sym_Good x0 = some r) : SC Tryz.prog 99 [.agg (encSt22 x0)] [] (.bool r) [] := by
 refine kFn (fn := Tryz.f99) (fun F hFn hFH hFD => ?_)
 unfold sym_Good at h
 refine kSR ?_
 refine kC 2 [1,2] ?_
 refine kEN ?_
 refine kS ?_
 refine kSR ?_
 refine kC 2 [1,2,7] ?_
 obtain ⟨y1, hy0, h0⟩ := bindS h
 refine kA 8 (class_Zero_ok hy0) ?_
 refine kC 1 [1,2,9] ?_
 refine kEN ?_
 refine cT 9 h0 (fun h1 => ?_)
 refine kF ?_
 refine kK ?_
 refine PJ.next ?_
 obtain ⟨s1, hy1, h2⟩ := bindS h1
 refine K.cutN (by kernel_rfl) (fun (s1 : Unit) => ([(2, .bool false)], [])) s1 ?_ ?_
 ·refine kSR ?_
  refine kC 1 [2,10] ?_
  obtain ⟨y0, hy2, h3⟩ := bindS hy1
  refine RJ.callG (d := (some 11)) (f := 129) (args := [.agg (encSt22 x0)]) (args0 := [.agg (encSt22 x0)]) (v0 := .mp 0) (v := .mp 1) (tr2 := []) (H0 := []) (H0' := [.map (mapL (fun k : Int => iM k) (fun k : Int => iL k) y0)]) (H2 := [.box (encSt22 x0), .map (mapL (fun k : Int => iM k) (fun k : Int => iL k) y0)]) [] (by kernel_rfl) (by kernel_rfl) (by kernel_rfl) (by kernel_rfl) (by decide) (by kernel_rfl) (by kernel_rfl) (by kernel_rfl) (.cons (Le.refl _) .nil) (sym_apart_s0_ok hy2) (by kernel_rfl) (by kernel_rfl) ((show frameH (selF []) 0 _ [.map (mapL (fun k : Int => iM k) (fun k : Int => iL k) y0)] = [.box (encSt22 x0), Ent.rn (gOf (selF []) 0 1) (.map (mapL (fun k : Int => iM k) (fun k : Int => iL k) y0))] by kernel_rfl).trans (by simp only [rn_mapL (ek := (fun k : Int => iM k)) (ev := (fun k : Int => iL k)) (fun _ _ => rfl) (fun _ _ => rfl)])) ?_
  refine RJ.range (d := (some 12)) (i := 1) (n := (mapL (fun k : Int => iM k) (fun k : Int => iL k) y0).length) (by kernel_rfl) ?_
  refine kEN ?_
  refine kb 0 ?_
  refine J.wk (Wk.sel (L2 := [(2, .bool false), (12, .ptr 0 0)]) (H2 := [.itr 1 ((mapL (fun k : Int => iM k) (fun k : Int => iL k) y0).length) ([] : List Nat), .map (mapL (fun k : Int => iM k) (fun k : Int => iL k) y0)]) 0 (by rw [hFH]; rfl) hFD [2, 1] (by kernel_rfl) (by simp only [List.map_cons, List.map_nil, rn_mapL (ek := (fun k : Int => iM k)) (ev := (fun k : Int => iL k)) (fun _ _ => rfl) (fun _ _ => rfl)]; kernel_rfl) (by decide) (by simp only [List.all_cons, List.all_nil, refs_mapL (ek := (fun k : Int => iM k)) (ev := (fun k : Int => iL k)) (fun _ _ => rfl) (fun _ _ => rfl)]; kernel_rfl) (by kernel_rfl) (by kernel_rfl) (by kernel_rfl)) ?_
  obtain ⟨y3, hy3, h4⟩ := bindS h3
  refine K.mapLoop 12 13 14 0 0 1 (n := (mapL (fun k : Int => iM k) (fun k : Int => iL k) y0).length) (by kernel_rfl) (by kernel_rfl) _ _ (fun p : Int × Int => ((fun k : Int => iM k) p.1, (fun k : Int => iL k) p.2)) hy3 [2, 12] (L2 := [(2, .bool false), (12, .ptr 0 0)]) (by kernel_rfl) (by kernel_rfl) (by kernel_rfl) (by kernel_rfl) (by kernel_rfl) (by kernel_rfl) (fun sq => [.itr 1 ((mapL (fun k : Int => iM k) (fun k : Int => iL k) y0).length) sq, .map (mapL (fun k : Int => iM k) (fun k : Int => iL k) y0)]) (by kernel_rfl) (fun _ _ => by kernel_rfl) (fun _ => by kernel_rfl) (fun _ => by kernel_rfl) rfl (fun sv56 he0 => ?_) (fun sv56 bv57 e55 x79 hb0 hx52 => ?_)
  ·subst he0
   have h5 := joinX_inl h4
   refine PJ.blockOut ?_
   obtain rfl := oi h5
   refine kW (L2 := [(2, .bool false)]) (H2 := []) hFH hFD [] ?_
   exact kN [2]
  ·refine kb 1 ?_
   refine kSR ?_
   refine RJ.entry (d := (some 15)) (i := 1) (n := (mapL (fun k : Int => iM k) (fun k : Int => iL k) y0).length) (b := bv57) (s := sv56) (kv := ((iM e55.1 : SV), (iL e55.2 : SV))) (by kernel_rfl) (by kernel_rfl) rfl hb0 ?_
   refine kC 4 [2,3,4,12] ?_
   refine kEN ?_
   refine kSR ?_
   refine kC 1 [2,4,12,18] ?_
   obtain ⟨y2, hy4, h6⟩ := bindS hx52
   refine kA 19 (class_Of_ok hy4) ?_
   refine kC 1 [2,4,5,12] ?_
   refine kEN ?_
   obtain ⟨s0, hy5, h7⟩ := bindS h6
   refine K.cutN (by kernel_rfl) (fun (s0 : Unit) => ([(2, .bool false), (12, .ptr 0 0), (29, .bool false)], [.itr 1 ((mapL (fun k : Int => iM k) (fun k : Int => iL k) y0).length) (sv56 ++ [bv57]), .map (mapL (fun k : Int => iM k) (fun k : Int => iL k) y0)])) s0 ?_ ?_
   ·refine kR ?_
    refine kC 3 [2,5,12,22] ?_
    refine cTR 22 hy5 (fun h8 => ?_)
    refine kC 3 [2,5,12,22,25] ?_
    refine cTR 25 h8 (fun h9 => ?_)
    refine kC 4 [2,12,29] ?_
    refine kE ?_
    obtain rfl := oi h9
    exact kN [2, 12, 29]
   ·refine kF ?_
    refine kK ?_
    refine PJ.blockNormal ?_
    obtain rfl := oi h7
    exact PJ.mapNext [2, 12] (by kernel_rfl) (by kernel_rfl)
 ·refine kSR ?_
  refine kC 1 [2] ?_
  refine kEN ?_
  refine kX ?_
  obtain rfl := oi h2
  exact kZ hFn hFH hFD
def loc_checker__signs (x0 : St93) : Option (Int × Bool) :=
 (Option.bind (sym_Good x0.Locale_.S_) fun y0 => (some (0, y0)))
theorem loc_checker__signs_ok {x0 : St93} {r : Int × Bool} (h : loc_checker__signs x0 = some r) : SC Tryz.prog 53 [.agg (encSt93 x0)] [] (.tup [iL r.1, .bool r.2]) [] := by
 refine kFn (fn := Tryz.f53) (fun F hFn hFH hFD => ?_)
 unfold loc_checker__signs at h
 refine kSR ?_
 refine kC 3 [1,2,3] ?_
 refine kEN ?_
 refine kSR ?_
 refine kC 3 [2,3,6] ?_
 obtain ⟨y0, hy0, h0⟩ := bindS h
 refine kA 7 (sym_Good_ok hy0) ?_
 refine kC 2 [2,3] ?_
 refine kEN ?_
 refine kX ?_
 obtain rfl := oi h0
 exact kZ hFn hFH hFD
def loc_checker__patterns (x0 : St93) : Option (Int × Bool) :=
 (Option.bind (loopN (fun (s0 : Int) => (bif (decide (s0 < 4)) then (bif (decide (s0 = 0)) then (Option.bind (loc_Pattern x0.Locale_.S_ 0 x0.Locale_.Pats_.a0_) fun y0 => (bif (!y0.2) then none else (some (.inl (IntKind.wrap .i64 (0 + 1)))))) else (bif (decide (s0 = 1)) then (Option.bind (loc_Pattern x0.Locale_.S_ 1 x0.Locale_.Pats_.a1_) fun y1 => (bif (!y1.2) then none else (some (.inl (IntKind.wrap .i64 (1 + 1)))))) else (bif (decide (s0 = 2)) then (Option.bind (loc_Pattern x0.Locale_.S_ 2 x0.Locale_.Pats_.a2_) fun y2 => (bif (!y2.2) then none else (some (.inl (IntKind.wrap .i64 (2 + 1)))))) else (bif (decide (s0 = 3)) then (Option.bind (loc_Pattern x0.Locale_.S_ 3 x0.Locale_.Pats_.a3_) fun y3 => (bif (!y3.2) then none else (some (.inl (IntKind.wrap .i64 (3 + 1)))))) else none)))) else (some (.inr ())))) big 0) fun (s1 : Unit) => (some (0, true)))
theorem loc_checker__patterns_ok {x0 : St93} {r : Int × Bool} (h : loc_checker__patterns x0 = some r) : SC Tryz.prog 54 [.agg (encSt93 x0)] [] (.tup [iL r.1, .bool r.2]) [] := by
 refine kFn (fn := Tryz.f54) (fun F hFn hFH hFD => ?_)
 unfold loc_checker__patterns at h
 refine kSR ?_
 refine kC 3 [1,2,3] ?_
 refine kEN ?_
 obtain ⟨s1, hy0, h4⟩ := bindS h
 refine K.cutN (by kernel_rfl) (fun (s1 : Unit) => ([(2, iL 0), (3, .bool false)], [])) s1 ?_ ?_
 ·refine kSR ?_
  refine kC 4 [1,2,3,10,11] ?_
  refine kEN ?_
  refine kb 0 ?_
  refine kl (fun (s0 : Int) => ([(1, .ptr 0 0), (2, iL 0), (3, .bool false), (10, .agg (encSt42 x0.Locale_.Pats_)), (11, iL s0)], [.box (encSt93 x0)])) hy0 [1, 2, 3, 10, 11] (fun s0 x156 hs0 => ?_)
  refine kSR ?_
  refine kC 1 [1,2,3,10,11,12] ?_
  refine kEN ?_
  refine kS ?_
  refine kBJ 12 hs0 (fun h0 => ?_) (fun h5 => ?_)
  ·refine kT ?_
   refine kK ?_
   refine PJ.next ?_
   refine kS ?_
   refine kb 1 ?_
   refine kSR ?_
   refine kC 1 [1,2,3,10,11,13] ?_
   cases hb0 : (decide (s0 = 0))
   ·have h1 := condF hb0 h0
    cases hb1 : (decide (s0 = 1))
    ·have h2 := condF hb1 h1
     cases hb2 : (decide (s0 = 2))
     ·have h3 := condF hb2 h2
      cases hb3 : (decide (s0 = 3))
      ·have h6 := condF hb3 h3
       cases h6
      ·have h7 := condT hb3 h3
       refine RJ.pin 11 (kd := .i64) (by kernel_rfl) (of_decide_eq_true hb3) ?_
       refine RJ.pin 13 (kd := .i64) (by kernel_rfl) (of_decide_eq_true hb3) ?_
       refine kC 3 [1,2,3,4,5,10,11] ?_
       refine kEN ?_
       refine kSR ?_
       refine kC 5 [1,2,3,4,10,11,18,19,20] ?_
       obtain ⟨y3, hy1, h8⟩ := bindS h7
       refine kA 21 (loc_Pattern_ok hy1) ?_
       refine kC 6 [1,2,3,4,7,10,11] ?_
       refine kEN ?_
       refine kSR ?_
       refine kC 2 [1,2,3,4,10,11,25] ?_
       refine kEN ?_
       refine cT 25 h8 (fun h9 => ?_)
       refine kF ?_
       refine kK ?_
       refine PJ.blockNormal ?_
       refine PJ.next ?_
       refine kR ?_
       refine kC 2 [1,2,3,10,11] ?_
       refine kE ?_
       obtain rfl := oi h9
       refine kW (L2 := [(1, .ptr 0 0), (2, iL 0), (3, .bool false), (10, .agg (encSt42 x0.Locale_.Pats_)), (11, iL (IntKind.wrap .i64 (3 + 1)))]) (H2 := [.box (encSt93 x0)]) hFH hFD [0] ?_
       exact kLN [1, 2, 3, 10, 11]
     ·have h10 := condT hb2 h2
      refine RJ.pin 11 (kd := .i64) (by kernel_rfl) (of_decide_eq_true hb2) ?_
      refine RJ.pin 13 (kd := .i64) (by kernel_rfl) (of_decide_eq_true hb2) ?_
      refine kC 3 [1,2,3,4,5,10,11] ?_
      refine kEN ?_
      refine kSR ?_
      refine kC 5 [1,2,3,4,10,11,18,19,20] ?_
      obtain ⟨y2, hy2, h11⟩ := bindS h10
      refine kA 21 (loc_Pattern_ok hy2) ?_
      refine kC 6 [1,2,3,4,7,10,11] ?_
      refine kEN ?_
      refine kSR ?_
      refine kC 2 [1,2,3,4,10,11,25] ?_
      refine kEN ?_
      refine cT 25 h11 (fun h12 => ?_)
      refine kF ?_
      refine kK ?_
      refine PJ.blockNormal ?_
      refine PJ.next ?_
      refine kR ?_
      refine kC 2 [1,2,3,10,11] ?_
      refine kE ?_
      obtain rfl := oi h12
      refine kW (L2 := [(1, .ptr 0 0), (2, iL 0), (3, .bool false), (10, .agg (encSt42 x0.Locale_.Pats_)), (11, iL (IntKind.wrap .i64 (2 + 1)))]) (H2 := [.box (encSt93 x0)]) hFH hFD [0] ?_
      exact kLN [1, 2, 3, 10, 11]
    ·have h13 := condT hb1 h1
     refine RJ.pin 11 (kd := .i64) (by kernel_rfl) (of_decide_eq_true hb1) ?_
     refine RJ.pin 13 (kd := .i64) (by kernel_rfl) (of_decide_eq_true hb1) ?_
     refine kC 3 [1,2,3,4,5,10,11] ?_
     refine kEN ?_
     refine kSR ?_
     refine kC 5 [1,2,3,4,10,11,18,19,20] ?_
     obtain ⟨y1, hy3, h14⟩ := bindS h13
     refine kA 21 (loc_Pattern_ok hy3) ?_
     refine kC 6 [1,2,3,4,7,10,11] ?_
     refine kEN ?_
     refine kSR ?_
     refine kC 2 [1,2,3,4,10,11,25] ?_
     refine kEN ?_
     refine cT 25 h14 (fun h15 => ?_)
     refine kF ?_
     refine kK ?_
     refine PJ.blockNormal ?_
     refine PJ.next ?_
     refine kR ?_
     refine kC 2 [1,2,3,10,11] ?_
     refine kE ?_
     obtain rfl := oi h15
     refine kW (L2 := [(1, .ptr 0 0), (2, iL 0), (3, .bool false), (10, .agg (encSt42 x0.Locale_.Pats_)), (11, iL (IntKind.wrap .i64 (1 + 1)))]) (H2 := [.box (encSt93 x0)]) hFH hFD [0] ?_
     exact kLN [1, 2, 3, 10, 11]
   ·have h16 := condT hb0 h0
    refine RJ.pin 11 (kd := .i64) (by kernel_rfl) (of_decide_eq_true hb0) ?_
    refine RJ.pin 13 (kd := .i64) (by kernel_rfl) (of_decide_eq_true hb0) ?_
    refine kC 3 [1,2,3,4,5,10,11] ?_
    refine kEN ?_
    refine kSR ?_
    refine kC 5 [1,2,3,4,10,11,18,19,20] ?_
    obtain ⟨y0, hy4, h17⟩ := bindS h16
    refine kA 21 (loc_Pattern_ok hy4) ?_
    refine kC 6 [1,2,3,4,7,10,11] ?_
    refine kEN ?_
    refine kSR ?_
    refine kC 2 [1,2,3,4,10,11,25] ?_
    refine kEN ?_
    refine cT 25 h17 (fun h18 => ?_)
    refine kF ?_
    refine kK ?_
    refine PJ.blockNormal ?_
    refine PJ.next ?_
    refine kR ?_
    refine kC 2 [1,2,3,10,11] ?_
    refine kE ?_
    obtain rfl := oi h18
    refine kW (L2 := [(1, .ptr 0 0), (2, iL 0), (3, .bool false), (10, .agg (encSt42 x0.Locale_.Pats_)), (11, iL (IntKind.wrap .i64 (0 + 1)))]) (H2 := [.box (encSt93 x0)]) hFH hFD [0] ?_
    exact kLN [1, 2, 3, 10, 11]
  ·refine kF ?_
   refine K.exit 0 (by kernel_rfl) ?_
   refine PJ.passExit ?_
   obtain rfl := oi h5
   refine PJ.loopOut (fun e => nomatch e) (fun he0 => ?_)
   have h19 := congrArg some he0
   refine PJ.blockOut ?_
   obtain rfl := oi h19
   refine kW (L2 := [(2, iL 0), (3, .bool false)]) (H2 := []) hFH hFD [] ?_
   exact kN [2, 3]
 ·refine kSR ?_
  refine kC 2 [2,3] ?_
  refine kEN ?_
  refine kX ?_
  obtain rfl := oi h4
  exact kZ hFn hFH hFD
structure St185 where
 a0_ : Int
 a1_ : Int
 deriving Inhabited, DecidableEq
def encSt185 (x : St185) : List SV := [.int .i64 x.a0_, .int .i64 x.a1_]
theorem encSt185_len (x : St185) : (encSt185 x).length = 2 := rfl
structure St150 where
 Op_ : Int
 Mod_ : Int
 Not_ : Bool
 R_ : List St185
 deriving Inhabited, DecidableEq
def encSt150 (x : St150) : List SV := [.int .u8 x.Op_, .int .i64 x.Mod_, .bool x.Not_, lsv encSt185 2 x.R_]
theorem encSt150_len (x : St150) : (encSt150 x).length = 4 := rfl
structure St103 where
 Cat_ : Int
 C_ : List (List St150)
 deriving Inhabited, DecidableEq
def encSt103 (x : St103) : List SV := [.int .i64 x.Cat_, lsv (encL encSt150 4) 1 x.C_]
theorem encSt103_len (x : St103) : (encSt103 x).length = 2 := rfl
structure St134 where
 a0_ : List UInt8
 a1_ : List UInt8
 a2_ : List UInt8
 a3_ : List UInt8
 a4_ : List UInt8
 a5_ : List UInt8
 deriving Inhabited, DecidableEq
def encSt134 (x : St134) : List SV := [.str x.a0_, .str x.a1_, .str x.a2_, .str x.a3_, .str x.a4_, .str x.a5_]
theorem encSt134_len (x : St134) : (encSt134 x).length = 6 := rfl
def plur_names  : Option (St134) :=
 (some (⟨([111, 116, 104, 101, 114] : List UInt8), ([122, 101, 114, 111] : List UInt8), ([111, 110, 101] : List UInt8), ([116, 119, 111] : List UInt8), ([102, 101, 119] : List UInt8), ([109, 97, 110, 121] : List UInt8)⟩ : St134))
theorem plur_names_ok  {r : St134} (h : plur_names = some r) : SC Tryz.prog 90 [] [] (.agg (encSt134 r)) [] := by
 refine kFn (fn := Tryz.f90) (fun F hFn hFH hFD => ?_)
 unfold plur_names at h
 refine kSR ?_
 refine kC 1 [0] ?_
 refine kEN ?_
 refine kSR ?_
 refine kC 2 [0] ?_
 refine kEN ?_
 refine kX ?_
 obtain rfl := oi h
 exact kZ hFn hFH hFD
def plur_rises (x0 : Int) (x1 : Int) : Option (Bool) :=
 (Option.bind (bif (decide (x1 > x0)) then (Option.bind plur_names fun y0 => (some ())) else none) fun (s0 : Unit) => (some (decide (x1 < 6))))
theorem plur_rises_ok {x0 : Int} {x1 : Int} {r : Bool} (h : plur_rises x0 x1 = some r) : SC Tryz.prog 130 [iL x0, iL x1] [] (.bool r) [] := by
 refine kFn (fn := Tryz.f130) (fun F hFn hFH hFD => ?_)
 unfold plur_rises at h
 refine kSR ?_
 refine kC 1 [0,1,4] ?_
 refine kEN ?_
 obtain ⟨s0, hy0, h0⟩ := bindS h
 refine K.cutN (by kernel_rfl) (fun (s0 : Unit) => ([(4, .bool (decide (x1 < 6)))], [])) s0 ?_ ?_
 ·refine kR ?_
  refine kC 4 [1,4,8] ?_
  refine cFR 8 hy0 (fun h1 => ?_)
  refine kC 1 [4,8,9] ?_
  obtain ⟨y0, hy1, h2⟩ := bindS h1
  refine kA 10 (plur_names_ok hy1) ?_
  refine kC 4 [4] ?_
  refine kE ?_
  obtain rfl := oi h2
  exact kN [4]
 ·refine kX ?_
  obtain rfl := oi h0
  exact kZ hFn hFH hFD
def rule_reader__word_1 (x0 : Int) : Option (Bool) :=
 (Option.bind (bif (decide (97 ≤ x0)) then (bif (decide (x0 ≤ 122)) then (some true) else (bif (decide (65 ≤ x0)) then none else (some false))) else (bif (decide (65 ≤ x0)) then none else (some false))) fun (s0 : Bool) => (some s0))
theorem rule_reader__word_1_ok {x0 : Int} {r : Bool} (h : rule_reader__word_1 x0 = some r) : SC Tryz.prog 197 [.int .u8 x0] [] (.bool r) [] := by
 refine kFn (fn := Tryz.f197) (fun F hFn hFH hFD => ?_)
 unfold rule_reader__word_1 at h
 refine kSR ?_
 refine kC 1 [0,2] ?_
 refine kEN ?_
 obtain ⟨s0, hy0, h0⟩ := bindS h
 refine K.cutN (by kernel_rfl) (fun (s0 : Bool) => ([(2, .bool s0)], [])) s0 ?_ ?_
 ·refine kR ?_
  refine kC 3 [0,2,5] ?_
  refine kB 5 hy0 (fun h1 => ?_) (fun h2 => ?_)
  ·refine kC 4 [0,2,9] ?_
   refine kB 9 h1 (fun h3 => ?_) (fun h4 => ?_)
   ·refine kC 8 [2] ?_
    refine kE ?_
    obtain rfl := oi h3
    exact kN [2]
   ·refine kC 3 [0,2,9,12] ?_
    refine cTR 12 h4 (fun h5 => ?_)
    refine kC 5 [2] ?_
    refine kE ?_
    obtain rfl := oi h5
    exact kN [2]
  ·refine kC 7 [0,2,9,12] ?_
   refine cTR 12 h2 (fun h6 => ?_)
   refine kC 5 [2] ?_
   refine kE ?_
   obtain rfl := oi h6
   exact kN [2]
 ·refine kX ?_
  obtain rfl := oi h0
  exact kZ hFn hFH hFD
def rule_reader__run_s0 (x0 : List UInt8) (x1 : Int) : Option ((List UInt8) × Int) :=
 (Option.bind (loopN (fun (s1 : Int) => (Option.bind (Option.bind (bif (decide (s1 < (x0.length : Int))) then (bif inR s1 x0.length then (some ((decide (((((x0.getD (s1 : Int).toNat 0).toNat : Nat) : Int)) = 32)))) else none) else (some false)) fun (s4 : Bool) => (bif s4 then (some (.inl ())) else (some (.inr (.inr s1))))) (joinX fun (s6 : Unit) => (some (.inl (IntKind.wrap .i64 (s1 + 1))))))) big x1) fun (s0 : Int) => (Option.bind (loopN (fun (s2 : Int) => (Option.bind (Option.bind (bif (decide (s2 < (x0.length : Int))) then (bif inR s2 x0.length then (Option.bind (rule_reader__word_1 ((((x0.getD (s2 : Int).toNat 0).toNat : Nat) : Int))) fun y0 => (some y0)) else none) else (some false)) fun (s5 : Bool) => (bif s5 then (some (.inl ())) else (some (.inr (.inr s2))))) (joinX fun (s7 : Unit) => (some (.inl (IntKind.wrap .i64 (s2 + 1))))))) big s0) fun (s3 : Int) => (bif inS s0 s3 x0.length then (some ((cut x0 s0 s3), s0)) else none)))
theorem rule_reader__run_s0_ok {x0 : List UInt8} {x1 : Int} {r : (List UInt8) × Int} (h : rule_reader__run_s0 x0 x1 = some r) : SC Tryz.prog 196 [.ptr 0 0, .fn (.func 197) [] []] [.box [.str x0, iL x1]] (.str r.1) [.box [.str x0, iL r.2]] := by
 refine kFn (fn := Tryz.f196) (fun F hFn hFH hFD => ?_)
 unfold rule_reader__run_s0 at h
 refine kSR ?_
 refine kC 1 [0,1,4] ?_
 refine kEN ?_
 obtain ⟨s0, hy0, h2⟩ := bindS h
 refine K.cutN (by kernel_rfl) (fun (s0 : Int) => ([(0, .ptr 0 0), (1, .fn (.func 197) [] []), (4, .str ([] : List UInt8))], [.box [.str x0, iL s0]])) s0 ?_ ?_
 ·refine kb 0 ?_
  refine kl (fun (s1 : Int) => ([(0, .ptr 0 0), (1, .fn (.func 197) [] []), (4, .str ([] : List UInt8))], [.box [.str x0, iL s1]])) hy0 [0, 1, 4] (fun s1 x226 hs0 => ?_)
  obtain ⟨y1, hy1, h0⟩ := bindS hs0
  refine K.cutX (by kernel_rfl) (fun (s6 : Unit) => ([(0, .ptr 0 0), (1, .fn (.func 197) [] []), (4, .str ([] : List UInt8))], [.box [.str x0, iL s1]])) y1 ?_ (fun s6 hs => ?_)
  ·obtain ⟨s4, hy2, h3⟩ := bindS hy1
   refine K.cutN (by kernel_rfl) (fun (s4 : Bool) => ([(0, .ptr 0 0), (1, .fn (.func 197) [] []), (4, .str ([] : List UInt8)), (27, .bool s4)], [.box [.str x0, iL s1]])) s4 ?_ ?_
   ·refine J.keep [0, 1, 4] (L2 := [(0, .ptr 0 0), (1, .fn (.func 197) [] []), (4, .str ([] : List UInt8))]) (by kernel_rfl) ?_
    refine K.draw (by kernel_rfl) (by kernel_rfl) (by kernel_rfl) (H2 := [.box [.str x0, iL s1]]) (by kernel_rfl) (n := 1) (by kernel_rfl) ?_
    refine kD 11 ?_
    refine kB 16 hy2 (fun h4 => ?_) (fun h5 => ?_)
    ·refine kD 8 ?_
     obtain ⟨hm, h6⟩ := asrt h4
     refine kQ 25 (.int .u8 (((x0.getD (s1 : Int).toNat 0).toNat : Nat) : Int)) [] (tr2 := [([], []), ([], []), ([], []), ([0, 1], []), ([], []), ([], []), ([], []), ([0, 1], []), ([], []), ([], []), ([], []), ([], []), ([], []), ([], []), ([0, 1], []), ([], []), ([], []), ([], []), ([0, 1], []), ([], [])]) hm ?_
     refine kD 2 ?_
     refine kE ?_
     obtain rfl := oi h6
     exact kN [0, 1, 4, 27]
    ·refine kD 11 ?_
     refine kE ?_
     obtain rfl := oi h5
     exact kN [0, 1, 4, 27]
   ·refine kBJ 27 h3 (fun h7 => ?_) (fun h8 => ?_)
    ·refine kT ?_
     refine kK ?_
     obtain rfl := oi h7
     exact kXl [0, 1, 4]
    ·refine kF ?_
     refine K.exit 0 (by kernel_rfl) ?_
     obtain rfl := oi h8
     have h9 := joinX_inr h0
     refine PJ.cutXr (fun e => nomatch e) ?_
     obtain rfl := oi h9
     refine PJ.loopOut (fun e => nomatch e) (fun he0 => ?_)
     have h10 := congrArg some he0
     refine PJ.blockOut ?_
     obtain rfl := oi h10
     exact kN [0, 1, 4]
  ·subst hs
   have h11 := joinX_inl h0
   refine kb 1 ?_
   refine kR ?_
   refine kC 8 [0,1,4] ?_
   refine kE ?_
   refine PJ.blockNormal ?_
   obtain rfl := oi h11
   exact kLN [0, 1, 4]
 ·refine kSR ?_
  refine kC 5 [0,1,4,5] ?_
  refine kEN ?_
  obtain ⟨s3, hy3, h12⟩ := bindS h2
  refine K.cutN (by kernel_rfl) (fun (s3 : Int) => ([(0, .ptr 0 0), (4, .str ([] : List UInt8)), (5, iL s3)], [.box [.str x0, iL s0]])) s3 ?_ ?_
  ·refine kb 2 ?_
   refine kl (fun (s2 : Int) => ([(0, .ptr 0 0), (1, .fn (.func 197) [] []), (4, .str ([] : List UInt8)), (5, iL s2)], [.box [.str x0, iL s0]])) hy3 [0, 1, 4, 5] (fun s2 x555 hs1 => ?_)
   obtain ⟨y2, hy4, h1⟩ := bindS hs1
   refine K.cutX (by kernel_rfl) (fun (s7 : Unit) => ([(0, .ptr 0 0), (1, .fn (.func 197) [] []), (4, .str ([] : List UInt8)), (5, iL s2)], [.box [.str x0, iL s0]])) y2 ?_ (fun s7 hs => ?_)
   ·obtain ⟨s5, hy5, h13⟩ := bindS hy4
    refine K.cutN (by kernel_rfl) (fun (s5 : Bool) => ([(0, .ptr 0 0), (1, .fn (.func 197) [] []), (4, .str ([] : List UInt8)), (5, iL s2), (55, .bool s5)], [.box [.str x0, iL s0]])) s5 ?_ ?_
    ·refine kR ?_
     refine kC 8 [0,1,4,5,46] ?_
     refine kB 46 hy5 (fun h14 => ?_) (fun h15 => ?_)
     ·refine kC 6 [0,1,4,5,46,47,51,52] ?_
      obtain ⟨hm, h16⟩ := asrt h14
      refine kG 53 hm ?_
      obtain ⟨y0, hy6, h17⟩ := bindS h16
      refine kA 54 (rule_reader__word_1_ok hy6) ?_
      refine kC 1 [0,1,4,5,55] ?_
      refine kE ?_
      obtain rfl := oi h17
      exact kN [0, 1, 4, 5, 55]
     ·refine kC 9 [0,1,4,5,55] ?_
      refine kE ?_
      obtain rfl := oi h15
      exact kN [0, 1, 4, 5, 55]
    ·refine kBJ 55 h13 (fun h18 => ?_) (fun h19 => ?_)
     ·refine kT ?_
      refine kK ?_
      obtain rfl := oi h18
      exact kXl [0, 1, 4, 5]
     ·refine kF ?_
      refine K.exit 2 (by kernel_rfl) ?_
      obtain rfl := oi h19
      have h20 := joinX_inr h1
      refine PJ.cutXr (fun e => nomatch e) ?_
      obtain rfl := oi h20
      refine PJ.loopOut (fun e => nomatch e) (fun he1 => ?_)
      have h21 := congrArg some he1
      refine PJ.blockOut ?_
      obtain rfl := oi h21
      exact kN [0, 4, 5]
   ·subst hs
    have h22 := joinX_inl h1
    refine kb 3 ?_
    refine kR ?_
    refine kC 3 [0,1,4,5] ?_
    refine kE ?_
    refine PJ.blockNormal ?_
    obtain rfl := oi h22
    exact kLN [0, 1, 4, 5]
  ·refine kS ?_
   refine J.keep [0, 4, 5] (L2 := [(0, .ptr 0 0), (4, .str ([] : List UInt8)), (5, iL s3)]) (by kernel_rfl) ?_
   refine K.draw (by kernel_rfl) (by kernel_rfl) (by kernel_rfl) (H2 := [.box [.str x0, iL s0]]) (by kernel_rfl) (n := 1) (by kernel_rfl) ?_
   refine kD 9 ?_
   obtain ⟨hm, h23⟩ := asrt h12
   refine kQ 67 (.str (cut x0 s0 s3)) [] (tr2 := [([], []), ([], []), ([], []), ([0, 1], []), ([], []), ([], []), ([], []), ([0, 1], []), ([], []), ([], [])]) hm ?_
   refine kD 1 ?_
   refine kEN ?_
   refine kX ?_
   obtain rfl := oi h23
   exact kV [0] hFn hFH hFD (v1 := .str (cut x0 s0 s3))
def rule_reader__word_s0 (x0 : List UInt8) (x1 : Int) : Option ((List UInt8) × Int) :=
 (Option.bind (rule_reader__run_s0 x0 x1) fun y0 => (some (y0.1, y0.2)))
theorem rule_reader__word_s0_ok {x0 : List UInt8} {x1 : Int} {r : (List UInt8) × Int} (h : rule_reader__word_s0 x0 x1 = some r) : SC Tryz.prog 175 [.ptr 0 0] [.box [.str x0, iL x1]] (.str r.1) [.box [.str x0, iL r.2]] := by
 refine kFn (fn := Tryz.f175) (fun F hFn hFH hFD => ?_)
 unfold rule_reader__word_s0 at h
 refine kSR ?_
 refine kC 1 [0,2] ?_
 refine kEN ?_
 refine kSR ?_
 refine kC 1 [2,3] ?_
 obtain ⟨y0, hy0, h0⟩ := bindS h
 refine kCG (some 4) (args := [.ptr 0 0, .fn (.func 197) [] []]) (v := .str y0.1) (H2 := [.box [.str x0, iL y0.2]]) [0] (rule_reader__run_s0_ok hy0) ?_
 refine kC 1 [2] ?_
 refine kEN ?_
 refine kX ?_
 obtain rfl := oi h0
 exact kV [0] hFn hFH hFD (v1 := .str y0.1)
def idxRen : Go.Shelf.Ren := ⟨fun x => match x with | 217 => 220 | 266 => 229 | n => n, fun x => x, fun x => x⟩
theorem idx_lays : Lays.n217 Tryz.prog idxRen := by
 constructor <;> first | kernel_rfl | (intro w; kernel_rfl) | (intro w; rfl)
def stringslite_IndexByte (x0 : List UInt8) (x1 : Int) : Option (Int) :=
 (some (Lib.indexByte x0 x1.toNat.toUInt8))
theorem stringslite_IndexByte_ok {x0 : List UInt8} {x1 : Int} {r : Int} (h : stringslite_IndexByte x0 x1 = some r) : SC Tryz.prog 220 [.str x0, .int .u8 x1] [] (iL r) [] := by
 obtain rfl := oi h
 exact SC.byteIdx (by kernel_rfl) (fun b c w => Any.stringslite_IndexByte idx_lays b c w)
def stringslite_Index (x0 : List UInt8) (x1 : List UInt8) : Option (Int) :=
 (Option.bind (bif (decide ((x1.length : Int) = 0)) then none else (some ())) fun (s0 : Unit) => (bif (x1 == x0) then none else (bif (decide ((x1.length : Int) = 1)) then (bif inR 0 x1.length then (Option.bind (stringslite_IndexByte x0 ((((x1.getD (0 : Int).toNat 0).toNat : Nat) : Int))) fun y0 => (some y0)) else none) else none)))
theorem stringslite_Index_ok {x0 : List UInt8} {x1 : List UInt8} {r : Int} (h : stringslite_Index x0 x1 = some r) : SC Tryz.prog 214 [.str x0, .str x1] [] (iL r) [] := by
 refine kFn (fn := Tryz.f214) (fun F hFn hFH hFD => ?_)
 unfold stringslite_Index at h
 refine kSR ?_
 refine kC 1 [0,1,4] ?_
 refine kEN ?_
 refine kSR ?_
 refine kC 3 [0,1,4,5] ?_
 refine kEN ?_
 refine kS ?_
 refine kb 0 ?_
 obtain ⟨s0, hy0, h0⟩ := bindS h
 refine K.cutN (by kernel_rfl) (fun (s0 : Unit) => ([(0, .str x0), (1, .str x1), (4, iL 0), (5, iL (x1.length : Int)), (16, .bool (x1 == x0))], [])) s0 ?_ ?_
 ·refine kR ?_
  refine kC 3 [0,1,4,5,19] ?_
  refine cTR 19 hy0 (fun h1 => ?_)
  refine kC 5 [0,1,4,5,16] ?_
  refine kE ?_
  obtain rfl := oi h1
  exact kN [0, 1, 4, 5, 16]
 ·refine cT 16 h0 (fun h2 => ?_)
  refine kF ?_
  refine kSR ?_
  refine kC 3 [0,1,4,5,24] ?_
  refine kEN ?_
  refine cF 24 h2 (fun h3 => ?_)
  refine kT ?_
  refine kSR ?_
  refine kC 2 [0,1,4,5,27,28] ?_
  obtain ⟨hm, h4⟩ := asrt h3
  refine kG 29 hm ?_
  obtain ⟨y0, hy1, h5⟩ := bindS h4
  refine kA 30 (stringslite_IndexByte_ok hy1) ?_
  refine kC 1 [0,1,4,5] ?_
  refine kEN ?_
  refine kX ?_
  refine PJ.blockRet ?_
  refine PJ.passRet ?_
  obtain rfl := oi h5
  exact kZ hFn hFH hFD
def strings_Index (x0 : List UInt8) (x1 : List UInt8) : Option (Int) :=
 (Option.bind (stringslite_Index x0 x1) fun y0 => (some y0))
theorem strings_Index_ok {x0 : List UInt8} {x1 : List UInt8} {r : Int} (h : strings_Index x0 x1 = some r) : SC Tryz.prog 209 [.str x0, .str x1] [] (iL r) [] := by
 refine kFn (fn := Tryz.f209) (fun F hFn hFH hFD => ?_)
 unfold strings_Index at h
 refine kSR ?_
 refine kC 1 [0,1,4] ?_
 refine kEN ?_
 refine kSR ?_
 refine kC 2 [4,5,6] ?_
 obtain ⟨y0, hy0, h0⟩ := bindS h
 refine kA 7 (stringslite_Index_ok hy0) ?_
 refine kC 1 [4] ?_
 refine kEN ?_
 refine kX ?_
 obtain rfl := oi h0
 exact kZ hFn hFH hFD
def strings_Contains (x0 : List UInt8) (x1 : List UInt8) : Option (Bool) :=
 (Option.bind (strings_Index x0 x1) fun y0 => (some (decide (y0 ≥ 0))))
theorem strings_Contains_ok {x0 : List UInt8} {x1 : List UInt8} {r : Bool} (h : strings_Contains x0 x1 = some r) : SC Tryz.prog 205 [.str x0, .str x1] [] (.bool r) [] := by
 refine kFn (fn := Tryz.f205) (fun F hFn hFH hFD => ?_)
 unfold strings_Contains at h
 refine kSR ?_
 refine kC 1 [0,1,4] ?_
 refine kEN ?_
 refine kSR ?_
 refine kC 2 [4,5,6] ?_
 obtain ⟨y0, hy0, h0⟩ := bindS h
 refine kA 7 (strings_Index_ok hy0) ?_
 refine kC 2 [4] ?_
 refine kEN ?_
 refine kX ?_
 obtain rfl := oi h0
 exact kZ hFn hFH hFD
def rule_reader__operand_s0 (x0 : List UInt8) (x1 : Int) (x2 : Int) (x3 : Int) (x4 : Bool) : Option (Bool × Int × Int) :=
 (Option.bind (rule_reader__word_s0 x0 x1) fun y0 => (Option.bind (Option.bind (bif (decide (¬ (y0.1.length : Int) = 1)) then none else (Option.bind (strings_Contains ([110, 105, 118, 119, 102, 116, 99, 101] : List UInt8) y0.1) fun y1 => (some (!y1)))) fun (s0 : Bool) => (bif s0 then none else (some ()))) fun (s1 : Unit) => (bif inR 0 y0.1.length then (some (true, (IntKind.wrap .i64 (y0.2 + 1)), (((y0.1.getD (0 : Int).toNat 0).toNat : Nat) : Int))) else none)))
theorem rule_reader__operand_s0_ok {x0 : List UInt8} {x1 : Int} {x2 : Int} {x3 : Int} {x4 : Bool} {r : Bool × Int × Int} (h : rule_reader__operand_s0 x0 x1 x2 x3 x4 = some r) : SC Tryz.prog 192 [.ptr 0 0, .ptr 1 0] [.box [.str x0, iL x1], .box [.int .u8 x2, iL x3, .bool x4, .nl]] (.bool r.1) [.box [.str x0, iL r.2.1], .box [.int .u8 r.2.2, iL x3, .bool x4, .nl]] := by
 refine kFn (fn := Tryz.f192) (fun F hFn hFH hFD => ?_)
 unfold rule_reader__operand_s0 at h
 refine kSR ?_
 refine kC 1 [0,1,4] ?_
 refine kEN ?_
 refine kSR ?_
 refine kC 1 [0,1,4,6] ?_
 obtain ⟨y0, hy0, h0⟩ := bindS h
 refine kCG (some 7) (args := [.ptr 0 0]) (v := .str y0.1) (H2 := [.box [.str x0, iL y0.2], .box [.int .u8 x2, iL x3, .bool x4, .nl]]) [0] (rule_reader__word_s0_ok hy0) ?_
 refine kC 1 [0,1,4,5] ?_
 refine kEN ?_
 obtain ⟨s1, hy1, h1⟩ := bindS h0
 refine K.cutN (by kernel_rfl) (fun (s1 : Unit) => ([(0, .ptr 0 0), (1, .ptr 1 0), (4, .bool false), (5, .str y0.1)], [.box [.str x0, iL y0.2], .box [.int .u8 x2, iL x3, .bool x4, .nl]])) s1 ?_ ?_
 ·obtain ⟨s0, hy2, h2⟩ := bindS hy1
  refine K.cutN (by kernel_rfl) (fun (s0 : Bool) => ([(0, .ptr 0 0), (1, .ptr 1 0), (4, .bool false), (5, .str y0.1), (15, .bool s0)], [.box [.str x0, iL y0.2], .box [.int .u8 x2, iL x3, .bool x4, .nl]])) s0 ?_ ?_
  ·refine kR ?_
   refine kC 4 [0,1,4,5,11] ?_
   refine cTR 11 hy2 (fun h3 => ?_)
   refine kC 1 [0,1,4,5,11,12] ?_
   obtain ⟨y1, hy3, h4⟩ := bindS h3
   refine kA 13 (strings_Contains_ok hy3) ?_
   refine kC 2 [0,1,4,5,15] ?_
   refine kE ?_
   obtain rfl := oi h4
   exact kN [0, 1, 4, 5, 15]
  ·refine cT 15 h2 (fun h5 => ?_)
   refine kF ?_
   refine kK ?_
   obtain rfl := oi h5
   exact kN [0, 1, 4, 5]
 ·refine kSR ?_
  refine kC 2 [0,4,16,17] ?_
  obtain ⟨hm, h6⟩ := asrt h1
  refine kG 18 hm ?_
  refine kC 3 [0,4] ?_
  refine kEN ?_
  refine kSR ?_
  refine kC 8 [4] ?_
  refine kEN ?_
  refine kSR ?_
  refine kC 1 [4] ?_
  refine kEN ?_
  refine kX ?_
  obtain rfl := oi h6
  exact kV [0, 1] hFn hFH hFD (v1 := .bool true)
def rule_reader__eat_1 (x0 : Int) : Option (Bool) :=
 (some false)
theorem rule_reader__eat_1_ok {x0 : Int} {r : Bool} (h : rule_reader__eat_1 x0 = some r) : SC Tryz.prog 210 [.int .u8 x0] [] (.bool r) [] := by
 refine kFn (fn := Tryz.f210) (fun F hFn hFH hFD => ?_)
 unfold rule_reader__eat_1 at h
 refine kSR ?_
 refine kC 1 [2] ?_
 refine kEN ?_
 refine kSR ?_
 refine kC 1 [2] ?_
 refine kEN ?_
 refine kX ?_
 obtain rfl := oi h
 exact kZ hFn hFH hFD
def rule_reader__run_s1 (x0 : List UInt8) (x1 : Int) : Option ((List UInt8) × Int) :=
 (Option.bind (loopN (fun (s1 : Int) => (Option.bind (Option.bind (bif (decide (s1 < (x0.length : Int))) then (bif inR s1 x0.length then (some ((decide (((((x0.getD (s1 : Int).toNat 0).toNat : Nat) : Int)) = 32)))) else none) else (some false)) fun (s4 : Bool) => (bif s4 then (some (.inl ())) else (some (.inr (.inr s1))))) (joinX fun (s6 : Unit) => (some (.inl (IntKind.wrap .i64 (s1 + 1))))))) big x1) fun (s0 : Int) => (Option.bind (loopN (fun (s2 : Int) => (Option.bind (Option.bind (bif (decide (s2 < (x0.length : Int))) then (bif inR s2 x0.length then (Option.bind (rule_reader__eat_1 ((((x0.getD (s2 : Int).toNat 0).toNat : Nat) : Int))) fun y0 => (some y0)) else none) else (some false)) fun (s5 : Bool) => (bif s5 then (some (.inl ())) else (some (.inr (.inr s2))))) (joinX fun (s7 : Unit) => (some (.inl (IntKind.wrap .i64 (s2 + 1))))))) big s0) fun (s3 : Int) => (bif inS s0 s3 x0.length then (some ((cut x0 s0 s3), s0)) else none)))
theorem rule_reader__run_s1_ok {x0 : List UInt8} {x1 : Int} {r : (List UInt8) × Int} (h : rule_reader__run_s1 x0 x1 = some r) : SC Tryz.prog 196 [.ptr 0 0, .fn (.func 210) [] []] [.box [.str x0, iL x1]] (.str r.1) [.box [.str x0, iL r.2]] := by
 refine kFn (fn := Tryz.f196) (fun F hFn hFH hFD => ?_)
 unfold rule_reader__run_s1 at h
 refine kSR ?_
 refine kC 1 [0,1,4] ?_
 refine kEN ?_
 obtain ⟨s0, hy0, h2⟩ := bindS h
 refine K.cutN (by kernel_rfl) (fun (s0 : Int) => ([(0, .ptr 0 0), (1, .fn (.func 210) [] []), (4, .str ([] : List UInt8))], [.box [.str x0, iL s0]])) s0 ?_ ?_
 ·refine kb 0 ?_
  refine kl (fun (s1 : Int) => ([(0, .ptr 0 0), (1, .fn (.func 210) [] []), (4, .str ([] : List UInt8))], [.box [.str x0, iL s1]])) hy0 [0, 1, 4] (fun s1 x226 hs0 => ?_)
  obtain ⟨y1, hy1, h0⟩ := bindS hs0
  refine K.cutX (by kernel_rfl) (fun (s6 : Unit) => ([(0, .ptr 0 0), (1, .fn (.func 210) [] []), (4, .str ([] : List UInt8))], [.box [.str x0, iL s1]])) y1 ?_ (fun s6 hs => ?_)
  ·obtain ⟨s4, hy2, h3⟩ := bindS hy1
   refine K.cutN (by kernel_rfl) (fun (s4 : Bool) => ([(0, .ptr 0 0), (1, .fn (.func 210) [] []), (4, .str ([] : List UInt8)), (27, .bool s4)], [.box [.str x0, iL s1]])) s4 ?_ ?_
   ·refine J.keep [0, 1, 4] (L2 := [(0, .ptr 0 0), (1, .fn (.func 210) [] []), (4, .str ([] : List UInt8))]) (by kernel_rfl) ?_
    refine K.draw (by kernel_rfl) (by kernel_rfl) (by kernel_rfl) (H2 := [.box [.str x0, iL s1]]) (by kernel_rfl) (n := 1) (by kernel_rfl) ?_
    refine kD 11 ?_
    refine kB 16 hy2 (fun h4 => ?_) (fun h5 => ?_)
    ·refine kD 8 ?_
     obtain ⟨hm, h6⟩ := asrt h4
     refine kQ 25 (.int .u8 (((x0.getD (s1 : Int).toNat 0).toNat : Nat) : Int)) [] (tr2 := [([], []), ([], []), ([], []), ([0, 1], []), ([], []), ([], []), ([], []), ([0, 1], []), ([], []), ([], []), ([], []), ([], []), ([], []), ([], []), ([0, 1], []), ([], []), ([], []), ([], []), ([0, 1], []), ([], [])]) hm ?_
     refine kD 2 ?_
     refine kE ?_
     obtain rfl := oi h6
     exact kN [0, 1, 4, 27]
    ·refine kD 11 ?_
     refine kE ?_
     obtain rfl := oi h5
     exact kN [0, 1, 4, 27]
   ·refine kBJ 27 h3 (fun h7 => ?_) (fun h8 => ?_)
    ·refine kT ?_
     refine kK ?_
     obtain rfl := oi h7
     exact kXl [0, 1, 4]
    ·refine kF ?_
     refine K.exit 0 (by kernel_rfl) ?_
     obtain rfl := oi h8
     have h9 := joinX_inr h0
     refine PJ.cutXr (fun e => nomatch e) ?_
     obtain rfl := oi h9
     refine PJ.loopOut (fun e => nomatch e) (fun he0 => ?_)
     have h10 := congrArg some he0
     refine PJ.blockOut ?_
     obtain rfl := oi h10
     exact kN [0, 1, 4]
  ·subst hs
   have h11 := joinX_inl h0
   refine kb 1 ?_
   refine kR ?_
   refine kC 8 [0,1,4] ?_
   refine kE ?_
   refine PJ.blockNormal ?_
   obtain rfl := oi h11
   exact kLN [0, 1, 4]
 ·refine kSR ?_
  refine kC 5 [0,1,4,5] ?_
  refine kEN ?_
  obtain ⟨s3, hy3, h12⟩ := bindS h2
  refine K.cutN (by kernel_rfl) (fun (s3 : Int) => ([(0, .ptr 0 0), (4, .str ([] : List UInt8)), (5, iL s3)], [.box [.str x0, iL s0]])) s3 ?_ ?_
  ·refine kb 2 ?_
   refine kl (fun (s2 : Int) => ([(0, .ptr 0 0), (1, .fn (.func 210) [] []), (4, .str ([] : List UInt8)), (5, iL s2)], [.box [.str x0, iL s0]])) hy3 [0, 1, 4, 5] (fun s2 x555 hs1 => ?_)
   obtain ⟨y2, hy4, h1⟩ := bindS hs1
   refine K.cutX (by kernel_rfl) (fun (s7 : Unit) => ([(0, .ptr 0 0), (1, .fn (.func 210) [] []), (4, .str ([] : List UInt8)), (5, iL s2)], [.box [.str x0, iL s0]])) y2 ?_ (fun s7 hs => ?_)
   ·obtain ⟨s5, hy5, h13⟩ := bindS hy4
    refine K.cutN (by kernel_rfl) (fun (s5 : Bool) => ([(0, .ptr 0 0), (1, .fn (.func 210) [] []), (4, .str ([] : List UInt8)), (5, iL s2), (55, .bool s5)], [.box [.str x0, iL s0]])) s5 ?_ ?_
    ·refine kR ?_
     refine kC 8 [0,1,4,5,46] ?_
     refine kB 46 hy5 (fun h14 => ?_) (fun h15 => ?_)
     ·refine kC 6 [0,1,4,5,46,47,51,52] ?_
      obtain ⟨hm, h16⟩ := asrt h14
      refine kG 53 hm ?_
      obtain ⟨y0, hy6, h17⟩ := bindS h16
      refine kA 54 (rule_reader__eat_1_ok hy6) ?_
      refine kC 1 [0,1,4,5,55] ?_
      refine kE ?_
      obtain rfl := oi h17
      exact kN [0, 1, 4, 5, 55]
     ·refine kC 9 [0,1,4,5,55] ?_
      refine kE ?_
      obtain rfl := oi h15
      exact kN [0, 1, 4, 5, 55]
    ·refine kBJ 55 h13 (fun h18 => ?_) (fun h19 => ?_)
     ·refine kT ?_
      refine kK ?_
      obtain rfl := oi h18
      exact kXl [0, 1, 4, 5]
     ·refine kF ?_
      refine K.exit 2 (by kernel_rfl) ?_
      obtain rfl := oi h19
      have h20 := joinX_inr h1
      refine PJ.cutXr (fun e => nomatch e) ?_
      obtain rfl := oi h20
      refine PJ.loopOut (fun e => nomatch e) (fun he1 => ?_)
      have h21 := congrArg some he1
      refine PJ.blockOut ?_
      obtain rfl := oi h21
      exact kN [0, 4, 5]
   ·subst hs
    have h22 := joinX_inl h1
    refine kb 3 ?_
    refine kR ?_
    refine kC 3 [0,1,4,5] ?_
    refine kE ?_
    refine PJ.blockNormal ?_
    obtain rfl := oi h22
    exact kLN [0, 1, 4, 5]
  ·refine kS ?_
   refine J.keep [0, 4, 5] (L2 := [(0, .ptr 0 0), (4, .str ([] : List UInt8)), (5, iL s3)]) (by kernel_rfl) ?_
   refine K.draw (by kernel_rfl) (by kernel_rfl) (by kernel_rfl) (H2 := [.box [.str x0, iL s0]]) (by kernel_rfl) (n := 1) (by kernel_rfl) ?_
   refine kD 9 ?_
   obtain ⟨hm, h23⟩ := asrt h12
   refine kQ 67 (.str (cut x0 s0 s3)) [] (tr2 := [([], []), ([], []), ([], []), ([0, 1], []), ([], []), ([], []), ([], []), ([0, 1], []), ([], []), ([], [])]) hm ?_
   refine kD 1 ?_
   refine kEN ?_
   refine kX ?_
   obtain rfl := oi h23
   exact kV [0] hFn hFH hFD (v1 := .str (cut x0 s0 s3))
def stringslite_HasPrefix (x0 : List UInt8) (x1 : List UInt8) : Option (Bool) :=
 (Option.bind (bif (decide ((x0.length : Int) ≥ (x1.length : Int))) then (bif inS 0 (x1.length : Int) x0.length then (some (((cut x0 0 (x1.length : Int)) == x1))) else none) else (some false)) fun (s0 : Bool) => (some s0))
theorem stringslite_HasPrefix_ok {x0 : List UInt8} {x1 : List UInt8} {r : Bool} (h : stringslite_HasPrefix x0 x1 = some r) : SC Tryz.prog 215 [.str x0, .str x1] [] (.bool r) [] := by
 refine kFn (fn := Tryz.f215) (fun F hFn hFH hFD => ?_)
 unfold stringslite_HasPrefix at h
 refine kSR ?_
 refine kC 1 [0,1,4] ?_
 refine kEN ?_
 obtain ⟨s0, hy0, h0⟩ := bindS h
 refine K.cutN (by kernel_rfl) (fun (s0 : Bool) => ([(4, .bool s0)], [])) s0 ?_ ?_
 ·refine kR ?_
  refine kC 6 [0,1,4,10] ?_
  refine kB 10 hy0 (fun h1 => ?_) (fun h2 => ?_)
  ·refine kC 3 [1,4,10,11,13] ?_
   obtain ⟨hm, h3⟩ := asrt h1
   refine kQ 14 (.str (cut x0 0 (x1.length : Int))) [] (tr2 := []) hm ?_
   refine kC 4 [4] ?_
   refine kE ?_
   obtain rfl := oi h3
   exact kN [4]
  ·refine kC 8 [4] ?_
   refine kE ?_
   obtain rfl := oi h2
   exact kN [4]
 ·refine kX ?_
  obtain rfl := oi h0
  exact kZ hFn hFH hFD
def strings_HasPrefix (x0 : List UInt8) (x1 : List UInt8) : Option (Bool) :=
 (Option.bind (stringslite_HasPrefix x0 x1) fun y0 => (some y0))
theorem strings_HasPrefix_ok {x0 : List UInt8} {x1 : List UInt8} {r : Bool} (h : strings_HasPrefix x0 x1 = some r) : SC Tryz.prog 211 [.str x0, .str x1] [] (.bool r) [] := by
 refine kFn (fn := Tryz.f211) (fun F hFn hFH hFD => ?_)
 unfold strings_HasPrefix at h
 refine kSR ?_
 refine kC 1 [0,1,4] ?_
 refine kEN ?_
 refine kSR ?_
 refine kC 2 [4,5,6] ?_
 obtain ⟨y0, hy0, h0⟩ := bindS h
 refine kA 7 (stringslite_HasPrefix_ok hy0) ?_
 refine kC 1 [4] ?_
 refine kEN ?_
 refine kX ?_
 obtain rfl := oi h0
 exact kZ hFn hFH hFD
def rule_reader__eat_s0 (x0 : List UInt8) (x1 : List UInt8) (x2 : Int) : Option (Bool × Int) :=
 (Option.bind (rule_reader__run_s1 x1 x2) fun y0 => (bif inS y0.2 (x1.length : Int) x1.length then (Option.bind (strings_HasPrefix (cut x1 y0.2 (x1.length : Int)) x0) fun y1 => (bif (!y1) then (some (false, y0.2)) else (some (true, (IntKind.wrap .i64 (y0.2 + (x0.length : Int))))))) else none))
theorem rule_reader__eat_s0_ok {x0 : List UInt8} {x1 : List UInt8} {x2 : Int} {r : Bool × Int} (h : rule_reader__eat_s0 x0 x1 x2 = some r) : SC Tryz.prog 206 [.ptr 0 0, .str x0] [.box [.str x1, iL x2]] (.bool r.1) [.box [.str x1, iL r.2]] := by
 refine kFn (fn := Tryz.f206) (fun F hFn hFH hFD => ?_)
 unfold rule_reader__eat_s0 at h
 refine kSR ?_
 refine kC 1 [0,1,4] ?_
 refine kEN ?_
 refine kSR ?_
 refine kC 1 [0,1,4,5] ?_
 obtain ⟨y0, hy0, h0⟩ := bindS h
 refine kCG (some 6) (args := [.ptr 0 0, .fn (.func 210) [] []]) (v := .str y0.1) (H2 := [.box [.str x1, iL y0.2]]) [0] (rule_reader__run_s1_ok hy0) ?_
 refine kEN ?_
 refine kS ?_
 refine kS ?_
 refine J.keep [0, 1, 4] (L2 := [(0, .ptr 0 0), (1, .str x0), (4, .bool false)]) (by kernel_rfl) ?_
 refine K.draw (by kernel_rfl) (by kernel_rfl) (by kernel_rfl) (H2 := [.box [.str x1, iL y0.2], .res]) (by kernel_rfl) (n := 1) (by kernel_rfl) ?_
 refine kD 8 ?_
 obtain ⟨hm, h1⟩ := asrt h0
 refine kQ 15 (.str (cut x1 y0.2 (x1.length : Int))) [] (tr2 := [([], []), ([], []), ([], []), ([0, 1], []), ([], []), ([], []), ([], []), ([0, 1], []), ([], [])]) hm ?_
 refine kD 1 ?_
 obtain ⟨y1, hy1, h2⟩ := bindS h1
 refine RJ.call0 (d := (some 17)) (f := 211) (args := [.str (cut x1 y0.2 (x1.length : Int)), .str x0]) (v := .bool y1) (tr2 := [([], []), ([], []), ([], []), ([0, 1], []), ([], []), ([], []), ([], []), ([0, 1], []), ([], []), ([], []), ([], [2, 3])]) (by kernel_rfl) (by kernel_rfl) (.cons (Le.refl _) (.cons (Le.refl _) .nil)) (strings_HasPrefix_ok hy1) (by kernel_rfl) ?_
 refine kD 1 ?_
 refine kEN ?_
 refine kBJ 18 h2 (fun h3 => ?_) (fun h4 => ?_)
 ·refine kT ?_
  refine kSR ?_
  refine kC 1 [0,1,4] ?_
  refine kEN ?_
  refine kX ?_
  refine PJ.passRet ?_
  obtain rfl := oi h3
  exact kV [0] hFn hFH hFD (v1 := .bool false)
 ·refine kF ?_
  refine kK ?_
  refine PJ.next ?_
  refine kSR ?_
  refine kC 10 [4] ?_
  refine kEN ?_
  refine kSR ?_
  refine kC 1 [4] ?_
  refine kEN ?_
  refine kX ?_
  obtain rfl := oi h4
  exact kV [0] hFn hFH hFD (v1 := .bool true)
def rule_reader__mod_s0 (x0 : List UInt8) (x1 : Int) (x2 : Int) (x3 : Int) (x4 : Bool) : Option (Bool × Int) :=
 (Option.bind (rule_reader__eat_s0 ([37] : List UInt8) x0 x1) fun y0 => (bif (!y0.1) then (some (true, y0.2)) else none))
theorem rule_reader__mod_s0_ok {x0 : List UInt8} {x1 : Int} {x2 : Int} {x3 : Int} {x4 : Bool} {r : Bool × Int} (h : rule_reader__mod_s0 x0 x1 x2 x3 x4 = some r) : SC Tryz.prog 193 [.ptr 0 0, .ptr 1 0] [.box [.str x0, iL x1], .box [.int .u8 x2, iL x3, .bool x4, .nl]] (.bool r.1) [.box [.str x0, iL r.2], .box [.int .u8 x2, iL x3, .bool x4, .nl]] := by
 refine kFn (fn := Tryz.f193) (fun F hFn hFH hFD => ?_)
 unfold rule_reader__mod_s0 at h
 refine kSR ?_
 refine kC 1 [0,1,4] ?_
 refine kEN ?_
 refine kS ?_
 refine kSR ?_
 refine kC 1 [0,1,4,6] ?_
 obtain ⟨y0, hy0, h0⟩ := bindS h
 refine kCG (some 7) (args := [.ptr 0 0, .str ([37] : List UInt8)]) (v := .bool y0.1) (H2 := [.box [.str x0, iL y0.2], .box [.int .u8 x2, iL x3, .bool x4, .nl]]) [0] (rule_reader__eat_s0_ok hy0) ?_
 refine kC 1 [0,1,4,8] ?_
 refine kEN ?_
 refine cF 8 h0 (fun h1 => ?_)
 refine kT ?_
 refine kSR ?_
 refine kC 1 [0,1,4] ?_
 refine kEN ?_
 refine kX ?_
 refine PJ.passRet ?_
 obtain rfl := oi h1
 exact kV [0, 1] hFn hFH hFD (v1 := .bool true)
def rule_reader__sign_s0 (x0 : List UInt8) (x1 : Int) (x2 : Int) (x3 : Int) (x4 : Bool) : Option (Bool × Int) :=
 (Option.bind (rule_reader__eat_s0 ([61] : List UInt8) x0 x1) fun y0 => (bif y0.1 then (some (true, y0.2)) else none))
theorem rule_reader__sign_s0_ok {x0 : List UInt8} {x1 : Int} {x2 : Int} {x3 : Int} {x4 : Bool} {r : Bool × Int} (h : rule_reader__sign_s0 x0 x1 x2 x3 x4 = some r) : SC Tryz.prog 194 [.ptr 0 0, .ptr 1 0] [.box [.str x0, iL x1], .box [.int .u8 x2, iL x3, .bool x4, .nl]] (.bool r.1) [.box [.str x0, iL r.2], .box [.int .u8 x2, iL x3, .bool x4, .nl]] := by
 refine kFn (fn := Tryz.f194) (fun F hFn hFH hFD => ?_)
 unfold rule_reader__sign_s0 at h
 refine kSR ?_
 refine kC 1 [0,1,4] ?_
 refine kEN ?_
 refine kS ?_
 refine kSR ?_
 refine kC 1 [0,1,4,5] ?_
 obtain ⟨y0, hy0, h0⟩ := bindS h
 refine kCG (some 6) (args := [.ptr 0 0, .str ([61] : List UInt8)]) (v := .bool y0.1) (H2 := [.box [.str x0, iL y0.2], .box [.int .u8 x2, iL x3, .bool x4, .nl]]) [0] (rule_reader__eat_s0_ok hy0) ?_
 refine kEN ?_
 refine cF 6 h0 (fun h1 => ?_)
 refine kT ?_
 refine kSR ?_
 refine kC 1 [0,1,4] ?_
 refine kEN ?_
 refine kX ?_
 refine PJ.passRet ?_
 obtain rfl := oi h1
 exact kV [0, 1] hFn hFH hFD (v1 := .bool true)
def rule_reader__number_1 (x0 : Int) : Option (Bool) :=
 (Option.bind (bif (decide (48 ≤ x0)) then (some (decide (x0 ≤ 57))) else (some false)) fun (s0 : Bool) => (some s0))
theorem rule_reader__number_1_ok {x0 : Int} {r : Bool} (h : rule_reader__number_1 x0 = some r) : SC Tryz.prog 212 [.int .u8 x0] [] (.bool r) [] := by
 refine kFn (fn := Tryz.f212) (fun F hFn hFH hFD => ?_)
 unfold rule_reader__number_1 at h
 refine kSR ?_
 refine kC 1 [0,2] ?_
 refine kEN ?_
 obtain ⟨s0, hy0, h0⟩ := bindS h
 refine K.cutN (by kernel_rfl) (fun (s0 : Bool) => ([(2, .bool s0)], [])) s0 ?_ ?_
 ·refine kR ?_
  refine kC 3 [0,2,5] ?_
  refine kB 5 hy0 (fun h1 => ?_) (fun h2 => ?_)
  ·refine kC 4 [2] ?_
   refine kE ?_
   obtain rfl := oi h1
   exact kN [2]
  ·refine kC 4 [2] ?_
   refine kE ?_
   obtain rfl := oi h2
   exact kN [2]
 ·refine kX ?_
  obtain rfl := oi h0
  exact kZ hFn hFH hFD
def rule_reader__run_s2 (x0 : List UInt8) (x1 : Int) : Option ((List UInt8) × Int) :=
 (Option.bind (loopN (fun (s1 : Int) => (Option.bind (Option.bind (bif (decide (s1 < (x0.length : Int))) then (bif inR s1 x0.length then (some ((decide (((((x0.getD (s1 : Int).toNat 0).toNat : Nat) : Int)) = 32)))) else none) else (some false)) fun (s4 : Bool) => (bif s4 then (some (.inl ())) else (some (.inr (.inr s1))))) (joinX fun (s6 : Unit) => (some (.inl (IntKind.wrap .i64 (s1 + 1))))))) big x1) fun (s0 : Int) => (Option.bind (loopN (fun (s2 : Int) => (Option.bind (Option.bind (bif (decide (s2 < (x0.length : Int))) then (bif inR s2 x0.length then (Option.bind (rule_reader__number_1 ((((x0.getD (s2 : Int).toNat 0).toNat : Nat) : Int))) fun y0 => (some y0)) else none) else (some false)) fun (s5 : Bool) => (bif s5 then (some (.inl ())) else (some (.inr (.inr s2))))) (joinX fun (s7 : Unit) => (some (.inl (IntKind.wrap .i64 (s2 + 1))))))) big s0) fun (s3 : Int) => (bif inS s0 s3 x0.length then (some ((cut x0 s0 s3), s0)) else none)))
theorem rule_reader__run_s2_ok {x0 : List UInt8} {x1 : Int} {r : (List UInt8) × Int} (h : rule_reader__run_s2 x0 x1 = some r) : SC Tryz.prog 196 [.ptr 0 0, .fn (.func 212) [] []] [.box [.str x0, iL x1]] (.str r.1) [.box [.str x0, iL r.2]] := by
 refine kFn (fn := Tryz.f196) (fun F hFn hFH hFD => ?_)
 unfold rule_reader__run_s2 at h
 refine kSR ?_
 refine kC 1 [0,1,4] ?_
 refine kEN ?_
 obtain ⟨s0, hy0, h2⟩ := bindS h
 refine K.cutN (by kernel_rfl) (fun (s0 : Int) => ([(0, .ptr 0 0), (1, .fn (.func 212) [] []), (4, .str ([] : List UInt8))], [.box [.str x0, iL s0]])) s0 ?_ ?_
 ·refine kb 0 ?_
  refine kl (fun (s1 : Int) => ([(0, .ptr 0 0), (1, .fn (.func 212) [] []), (4, .str ([] : List UInt8))], [.box [.str x0, iL s1]])) hy0 [0, 1, 4] (fun s1 x226 hs0 => ?_)
  obtain ⟨y1, hy1, h0⟩ := bindS hs0
  refine K.cutX (by kernel_rfl) (fun (s6 : Unit) => ([(0, .ptr 0 0), (1, .fn (.func 212) [] []), (4, .str ([] : List UInt8))], [.box [.str x0, iL s1]])) y1 ?_ (fun s6 hs => ?_)
  ·obtain ⟨s4, hy2, h3⟩ := bindS hy1
   refine K.cutN (by kernel_rfl) (fun (s4 : Bool) => ([(0, .ptr 0 0), (1, .fn (.func 212) [] []), (4, .str ([] : List UInt8)), (27, .bool s4)], [.box [.str x0, iL s1]])) s4 ?_ ?_
   ·refine J.keep [0, 1, 4] (L2 := [(0, .ptr 0 0), (1, .fn (.func 212) [] []), (4, .str ([] : List UInt8))]) (by kernel_rfl) ?_
    refine K.draw (by kernel_rfl) (by kernel_rfl) (by kernel_rfl) (H2 := [.box [.str x0, iL s1]]) (by kernel_rfl) (n := 1) (by kernel_rfl) ?_
    refine kD 11 ?_
    refine kB 16 hy2 (fun h4 => ?_) (fun h5 => ?_)
    ·refine kD 8 ?_
     obtain ⟨hm, h6⟩ := asrt h4
     refine kQ 25 (.int .u8 (((x0.getD (s1 : Int).toNat 0).toNat : Nat) : Int)) [] (tr2 := [([], []), ([], []), ([], []), ([0, 1], []), ([], []), ([], []), ([], []), ([0, 1], []), ([], []), ([], []), ([], []), ([], []), ([], []), ([], []), ([0, 1], []), ([], []), ([], []), ([], []), ([0, 1], []), ([], [])]) hm ?_
     refine kD 2 ?_
     refine kE ?_
     obtain rfl := oi h6
     exact kN [0, 1, 4, 27]
    ·refine kD 11 ?_
     refine kE ?_
     obtain rfl := oi h5
     exact kN [0, 1, 4, 27]
   ·refine kBJ 27 h3 (fun h7 => ?_) (fun h8 => ?_)
    ·refine kT ?_
     refine kK ?_
     obtain rfl := oi h7
     exact kXl [0, 1, 4]
    ·refine kF ?_
     refine K.exit 0 (by kernel_rfl) ?_
     obtain rfl := oi h8
     have h9 := joinX_inr h0
     refine PJ.cutXr (fun e => nomatch e) ?_
     obtain rfl := oi h9
     refine PJ.loopOut (fun e => nomatch e) (fun he0 => ?_)
     have h10 := congrArg some he0
     refine PJ.blockOut ?_
     obtain rfl := oi h10
     exact kN [0, 1, 4]
  ·subst hs
   have h11 := joinX_inl h0
   refine kb 1 ?_
   refine kR ?_
   refine kC 8 [0,1,4] ?_
   refine kE ?_
   refine PJ.blockNormal ?_
   obtain rfl := oi h11
   exact kLN [0, 1, 4]
 ·refine kSR ?_
  refine kC 5 [0,1,4,5] ?_
  refine kEN ?_
  obtain ⟨s3, hy3, h12⟩ := bindS h2
  refine K.cutN (by kernel_rfl) (fun (s3 : Int) => ([(0, .ptr 0 0), (4, .str ([] : List UInt8)), (5, iL s3)], [.box [.str x0, iL s0]])) s3 ?_ ?_
  ·refine kb 2 ?_
   refine kl (fun (s2 : Int) => ([(0, .ptr 0 0), (1, .fn (.func 212) [] []), (4, .str ([] : List UInt8)), (5, iL s2)], [.box [.str x0, iL s0]])) hy3 [0, 1, 4, 5] (fun s2 x555 hs1 => ?_)
   obtain ⟨y2, hy4, h1⟩ := bindS hs1
   refine K.cutX (by kernel_rfl) (fun (s7 : Unit) => ([(0, .ptr 0 0), (1, .fn (.func 212) [] []), (4, .str ([] : List UInt8)), (5, iL s2)], [.box [.str x0, iL s0]])) y2 ?_ (fun s7 hs => ?_)
   ·obtain ⟨s5, hy5, h13⟩ := bindS hy4
    refine K.cutN (by kernel_rfl) (fun (s5 : Bool) => ([(0, .ptr 0 0), (1, .fn (.func 212) [] []), (4, .str ([] : List UInt8)), (5, iL s2), (55, .bool s5)], [.box [.str x0, iL s0]])) s5 ?_ ?_
    ·refine kR ?_
     refine kC 8 [0,1,4,5,46] ?_
     refine kB 46 hy5 (fun h14 => ?_) (fun h15 => ?_)
     ·refine kC 6 [0,1,4,5,46,47,51,52] ?_
      obtain ⟨hm, h16⟩ := asrt h14
      refine kG 53 hm ?_
      obtain ⟨y0, hy6, h17⟩ := bindS h16
      refine kA 54 (rule_reader__number_1_ok hy6) ?_
      refine kC 1 [0,1,4,5,55] ?_
      refine kE ?_
      obtain rfl := oi h17
      exact kN [0, 1, 4, 5, 55]
     ·refine kC 9 [0,1,4,5,55] ?_
      refine kE ?_
      obtain rfl := oi h15
      exact kN [0, 1, 4, 5, 55]
    ·refine kBJ 55 h13 (fun h18 => ?_) (fun h19 => ?_)
     ·refine kT ?_
      refine kK ?_
      obtain rfl := oi h18
      exact kXl [0, 1, 4, 5]
     ·refine kF ?_
      refine K.exit 2 (by kernel_rfl) ?_
      obtain rfl := oi h19
      have h20 := joinX_inr h1
      refine PJ.cutXr (fun e => nomatch e) ?_
      obtain rfl := oi h20
      refine PJ.loopOut (fun e => nomatch e) (fun he1 => ?_)
      have h21 := congrArg some he1
      refine PJ.blockOut ?_
      obtain rfl := oi h21
      exact kN [0, 4, 5]
   ·subst hs
    have h22 := joinX_inl h1
    refine kb 3 ?_
    refine kR ?_
    refine kC 3 [0,1,4,5] ?_
    refine kE ?_
    refine PJ.blockNormal ?_
    obtain rfl := oi h22
    exact kLN [0, 1, 4, 5]
  ·refine kS ?_
   refine J.keep [0, 4, 5] (L2 := [(0, .ptr 0 0), (4, .str ([] : List UInt8)), (5, iL s3)]) (by kernel_rfl) ?_
   refine K.draw (by kernel_rfl) (by kernel_rfl) (by kernel_rfl) (H2 := [.box [.str x0, iL s0]]) (by kernel_rfl) (n := 1) (by kernel_rfl) ?_
   refine kD 9 ?_
   obtain ⟨hm, h23⟩ := asrt h12
   refine kQ 67 (.str (cut x0 s0 s3)) [] (tr2 := [([], []), ([], []), ([], []), ([0, 1], []), ([], []), ([], []), ([], []), ([0, 1], []), ([], []), ([], [])]) hm ?_
   refine kD 1 ?_
   refine kEN ?_
   refine kX ?_
   obtain rfl := oi h23
   exact kV [0] hFn hFH hFD (v1 := .str (cut x0 s0 s3))
def rule_reader__number_s0 (x0 : Int) (x1 : List UInt8) (x2 : Int) : Option (Int × Bool × Int) :=
 (Option.bind (rule_reader__run_s2 x1 x2) fun y0 => (Option.bind (Option.bind (bif (decide ((y0.1.length : Int) = 0)) then none else (bif (decide ((y0.1.length : Int) > 9)) then none else (bif (decide ((y0.1.length : Int) > 1)) then none else (some ())))) fun (s2 : Unit) => (some ())) fun (s3 : Unit) => (Option.bind (loopN (fun (s0 : Int × Int) => (bif (decide (s0.2 < ((bytesI y0.1).length : Int))) then (bif inR s0.2 (bytesI y0.1).length then (some (.inl ((IntKind.wrap .i64 ((IntKind.wrap .i64 (s0.1 * 10)) + ((IntKind.wrap .i64 ((IntKind.wrap .u8 ((nth (bytesI y0.1) s0.2) - 48))))))), (IntKind.wrap .i64 (s0.2 + 1))))) else none) else (some (.inr s0.1)))) big (0, 0)) fun (s1 : Int) => (bif (decide (s1 < x0)) then none else (some (s1, true, (IntKind.wrap .i64 (y0.2 + (y0.1.length : Int)))))))))
theorem rule_reader__number_s0_ok {x0 : Int} {x1 : List UInt8} {x2 : Int} {r : Int × Bool × Int} (h : rule_reader__number_s0 x0 x1 x2 = some r) : SC Tryz.prog 207 [.ptr 0 0, iL x0] [.box [.str x1, iL x2]] (.tup [iL r.1, .bool r.2.1]) [.box [.str x1, iL r.2.2]] := by
 refine kFn (fn := Tryz.f207) (fun F hFn hFH hFD => ?_)
 unfold rule_reader__number_s0 at h
 refine kSR ?_
 refine kC 2 [0,1,4,5] ?_
 refine kEN ?_
 refine kSR ?_
 refine kC 1 [0,1,4,5,10] ?_
 obtain ⟨y0, hy0, h0⟩ := bindS h
 refine kCG (some 11) (args := [.ptr 0 0, .fn (.func 212) [] []]) (v := .str y0.1) (H2 := [.box [.str x1, iL y0.2]]) [0] (rule_reader__run_s2_ok hy0) ?_
 refine kC 1 [0,1,4,5,6] ?_
 refine kEN ?_
 obtain ⟨s3, hy1, h1⟩ := bindS h0
 refine K.cutN (by kernel_rfl) (fun (s3 : Unit) => ([(0, .ptr 0 0), (1, iL x0), (4, iL 0), (5, .bool false), (6, .str y0.1)], [.box [.str x1, iL y0.2]])) s3 ?_ ?_
 ·obtain ⟨s2, hy2, h2⟩ := bindS hy1
  refine K.cutN (by kernel_rfl) (fun (s2 : Unit) => ([(0, .ptr 0 0), (1, iL x0), (4, iL 0), (5, .bool false), (6, .str y0.1), (29, .bool false)], [.box [.str x1, iL y0.2]])) s2 ?_ ?_
  ·refine kR ?_
   refine kC 4 [0,1,4,5,6,15] ?_
   refine cTR 15 hy2 (fun h3 => ?_)
   refine kC 5 [0,1,4,5,6,20] ?_
   refine cTR 20 h3 (fun h4 => ?_)
   refine kC 4 [0,1,4,5,6,20,24] ?_
   refine cTR 24 h4 (fun h5 => ?_)
   refine kC 5 [0,1,4,5,6,29] ?_
   refine kE ?_
   obtain rfl := oi h5
   exact kN [0, 1, 4, 5, 6, 29]
  ·refine kF ?_
   refine kK ?_
   obtain rfl := oi h2
   exact kN [0, 1, 4, 5, 6]
 ·refine kSR ?_
  refine kC 1 [0,1,4,5,6,7] ?_
  refine kEN ?_
  obtain ⟨s1, hy3, h6⟩ := bindS h1
  refine K.cutN (by kernel_rfl) (fun (s1 : Int) => ([(0, .ptr 0 0), (1, iL x0), (4, iL 0), (5, .bool false), (6, .str y0.1), (7, iL s1)], [.box [.str x1, iL y0.2]])) s1 ?_ ?_
  ·refine kSR ?_
   refine kC 1 [0,1,4,5,6,7,30] ?_
   refine RJ.rel (d := (some 31)) (ef := ⟨.lst y0.1.length 1 (y0.1.map byteSV), [], []⟩) (ef' := ⟨lB (bytesI y0.1), [], []⟩) (c := true) (tr2 := []) (H2 := [.box [.str x1, iL y0.2]]) (by kernel_rfl) rfl (fun hc => N.toBytes) (by kernel_rfl) ?_
   refine kC 2 [0,1,4,5,6,7,31,32,33] ?_
   refine kEN ?_
   refine kb 0 ?_
   refine kl (fun (s0 : Int × Int) => ([(0, .ptr 0 0), (1, iL x0), (4, iL 0), (5, .bool false), (6, .str y0.1), (7, iL s0.1), (31, lB (bytesI y0.1)), (32, iL ((bytesI y0.1).length : Int)), (33, iL s0.2)], [.box [.str x1, iL y0.2]])) hy3 [0, 1, 4, 5, 6, 7, 31, 32, 33] (fun s0 x95 hs0 => ?_)
   refine kSR ?_
   refine kC 1 [0,1,4,5,6,7,31,32,33,34] ?_
   refine kEN ?_
   refine kS ?_
   refine kBJ 34 hs0 (fun h7 => ?_) (fun h8 => ?_)
   ·refine kT ?_
    refine kK ?_
    refine PJ.next ?_
    refine kS ?_
    refine kb 1 ?_
    refine kSR ?_
    obtain ⟨hm, h9⟩ := asrt h7
    refine kI 35 (encI_len .u8) hm ?_
    refine kC 2 [0,1,4,5,6,7,9,31,32,33] ?_
    refine kEN ?_
    refine kR ?_
    refine kC 7 [0,1,4,5,6,7,31,32,33] ?_
    refine kE ?_
    refine PJ.blockNormal ?_
    refine PJ.next ?_
    refine kR ?_
    refine kC 2 [0,1,4,5,6,7,31,32,33] ?_
    refine kE ?_
    obtain rfl := oi h9
    exact kLN [0, 1, 4, 5, 6, 7, 31, 32, 33]
   ·refine kF ?_
    refine K.exit 0 (by kernel_rfl) ?_
    refine PJ.passExit ?_
    obtain rfl := oi h8
    refine PJ.loopOut (fun e => nomatch e) (fun he0 => ?_)
    have h10 := congrArg some he0
    refine PJ.blockOut ?_
    obtain rfl := oi h10
    exact kN [0, 1, 4, 5, 6, 7]
  ·refine kS ?_
   refine kSR ?_
   refine kC 3 [0,4,5,6,7,46] ?_
   refine kEN ?_
   refine cT 46 h6 (fun h11 => ?_)
   refine kF ?_
   refine kK ?_
   refine PJ.next ?_
   refine kSR ?_
   refine kC 10 [4,5,7] ?_
   refine kEN ?_
   refine kSR ?_
   refine kC 3 [4,5] ?_
   refine kEN ?_
   refine kX ?_
   obtain rfl := oi h11
   exact kV [0] hFn hFH hFD (v1 := .tup [iL s1, .bool true])
def rule_reader__ranges_s0 (x0 : List UInt8) (x1 : Int) (x2 : Int) (x3 : Int) (x4 : Bool) : Option (Bool × Int × (List St185)) :=
 (loopN (fun (s2 : Unit) => (Option.bind (rule_reader__number_s0 0 x0 x1) fun y0 => (Option.bind (Option.bind (bif y0.2.1 then (Option.bind (rule_reader__eat_s0 ([46, 46] : List UInt8) x0 y0.2.2) fun y1 => (some (y1.1, y1.2))) else none) fun (s0 : Bool × Int) => (bif s0.1 then none else (some s0.2))) fun (s1 : Int) => (bif (!y0.2.1) then none else (bif room ([(⟨y0.1, y0.1⟩ : St185)] : List St185).length then (Option.bind (rule_reader__eat_s0 ([44] : List UInt8) x0 s1) fun y2 => (bif (!y2.1) then (some (.inr (true, y2.2, ([(⟨y0.1, y0.1⟩ : St185)] : List St185)))) else none)) else none))))) big ())
theorem rule_reader__ranges_s0_ok {x0 : List UInt8} {x1 : Int} {x2 : Int} {x3 : Int} {x4 : Bool} {r : Bool × Int × (List St185)} (h : rule_reader__ranges_s0 x0 x1 x2 x3 x4 = some r) : SC Tryz.prog 195 [.ptr 0 0, .ptr 1 0] [.box [.str x0, iL x1], .box [.int .u8 x2, iL x3, .bool x4, .nl]] (.bool r.1) [.box [.str x0, iL r.2.1], .box [.int .u8 x2, iL x3, .bool x4, .vc 2], vecL encSt185 2 185 r.2.2] := by
 refine kFn (fn := Tryz.f195) (fun F hFn hFH hFD => ?_)
 unfold rule_reader__ranges_s0 at h
 refine kSR ?_
 refine kC 1 [0,1,4] ?_
 refine kEN ?_
 refine kb 0 ?_
 refine kl (fun (s2 : Unit) => ([(0, .ptr 0 0), (1, .ptr 1 0), (4, .bool false)], [.box [.str x0, iL x1], .box [.int .u8 x2, iL x3, .bool x4, .nl]])) h [0, 1, 4] (fun s2 x63 hs0 => ?_)
 refine kb 1 ?_
 refine kSR ?_
 refine kC 1 [0,1,4,9] ?_
 obtain ⟨y0, hy0, h0⟩ := bindS hs0
 refine kCG (some 10) (args := [.ptr 0 0, iL 0]) (v := .tup [iL y0.1, .bool y0.2.1]) (H2 := [.box [.str x0, iL y0.2.2], .box [.int .u8 x2, iL x3, .bool x4, .nl]]) [0] (rule_reader__number_s0_ok hy0) ?_
 refine kC 5 [0,1,4,5,6] ?_
 refine kEN ?_
 refine kSR ?_
 refine kC 2 [0,1,4,5,6,7] ?_
 refine kEN ?_
 obtain ⟨s1, hy1, h1⟩ := bindS h0
 refine K.cutN (by kernel_rfl) (fun (s1 : Int) => ([(0, .ptr 0 0), (1, .ptr 1 0), (4, .bool false), (5, iL y0.1), (6, .bool y0.2.1), (7, iL y0.1)], [.box [.str x0, iL s1], .box [.int .u8 x2, iL x3, .bool x4, .nl]])) s1 ?_ ?_
 ·obtain ⟨s0, hy2, h2⟩ := bindS hy1
  refine K.cutN (by kernel_rfl) (fun (s0 : Bool × Int) => ([(0, .ptr 0 0), (1, .ptr 1 0), (4, .bool false), (5, iL y0.1), (6, .bool y0.2.1), (7, iL y0.1), (18, .bool s0.1)], [.box [.str x0, iL s0.2], .box [.int .u8 x2, iL x3, .bool x4, .nl]])) s0 ?_ ?_
  ·refine kR ?_
   refine kC 2 [0,1,4,5,6,7,15] ?_
   refine cFR 15 hy2 (fun h3 => ?_)
   refine kC 1 [0,1,4,5,6,7,15,16] ?_
   obtain ⟨y1, hy3, h4⟩ := bindS h3
   refine kCG (some 17) (args := [.ptr 0 0, .str ([46, 46] : List UInt8)]) (v := .bool y1.1) (H2 := [.box [.str x0, iL y1.2], .box [.int .u8 x2, iL x3, .bool x4, .nl]]) [0] (rule_reader__eat_s0_ok hy3) ?_
   refine kC 1 [0,1,4,5,6,7,18] ?_
   refine kE ?_
   obtain rfl := oi h4
   exact kN [0, 1, 4, 5, 6, 7, 18]
  ·refine cT 18 h2 (fun h5 => ?_)
   refine kF ?_
   refine kK ?_
   obtain rfl := oi h5
   exact kN [0, 1, 4, 5, 6, 7]
 ·refine kS ?_
  refine kSR ?_
  refine kC 2 [0,1,4,5,7,27] ?_
  refine kEN ?_
  refine cT 27 h1 (fun h6 => ?_)
  refine kF ?_
  refine kK ?_
  refine PJ.next ?_
  refine kSR ?_
  refine kC 9 [0,1,4,28,32,36] ?_
  obtain ⟨hm, h7⟩ := asrt h6
  refine RJ.rel (d := (some 37)) (ef' := ⟨.vc 3, [2], [(3, .vec ([(⟨y0.1, y0.1⟩ : St185)] : List St185).length 2 185 (([(⟨y0.1, y0.1⟩ : St185)] : List St185).flatMap encSt185))]⟩) (tr2 := []) (H2 := [.box [.str x0, iL s1], .box [.int .u8 x2, iL x3, .bool x4, .nl], vecL encSt185 2 185 ([(⟨y0.1, y0.1⟩ : St185)] : List St185), vecL encSt185 2 185 ([(⟨y0.1, y0.1⟩ : St185)] : List St185)]) (by kernel_rfl) hm (fun hc => rfl) (by kernel_rfl) ?_
  refine kC 3 [0,1,4] ?_
  refine kEN ?_
  refine kSR ?_
  refine kC 1 [0,1,4,40] ?_
  obtain ⟨y2, hy4, h8⟩ := bindS h7
  refine kCG (some 41) (args := [.ptr 0 0, .str ([44] : List UInt8)]) (v := .bool y2.1) (H2 := [.box [.str x0, iL y2.2], .box [.int .u8 x2, iL x3, .bool x4, .vc 3], vecL encSt185 2 185 ([(⟨y0.1, y0.1⟩ : St185)] : List St185), vecL encSt185 2 185 ([(⟨y0.1, y0.1⟩ : St185)] : List St185)]) [0] (rule_reader__eat_s0_ok hy4) ?_
  refine kC 1 [0,1,4,42] ?_
  refine kEN ?_
  refine cF 42 h8 (fun h9 => ?_)
  refine kT ?_
  refine kSR ?_
  refine kC 1 [0,1,4] ?_
  refine kEN ?_
  refine kX ?_
  refine PJ.blockRet ?_
  obtain rfl := oi h9
  refine PJ.loopOut (fun e => nomatch e) (fun he0 => ?_)
  have h10 := congrArg some he0
  refine PJ.blockRet ?_
  obtain rfl := oi h10
  exact kV [0, 1, 3] hFn hFH hFD (v1 := .bool true)
def rule_reader__relation_s0 (x0 : List UInt8) (x1 : Int) : Option (St150 × Bool × Int) :=
 (Option.bind (Option.bind (rule_reader__operand_s0 x0 x1 0 0 false) fun y0 => (bif y0.1 then (Option.bind (rule_reader__mod_s0 x0 y0.2.1 y0.2.2 0 false) fun y3 => (bif y3.1 then (Option.bind (rule_reader__sign_s0 x0 y3.2 y0.2.2 0 false) fun y2 => (bif y2.1 then (Option.bind (rule_reader__ranges_s0 x0 y2.2 y0.2.2 0 false) fun y1 => (some (y1.1, y1.2.1, y0.2.2, y1.2.2))) else none)) else none)) else none)) fun (s0 : Bool × Int × Int × (List St185)) => (bif s0.1 then (some ((⟨s0.2.2.1, 0, false, s0.2.2.2⟩ : St150), true, s0.2.1)) else none))
theorem rule_reader__relation_s0_ok {x0 : List UInt8} {x1 : Int} {r : St150 × Bool × Int} (h : rule_reader__relation_s0 x0 x1 = some r) : SC Tryz.prog 174 [.ptr 0 0] [.box [.str x0, iL x1]] (.tup [.agg (encSt150 r.1), .bool r.2.1]) [.box [.str x0, iL r.2.2]] := by
 refine kFn (fn := Tryz.f174) (fun F hFn hFH hFD => ?_)
 unfold rule_reader__relation_s0 at h
 refine kSR ?_
 refine kC 2 [0,2,3] ?_
 refine kEN ?_
 refine kSR ?_
 refine kC 1 [0,2,3,4] ?_
 refine kEN ?_
 refine kS ?_
 obtain ⟨s0, hy0, h0⟩ := bindS h
 refine K.cutN (by kernel_rfl) (fun (s0 : Bool × Int × Int × (List St185)) => ([(2, .ptr 1 0), (3, .bool false), (4, .ptr 2 0), (18, .bool s0.1)], [.box [.str x0, iL s0.2.1], .box [.int .u8 0, iL 0, .bool false, .nl], .box [.int .u8 s0.2.2.1, iL 0, .bool false, .vc 3], vecL encSt185 2 185 s0.2.2.2])) s0 ?_ ?_
 ·refine kR ?_
  refine kC 1 [0,2,3,4,5] ?_
  obtain ⟨y0, hy1, h1⟩ := bindS hy0
  refine kCG (some 6) (args := [.ptr 0 0, .ptr 2 0]) (v := .bool y0.1) (H2 := [.box [.str x0, iL y0.2.1], .box [.int .u8 0, iL 0, .bool false, .nl], .box [.int .u8 y0.2.2, iL 0, .bool false, .nl]]) [0, 2] (rule_reader__operand_s0_ok hy1) ?_
  refine kC 1 [0,2,3,4,7] ?_
  refine cFR 7 h1 (fun h2 => ?_)
  refine kC 1 [0,2,3,4,7,8] ?_
  obtain ⟨y3, hy2, h3⟩ := bindS h2
  refine kCG (some 9) (args := [.ptr 0 0, .ptr 2 0]) (v := .bool y3.1) (H2 := [.box [.str x0, iL y3.2], .box [.int .u8 0, iL 0, .bool false, .nl], .box [.int .u8 y0.2.2, iL 0, .bool false, .nl]]) [0, 2] (rule_reader__mod_s0_ok hy2) ?_
  refine kC 2 [0,2,3,4,11] ?_
  refine cFR 11 h3 (fun h4 => ?_)
  refine kC 1 [0,2,3,4,11,12] ?_
  obtain ⟨y2, hy3, h5⟩ := bindS h4
  refine kCG (some 13) (args := [.ptr 0 0, .ptr 2 0]) (v := .bool y2.1) (H2 := [.box [.str x0, iL y2.2], .box [.int .u8 0, iL 0, .bool false, .nl], .box [.int .u8 y0.2.2, iL 0, .bool false, .nl]]) [0, 2] (rule_reader__sign_s0_ok hy3) ?_
  refine kC 2 [0,2,3,4,15] ?_
  refine cFR 15 h5 (fun h6 => ?_)
  refine RJ.seg 1 [2, 3, 4, 15, 16] (L2 := [(2, .ptr 1 0), (3, .bool false), (4, .ptr 2 0), (15, .bool true), (16, .ptr 0 0)]) (H2 := [.box [.str x0, iL y2.2], .box [.int .u8 0, iL 0, .bool false, .nl], .box [.int .u8 y0.2.2, iL 0, .bool false, .nl]]) (by kernel_rfl) ?_
  obtain ⟨y1, hy4, h7⟩ := bindS h6
  refine kCG (some 17) (args := [.ptr 0 0, .ptr 2 0]) (v := .bool y1.1) (H2 := [.box [.str x0, iL y1.2.1], .box [.int .u8 0, iL 0, .bool false, .nl], .box [.int .u8 y0.2.2, iL 0, .bool false, .vc 3], vecL encSt185 2 185 y1.2.2]) [0, 2] (rule_reader__ranges_s0_ok hy4) ?_
  refine kC 1 [2,3,4,18] ?_
  refine kE ?_
  obtain rfl := oi h7
  exact kN [2, 3, 4, 18]
 ·refine cF 18 h0 (fun h8 => ?_)
  refine kT ?_
  refine kSR ?_
  refine kC 3 [2,3] ?_
  refine kEN ?_
  refine kX ?_
  refine PJ.passRet ?_
  obtain rfl := oi h8
  refine PJ.wk (Wk.freeze 3 (n := s0.2.2.2.length) (k := 2) (e := 185) (cs := s0.2.2.2.flatMap encSt185) (by kernel_rfl)) ?_
  exact kV [0] hFn hFH hFD (v1 := .tup [.agg [.int .u8 s0.2.2.1, iL 0, .bool false, lsv encSt185 2 s0.2.2.2], .bool true])
def rule_reader__rows_s0 (x0 : List UInt8) (x1 : Int) : Option ((List (List St150)) × Bool × Int) :=
 (Option.bind (loopN (fun (s1 : Int × (List St150)) => (Option.bind (rule_reader__relation_s0 x0 s1.1) fun y0 => (bif (!y0.2.1) then none else (bif room (s1.2.length + ([y0.1] : List St150).length) then (Option.bind (rule_reader__word_s0 x0 y0.2.2) fun y1 => (bif (y1.1 == ([97, 110, 100] : List UInt8)) then (some (.inl ((IntKind.wrap .i64 (y1.2 + (y1.1.length : Int))), (s1.2 ++ ([y0.1] : List St150))))) else (bif (y1.1 == ([111, 114] : List UInt8)) then none else (some (.inr (y1.2, (s1.2 ++ ([y0.1] : List St150)))))))) else none)))) big (x1, ([] : List St150))) fun (s0 : Int × (List St150)) => (bif room ([s0.2] : List (List St150)).length then (some (([s0.2] : List (List St150)), (decide (s0.1 = (x0.length : Int))), s0.1)) else none))
theorem rule_reader__rows_s0_ok {x0 : List UInt8} {x1 : Int} {r : (List (List St150)) × Bool × Int} (h : rule_reader__rows_s0 x0 x1 = some r) : SC Tryz.prog 154 [.ptr 0 0] [.box [.str x0, iL x1]] (.tup [lsv (encL encSt150 4) 1 r.1, .bool r.2.1]) [.box [.str x0, iL r.2.2]] := by
 refine kFn (fn := Tryz.f154) (fun F hFn hFH hFD => ?_)
 unfold rule_reader__rows_s0 at h
 refine kSR ?_
 refine kC 2 [0,2,3] ?_
 refine kEN ?_
 refine K.scope (by kernel_rfl) ?_
 refine kSR ?_
 refine kC 1 [0,2,3,4] ?_
 refine kEN ?_
 refine kSR ?_
 refine kC 1 [0,2,3,4,5] ?_
 refine kEN ?_
 refine kS ?_
 refine K.label (by kernel_rfl) ?_
 refine PJ.next ?_
 obtain ⟨s0, hy0, h0⟩ := bindS h
 refine K.cutN (by kernel_rfl) (fun (s0 : Int × (List St150)) => ([(0, .ptr 0 0), (2, .nl), (3, .bool false), (4, .nl), (5, .vc 1)], [.box [.str x0, iL s0.1], vecL encSt150 4 151 s0.2])) s0 ?_ ?_
 ·refine kb 0 ?_
  refine J.wk (Wk.viv 5 4 151 (by kernel_rfl)) ?_
  refine kl (fun (s1 : Int × (List St150)) => ([(0, .ptr 0 0), (2, .nl), (3, .bool false), (4, .nl), (5, .vc 1)], [.box [.str x0, iL s1.1], vecL encSt150 4 151 s1.2])) hy0 [0, 2, 3, 4, 5] (fun s1 x101 hs0 => ?_)
  refine kb 1 ?_
  refine kSR ?_
  refine kC 1 [0,2,3,4,5,10] ?_
  obtain ⟨y0, hy1, h1⟩ := bindS hs0
  refine kCG (some 11) (args := [.ptr 0 0]) (v := .tup [.agg (encSt150 y0.1), .bool y0.2.1]) (H2 := [.box [.str x0, iL y0.2.2], vecL encSt150 4 151 s1.2]) [0] (rule_reader__relation_s0_ok hy1) ?_
  refine kC 6 [0,2,3,4,5,6,7] ?_
  refine kEN ?_
  refine kS ?_
  refine kSR ?_
  refine kC 2 [0,2,3,4,5,6,15] ?_
  refine kEN ?_
  refine cT 15 h1 (fun h2 => ?_)
  refine kF ?_
  refine kK ?_
  refine PJ.next ?_
  refine kSR ?_
  refine kC 3 [0,2,3,4,5,16,18] ?_
  obtain ⟨hm, h3⟩ := asrt h2
  refine RJ.rel (d := (some 19)) (ef := ⟨.vc 4, [1, 3], [(1, .gone), (4, .vec (s1.2.length + ([y0.1] : List St150).length) 4 151 (s1.2.flatMap encSt150 ++ ([y0.1] : List St150).flatMap encSt150))]⟩) (ef' := ⟨.vc 4, [1, 3], [(1, .gone), (4, vecL encSt150 4 151 (s1.2 ++ ([y0.1] : List St150)))]⟩) (c := room (s1.2.length + ([y0.1] : List St150).length)) (tr2 := []) (H2 := [.box [.str x0, iL y0.2.2], .gone, .box (encSt150 y0.1), vecL encSt150 4 151 ([y0.1] : List St150), vecL encSt150 4 151 (s1.2 ++ ([y0.1] : List St150))]) (by kernel_rfl) hm (fun hc => N.app) (by kernel_rfl) ?_
  refine kC 1 [0,2,3,4,5] ?_
  refine kEN ?_
  refine kSR ?_
  refine kC 1 [0,2,3,4,5,20] ?_
  obtain ⟨y1, hy2, h4⟩ := bindS h3
  refine kCG (some 21) (args := [.ptr 0 0]) (v := .str y1.1) (H2 := [.box [.str x0, iL y1.2], .gone, .box (encSt150 y0.1), vecL encSt150 4 151 ([y0.1] : List St150), vecL encSt150 4 151 (s1.2 ++ ([y0.1] : List St150))]) [0] (rule_reader__word_s0_ok hy2) ?_
  refine kC 1 [0,2,3,4,5,8] ?_
  refine kEN ?_
  refine kSR ?_
  refine kC 1 [0,2,3,4,5,8,22] ?_
  refine kEN ?_
  refine kb 2 ?_
  refine kSR ?_
  refine RJ.seg 2 [0, 2, 3, 4, 5, 8, 22, 23] (L2 := [(0, .ptr 0 0), (2, .nl), (3, .bool false), (4, .nl), (5, .vc 4), (8, .str y1.1), (22, .str y1.1), (23, .bool (y1.1 == ([97, 110, 100] : List UInt8)))]) (H2 := [.box [.str x0, iL y1.2], .gone, .box (encSt150 y0.1), vecL encSt150 4 151 ([y0.1] : List St150), vecL encSt150 4 151 (s1.2 ++ ([y0.1] : List St150))]) (by kernel_rfl) ?_
  refine kEN ?_
  refine kBJ 23 h4 (fun h5 => ?_) (fun h6 => ?_)
  ·refine kT ?_
   refine kR ?_
   refine kC 10 [0,2,3,4,5] ?_
   refine kE ?_
   refine PJ.blockNormal ?_
   refine PJ.blockNormal ?_
   obtain rfl := oi h5
   refine kW (L2 := [(0, .ptr 0 0), (2, .nl), (3, .bool false), (4, .nl), (5, .vc 1)]) (H2 := [.box [.str x0, iL ((IntKind.wrap .i64 (y1.2 + (y1.1.length : Int))))], vecL encSt150 4 151 (s1.2 ++ ([y0.1] : List St150))]) hFH hFD [0, 4] ?_
   exact kLN [0, 2, 3, 4, 5]
  ·refine kF ?_
   refine kSR ?_
   refine kC 2 [0,2,3,4,5,8,34] ?_
   refine kEN ?_
   refine cT 34 h6 (fun h7 => ?_)
   refine kF ?_
   refine K.exit 0 (by kernel_rfl) ?_
   refine PJ.blockPass (by kernel_rfl) ?_
   refine PJ.blockPass (by kernel_rfl) ?_
   obtain rfl := oi h7
   refine PJ.loopOut (fun e => nomatch e) (fun he0 => ?_)
   have h8 := congrArg some he0
   refine PJ.blockOut ?_
   obtain rfl := oi h8
   refine kW (L2 := [(0, .ptr 0 0), (2, .nl), (3, .bool false), (4, .nl), (5, .vc 1)]) (H2 := [.box [.str x0, iL y1.2], vecL encSt150 4 151 (s1.2 ++ ([y0.1] : List St150))]) hFH hFD [0, 4] ?_
   exact kN [0, 2, 3, 4, 5]
 ·refine kS ?_
  refine J.wk (Wk.freeze 1 (n := s0.2.length) (k := 4) (e := 151) (cs := s0.2.flatMap encSt150) (by kernel_rfl)) ?_
  refine J.keep [0, 2, 3, 4, 5] (L2 := [(0, .ptr 0 0), (2, .nl), (3, .bool false), (4, .nl), (5, lsv encSt150 4 s0.2)]) (by kernel_rfl) ?_
  refine K.draw (by kernel_rfl) (by kernel_rfl) (by kernel_rfl) (H2 := [.box [.str x0, iL s0.1], .gone, .res, .res]) (by kernel_rfl) (n := 2) (by kernel_rfl) ?_
  refine kD 3 ?_
  obtain ⟨hm, h9⟩ := asrt h0
  refine RJ.rel (d := (some 52)) (ef' := ⟨.vc 3, [2], [(3, .vec ([s0.2] : List (List St150)).length 1 148 (([s0.2] : List (List St150)).flatMap (encL encSt150 4)))]⟩) (tr2 := [([], []), ([], []), ([], [4, 5, 4, 5]), ([4, 5], [6, 7, 6, 7])]) (H2 := [.box [.str x0, iL s0.1], .gone, vecL (encL encSt150 4) 1 148 ([s0.2] : List (List St150)), vecL (encL encSt150 4) 1 148 ([s0.2] : List (List St150))]) (by kernel_rfl) hm (fun hc => rfl) (by kernel_rfl) ?_
  refine kD 12 ?_
  refine kEN ?_
  refine kX ?_
  refine PJ.scR ?_
  obtain rfl := oi h9
  refine PJ.wk (Wk.freeze 3 (n := ([s0.2] : List (List St150)).length) (k := 1) (e := 148) (cs := ([s0.2] : List (List St150)).flatMap (encL encSt150 4)) (by kernel_rfl)) ?_
  exact kV [0] hFn hFH hFD (v1 := .tup [lsv (encL encSt150 4) 1 ([s0.2] : List (List St150)), .bool ((decide (s0.1 = (x0.length : Int))))])
def rule_tooMany (x0 : List (List St150)) : Option (Bool) :=
 (Option.bind (loopN (fun (s0 : Int × Int) => (bif (decide (s0.2 < (x0.length : Int))) then (Option.bind (bif inR s0.2 x0.length then (loopN (fun (s1 : Int) => (bif (decide (s1 < ((nth x0 s0.2).length : Int))) then (bif inR s1 (nth x0 s0.2).length then (bif (decide (((((nth (nth x0 s0.2) s1).R_).length : Int)) > 20)) then none else (some (.inl (IntKind.wrap .i64 (s1 + 1))))) else none) else (some (.inr ())))) big 0) else none) fun (s3 : Unit) => (some (.inl ((IntKind.wrap .i64 (s0.1 + ((nth x0 s0.2).length : Int))), (IntKind.wrap .i64 (s0.2 + 1)))))) else (some (.inr s0.1)))) big (0, 0)) fun (s2 : Int) => (some (decide (s2 > 20))))
theorem rule_tooMany_ok {x0 : List (List St150)} {r : Bool} (h : rule_tooMany x0 = some r) : SC Tryz.prog 155 [lsv (encL encSt150 4) 1 x0] [] (.bool r) [] := by
 refine kFn (fn := Tryz.f155) (fun F hFn hFH hFD => ?_)
 unfold rule_tooMany at h
 refine kSR ?_
 refine kC 1 [0,2] ?_
 refine kEN ?_
 refine kSR ?_
 refine kC 1 [0,2,3] ?_
 refine kEN ?_
 obtain ⟨s2, hy0, h0⟩ := bindS h
 refine K.cutN (by kernel_rfl) (fun (s2 : Int) => ([(2, .bool false), (3, iL s2)], [])) s2 ?_ ?_
 ·refine kSR ?_
  refine kC 3 [2,3,8,9,10] ?_
  refine kEN ?_
  refine kb 0 ?_
  refine kl (fun (s0 : Int × Int) => ([(2, .bool false), (3, iL s0.1), (8, lsv (encL encSt150 4) 1 x0), (9, iL (x0.length : Int)), (10, iL s0.2)], [])) hy0 [2, 3, 8, 9, 10] (fun s0 x371 hs0 => ?_)
  refine kSR ?_
  refine kC 1 [2,3,8,9,10,11] ?_
  refine kEN ?_
  refine kS ?_
  refine kBJ 11 hs0 (fun h1 => ?_) (fun h2 => ?_)
  ·refine kT ?_
   refine kK ?_
   refine PJ.next ?_
   obtain ⟨s3, hy1, h3⟩ := bindS h1
   refine K.cutN (by kernel_rfl) (fun (s3 : Unit) => ([(2, .bool false), (3, iL ((IntKind.wrap .i64 (s0.1 + ((nth x0 s0.2).length : Int))))), (8, lsv (encL encSt150 4) 1 x0), (9, iL (x0.length : Int)), (10, iL s0.2)], [])) s3 ?_ ?_
   ·refine kb 1 ?_
    refine kSR ?_
    obtain ⟨hm, h4⟩ := asrt hy1
    refine kI 12 (encL_len encSt150 4) hm ?_
    refine kC 2 [2,3,5,8,9,10] ?_
    refine kEN ?_
    refine kSR ?_
    refine kC 5 [2,3,5,8,9,10] ?_
    refine kEN ?_
    refine kSR ?_
    refine kC 3 [2,3,8,9,10,18,19,20] ?_
    refine kEN ?_
    refine kb 2 ?_
    refine kl (fun (s1 : Int) => ([(2, .bool false), (3, iL ((IntKind.wrap .i64 (s0.1 + ((nth x0 s0.2).length : Int))))), (8, lsv (encL encSt150 4) 1 x0), (9, iL (x0.length : Int)), (10, iL s0.2), (18, lsv encSt150 4 (nth x0 s0.2)), (19, iL ((nth x0 s0.2).length : Int)), (20, iL s1)], [])) h4 [2, 3, 8, 9, 10, 18, 19, 20] (fun s1 x432 hs1 => ?_)
    refine kSR ?_
    refine kC 1 [2,3,8,9,10,18,19,20,21] ?_
    refine kEN ?_
    refine kS ?_
    refine kBJ 21 hs1 (fun h5 => ?_) (fun h6 => ?_)
    ·refine kT ?_
     refine kK ?_
     refine PJ.next ?_
     refine kS ?_
     refine kb 3 ?_
     refine kSR ?_
     obtain ⟨hm, h7⟩ := asrt h5
     refine kI 22 encSt150_len hm ?_
     refine kC 3 [2,3,7,8,9,10,18,19,20] ?_
     refine kEN ?_
     refine kSR ?_
     refine kC 4 [2,3,8,9,10,18,19,20,27] ?_
     refine kEN ?_
     refine cT 27 h7 (fun h8 => ?_)
     refine kF ?_
     refine kK ?_
     refine PJ.blockNormal ?_
     refine PJ.next ?_
     refine kR ?_
     refine kC 2 [2,3,8,9,10,18,19,20] ?_
     refine kE ?_
     obtain rfl := oi h8
     refine kW (L2 := [(2, .bool false), (3, iL ((IntKind.wrap .i64 (s0.1 + ((nth x0 s0.2).length : Int))))), (8, lsv (encL encSt150 4) 1 x0), (9, iL (x0.length : Int)), (10, iL s0.2), (18, lsv encSt150 4 (nth x0 s0.2)), (19, iL ((nth x0 s0.2).length : Int)), (20, iL (IntKind.wrap .i64 (s1 + 1)))]) (H2 := []) hFH hFD [] ?_
     exact kLN [2, 3, 8, 9, 10, 18, 19, 20]
    ·refine kF ?_
     refine K.exit 2 (by kernel_rfl) ?_
     refine PJ.passExit ?_
     obtain rfl := oi h6
     refine PJ.loopOut (fun e => nomatch e) (fun he0 => ?_)
     have h9 := congrArg some he0
     refine PJ.blockOut ?_
     refine PJ.blockNormal ?_
     obtain rfl := oi h9
     exact kN [2, 3, 8, 9, 10]
   ·refine kR ?_
    refine kC 2 [2,3,8,9,10] ?_
    refine kE ?_
    obtain rfl := oi h3
    exact kLN [2, 3, 8, 9, 10]
  ·refine kF ?_
   refine K.exit 0 (by kernel_rfl) ?_
   refine PJ.passExit ?_
   obtain rfl := oi h2
   refine PJ.loopOut (fun e => nomatch e) (fun he1 => ?_)
   have h10 := congrArg some he1
   refine PJ.blockOut ?_
   obtain rfl := oi h10
   exact kN [2, 3]
 ·refine kSR ?_
  refine kC 3 [2] ?_
  refine kEN ?_
  refine kX ?_
  obtain rfl := oi h0
  exact kZ hFn hFH hFD
def rule_Parse (x0 : List UInt8) : Option ((List (List St150)) × Int × Int) :=
 (bif (decide ((x0.length : Int) > 400)) then none else (Option.bind (rule_reader__rows_s0 x0 0) fun y0 => (bif (!y0.2.1) then none else (Option.bind (rule_tooMany y0.1) fun y1 => (bif y1 then none else (some (y0.1, 0, 0)))))))
theorem rule_Parse_ok {x0 : List UInt8} {r : (List (List St150)) × Int × Int} (h : rule_Parse x0 = some r) : SC Tryz.prog 131 [.str x0] [] (.tup [lsv (encL encSt150 4) 1 r.1, iL r.2.1, iL r.2.2]) [] := by
 refine kFn (fn := Tryz.f131) (fun F hFn hFH hFD => ?_)
 unfold rule_Parse at h
 refine kSR ?_
 refine kC 3 [0,2,3,4] ?_
 refine kEN ?_
 refine kS ?_
 refine kSR ?_
 refine kC 3 [0,2,3,4,10] ?_
 refine kEN ?_
 refine cT 10 h (fun h0 => ?_)
 refine kF ?_
 refine kK ?_
 refine PJ.next ?_
 refine kSR ?_
 refine kC 4 [2,3,4,5] ?_
 refine kEN ?_
 refine kSR ?_
 refine kC 1 [2,3,4,5,15] ?_
 obtain ⟨y0, hy0, h1⟩ := bindS h0
 refine kCG (some 16) (args := [.ptr 0 0]) (v := .tup [lsv (encL encSt150 4) 1 y0.1, .bool y0.2.1]) (H2 := [.box [.str x0, iL y0.2.2]]) [0] (rule_reader__rows_s0_ok hy0) ?_
 refine kC 5 [2,3,4,5,6,7] ?_
 refine kEN ?_
 refine kS ?_
 refine kSR ?_
 refine kC 2 [2,3,4,5,6,20] ?_
 refine kEN ?_
 refine cT 20 h1 (fun h2 => ?_)
 refine kF ?_
 refine kK ?_
 refine PJ.next ?_
 refine kS ?_
 refine kSR ?_
 refine kC 1 [2,3,4,6,25] ?_
 obtain ⟨y1, hy1, h3⟩ := bindS h2
 refine kA 26 (rule_tooMany_ok hy1) ?_
 refine kEN ?_
 refine cT 26 h3 (fun h4 => ?_)
 refine kF ?_
 refine kK ?_
 refine PJ.next ?_
 refine kSR ?_
 refine kC 4 [2,3,4] ?_
 refine kEN ?_
 refine kX ?_
 obtain rfl := oi h4
 exact kZ hFn hFH hFD
def strconv_small (x0 : Int) : Option (List UInt8) :=
 (bif (decide (x0 < 10)) then (bif inS x0 (IntKind.wrap .i64 (x0 + 1)) ([48, 49, 50, 51, 52, 53, 54, 55, 56, 57, 97, 98, 99, 100, 101, 102, 103, 104, 105, 106, 107, 108, 109, 110, 111, 112, 113, 114, 115, 116, 117, 118, 119, 120, 121, 122] : List UInt8).length then (some (cut ([48, 49, 50, 51, 52, 53, 54, 55, 56, 57, 97, 98, 99, 100, 101, 102, 103, 104, 105, 106, 107, 108, 109, 110, 111, 112, 113, 114, 115, 116, 117, 118, 119, 120, 121, 122] : List UInt8) x0 (IntKind.wrap .i64 (x0 + 1)))) else none) else none)
theorem strconv_small_ok {x0 : Int} {r : List UInt8} (h : strconv_small x0 = some r) : SC Tryz.prog 216 [iL x0] [] (.str r) [] := by
 refine kFn (fn := Tryz.f216) (fun F hFn hFH hFD => ?_)
 unfold strconv_small at h
 refine kSR ?_
 refine kC 1 [0,2] ?_
 refine kEN ?_
 refine kS ?_
 refine kSR ?_
 refine kC 2 [0,2,4] ?_
 refine kEN ?_
 refine cF 4 h (fun h0 => ?_)
 refine kT ?_
 refine kSR ?_
 refine kC 3 [0,2,5,7] ?_
 obtain ⟨hm, h1⟩ := asrt h0
 refine kQ 8 (.str (cut ([48, 49, 50, 51, 52, 53, 54, 55, 56, 57, 97, 98, 99, 100, 101, 102, 103, 104, 105, 106, 107, 108, 109, 110, 111, 112, 113, 114, 115, 116, 117, 118, 119, 120, 121, 122] : List UInt8) x0 (IntKind.wrap .i64 (x0 + 1)))) [] (tr2 := []) hm ?_
 refine kC 1 [0,2] ?_
 refine kEN ?_
 refine kX ?_
 refine PJ.passRet ?_
 obtain rfl := oi h1
 exact kZ hFn hFH hFD
def strconv_AppendUint (x0 : List Int) (x1 : Int) (x2 : Int) : Option (List Int) :=
 (bif (decide (x2 = 10)) then (bif (decide (x1 < 100)) then (Option.bind (strconv_small (IntKind.wrap .i64 x1)) fun y0 => (bif room (x0.length + y0.length) then (some (x0 ++ (bytesI y0))) else none)) else none) else none)
theorem strconv_AppendUint_ok_0o {x0 : List Int} {x1 : Int} {x2 : Int} {r : List Int} (h : strconv_AppendUint x0 x1 x2 = some r) : SC Tryz.prog 213 [.vc 0, .int .u64 x1, iL x2] [vecL (encI .u8) 1 5 x0] (.vc 1) [.gone, vecL (encI .u8) 1 5 r] := by
 refine kFn (fn := Tryz.f213) (fun F hFn hFH hFD => ?_)
 unfold strconv_AppendUint at h
 refine kSR ?_
 refine kC 1 [0,1,2,6] ?_
 refine kEN ?_
 refine kS ?_
 refine kSR ?_
 refine kC 2 [0,1,2,6,10] ?_
 refine kEN ?_
 refine cF 10 h (fun h0 => ?_)
 refine kT ?_
 refine kS ?_
 refine kSR ?_
 refine kC 2 [0,1,2,6,12] ?_
 refine kEN ?_
 refine cF 12 h0 (fun h1 => ?_)
 refine kT ?_
 refine kSR ?_
 refine kC 3 [0,1,2,6,13,15] ?_
 obtain ⟨y0, hy0, h2⟩ := bindS h1
 refine kA 16 (strconv_small_ok hy0) ?_
 obtain ⟨hm, h3⟩ := asrt h2
 refine RJ.rel (d := (some 17)) (ef := ⟨.vc 1, [0], [(0, .gone), (1, .vec (x0.length + y0.length) 1 5 (x0.flatMap (encI .u8) ++ y0.map byteSV))]⟩) (ef' := ⟨.vc 1, [0], [(0, .gone), (1, vecL (encI .u8) 1 5 (x0 ++ (bytesI y0)))]⟩) (c := roomB (x0.length + y0.length)) (tr2 := []) (H2 := [.gone, vecL (encI .u8) 1 5 (x0 ++ (bytesI y0))]) (by kernel_rfl) (roomB_of_room hm) (fun hc => (by rw [bytes_eq, ← bytesI_len y0]; exact N.app)) (by kernel_rfl) ?_
 refine kC 1 [0,1,2,6] ?_
 refine kEN ?_
 refine kX ?_
 refine PJ.passRet ?_
 refine PJ.passRet ?_
 obtain rfl := oi h3
 exact kV [0, 1] hFn hFH hFD (v1 := .vc 1)
def strconv_AppendInt_208 (x0 : List Int) (x1 : Int) (x2 : Int) : Option (List Int) :=
 (Option.bind (bif (decide (x1 < 0)) then none else (some ())) fun (s0 : Unit) => (Option.bind (strconv_AppendUint x0 (IntKind.wrap .u64 x1) x2) fun y0 => (some y0)))
theorem strconv_AppendInt_208_ok_0o {x0 : List Int} {x1 : Int} {x2 : Int} {r : List Int} (h : strconv_AppendInt_208 x0 x1 x2 = some r) : SC Tryz.prog 208 [.vc 0, iL x1, iL x2] [vecL (encI .u8) 1 5 x0] (.vc 1) [.gone, vecL (encI .u8) 1 5 r] := by
 refine kFn (fn := Tryz.f208) (fun F hFn hFH hFD => ?_)
 unfold strconv_AppendInt_208 at h
 refine kSR ?_
 refine kC 1 [0,1,2,6] ?_
 refine kEN ?_
 refine kSR ?_
 refine kC 3 [0,1,2,6,7] ?_
 refine kEN ?_
 obtain ⟨s0, hy0, h0⟩ := bindS h
 refine K.cutN (by kernel_rfl) (fun (s0 : Unit) => ([(0, .vc 0), (2, iL x2), (6, .nl), (7, .int .u64 (IntKind.wrap .u64 x1))], [vecL (encI .u8) 1 5 x0])) s0 ?_ ?_
 ·refine kSR ?_
  refine kC 2 [0,2,6,7,11] ?_
  refine kEN ?_
  refine cT 11 hy0 (fun h1 => ?_)
  refine kF ?_
  refine kK ?_
  obtain rfl := oi h1
  exact kN [0, 2, 6, 7]
 ·refine kSR ?_
  refine kC 3 [6,17,18,19] ?_
  obtain ⟨y0, hy1, h2⟩ := bindS h0
  refine kCG (some 20) (args := [.vc 0, .int .u64 (IntKind.wrap .u64 x1), iL x2]) (v := .vc 1) (H2 := [.gone, vecL (encI .u8) 1 5 y0]) [0] (strconv_AppendUint_ok_0o hy1) ?_
  refine kC 1 [6] ?_
  refine kEN ?_
  refine kX ?_
  obtain rfl := oi h2
  exact kV [0, 1] hFn hFH hFD (v1 := .vc 1)
def strconv_AppendInt (x0 : List Int) (x1 : Int) (x2 : Int) : Option (List Int) :=
 (Option.bind (strconv_AppendInt_208 x0 x1 x2) fun y0 => (some y0))
theorem strconv_AppendInt_ok_0o {x0 : List Int} {x1 : Int} {x2 : Int} {r : List Int} (h : strconv_AppendInt x0 x1 x2 = some r) : SC Tryz.prog 198 [.vc 0, iL x1, iL x2] [vecL (encI .u8) 1 5 x0] (.vc 1) [.gone, vecL (encI .u8) 1 5 r] := by
 refine kFn (fn := Tryz.f198) (fun F hFn hFH hFD => ?_)
 unfold strconv_AppendInt at h
 refine kSR ?_
 refine kC 1 [0,1,2,6] ?_
 refine kEN ?_
 refine kSR ?_
 refine kC 3 [6,7,8,9] ?_
 obtain ⟨y0, hy0, h0⟩ := bindS h
 refine kCG (some 10) (args := [.vc 0, iL x1, iL x2]) (v := .vc 1) (H2 := [.gone, vecL (encI .u8) 1 5 y0]) [0] (strconv_AppendInt_208_ok_0o hy0) ?_
 refine kC 1 [6] ?_
 refine kEN ?_
 refine kX ?_
 obtain rfl := oi h0
 exact kV [0, 1] hFn hFH hFD (v1 := .vc 1)
def rule_relation (x0 : List Int) (x1 : St150) : Option (List Int) :=
 (bif room (x0.length + ([x1.Op_] : List Int).length) then (Option.bind (bif (decide (¬ x1.Mod_ = 0)) then none else (some ())) fun (s3 : Unit) => (Option.bind (bif x1.Not_ then none else (bif room ((x0 ++ ([x1.Op_] : List Int)).length + ([32, 61, 32] : List UInt8).length) then (some ()) else none)) fun (s4 : Unit) => (Option.bind (loopN (fun (s0 : Int × (List Int)) => (bif (decide (s0.1 < (x1.R_.length : Int))) then (Option.bind (bif inR s0.1 x1.R_.length then (Option.bind (bif (decide (s0.1 > 0)) then none else (some ())) fun (s5 : Unit) => (Option.bind (strconv_AppendInt s0.2 ((nth x1.R_ s0.1).a0_) 10) fun y0 => (bif (decide (¬ ((nth x1.R_ s0.1).a0_) = ((nth x1.R_ s0.1).a1_))) then none else (some y0)))) else none) fun (s1 : (List Int)) => (some (.inl ((IntKind.wrap .i64 (s0.1 + 1)), s1)))) else (some (.inr s0.2)))) big (0, ((x0 ++ ([x1.Op_] : List Int)) ++ (bytesI ([32, 61, 32] : List UInt8))))) fun (s2 : (List Int)) => (some s2)))) else none)
theorem rule_relation_ok_0o {x0 : List Int} {x1 : St150} {r : List Int} (h : rule_relation x0 x1 = some r) : SC Tryz.prog 176 [.vc 0, .agg (encSt150 x1)] [vecL (encI .u8) 1 5 x0] (.vc 1) [.gone, vecL (encI .u8) 1 5 r] := by
 refine kFn (fn := Tryz.f176) (fun F hFn hFH hFD => ?_)
 unfold rule_relation at h
 refine kSR ?_
 refine kC 2 [0,3,4] ?_
 refine kEN ?_
 refine kSR ?_
 refine kC 4 [0,3,4,7,10] ?_
 obtain ⟨hm, h0⟩ := asrt h
 refine RJ.rel (d := (some 11)) (ef := ⟨.vc 3, [0, 2], [(0, .gone), (3, .vec (x0.length + ([x1.Op_] : List Int).length) 1 5 (x0.flatMap (encI .u8) ++ ([x1.Op_] : List Int).flatMap (encI .u8)))]⟩) (ef' := ⟨.vc 3, [0, 2], [(0, .gone), (3, vecL (encI .u8) 1 5 (x0 ++ ([x1.Op_] : List Int)))]⟩) (c := roomB (x0.length + ([x1.Op_] : List Int).length)) (tr2 := []) (H2 := [.gone, .box (encSt150 x1), vecL (encI .u8) 1 5 ([x1.Op_] : List Int), vecL (encI .u8) 1 5 (x0 ++ ([x1.Op_] : List Int))]) (by kernel_rfl) (roomB_of_room hm) (fun hc => N.app) (by kernel_rfl) ?_
 refine kC 1 [0,3,4] ?_
 refine kEN ?_
 obtain ⟨s3, hy0, h1⟩ := bindS h0
 refine K.cutN (by kernel_rfl) (fun (s3 : Unit) => ([(0, .vc 1), (3, .ptr 2 0), (4, .nl)], [.gone, vecL (encI .u8) 1 5 (x0 ++ ([x1.Op_] : List Int)), .box (encSt150 x1)])) s3 ?_ ?_
 ·refine kSR ?_
  refine kC 3 [0,3,4,14] ?_
  refine kEN ?_
  refine cT 14 hy0 (fun h2 => ?_)
  refine kF ?_
  refine kK ?_
  obtain rfl := oi h2
  refine kW (L2 := [(0, .vc 1), (3, .ptr 2 0), (4, .nl)]) (H2 := [.gone, vecL (encI .u8) 1 5 (x0 ++ ([x1.Op_] : List Int)), .box (encSt150 x1)]) hFH hFD [0, 3, 1] ?_
  exact kN [0, 3, 4]
 ·obtain ⟨s4, hy1, h3⟩ := bindS h1
  refine K.cutN (by kernel_rfl) (fun (s4 : Unit) => ([(0, .vc 1), (3, .ptr 2 0), (4, .nl)], [.gone, vecL (encI .u8) 1 5 (((x0 ++ ([x1.Op_] : List Int)) ++ (bytesI ([32, 61, 32] : List UInt8)))), .box (encSt150 x1)])) s4 ?_ ?_
  ·refine kSR ?_
   refine kC 2 [0,3,4,22] ?_
   refine kEN ?_
   refine cT 22 hy1 (fun h4 => ?_)
   refine kF ?_
   refine kR ?_
   refine kC 1 [0,3,4,25] ?_
   obtain ⟨hm, h5⟩ := asrt h4
   refine RJ.rel (d := (some 26)) (ef := ⟨.vc 3, [1], [(1, .gone), (3, .vec ((x0 ++ ([x1.Op_] : List Int)).length + ([32, 61, 32] : List UInt8).length) 1 5 ((x0 ++ ([x1.Op_] : List Int)).flatMap (encI .u8) ++ ([32, 61, 32] : List UInt8).map byteSV))]⟩) (ef' := ⟨.vc 3, [1], [(1, .gone), (3, vecL (encI .u8) 1 5 ((x0 ++ ([x1.Op_] : List Int)) ++ (bytesI ([32, 61, 32] : List UInt8))))]⟩) (c := roomB ((x0 ++ ([x1.Op_] : List Int)).length + ([32, 61, 32] : List UInt8).length)) (tr2 := []) (H2 := [.gone, .gone, .box (encSt150 x1), vecL (encI .u8) 1 5 (((x0 ++ ([x1.Op_] : List Int)) ++ (bytesI ([32, 61, 32] : List UInt8))))]) (by kernel_rfl) (roomB_of_room hm) (fun hc => (by rw [bytes_eq, ← bytesI_len ([32, 61, 32] : List UInt8)]; exact N.app)) (by kernel_rfl) ?_
   refine kC 1 [0,3,4] ?_
   refine kE ?_
   obtain rfl := oi h5
   refine kW (L2 := [(0, .vc 1), (3, .ptr 2 0), (4, .nl)]) (H2 := [.gone, vecL (encI .u8) 1 5 (((x0 ++ ([x1.Op_] : List Int)) ++ (bytesI ([32, 61, 32] : List UInt8)))), .box (encSt150 x1)]) hFH hFD [0, 3, 2] ?_
   exact kN [0, 3, 4]
  ·obtain ⟨s2, hy2, h6⟩ := bindS h3
   refine K.cutN (by kernel_rfl) (fun (s2 : (List Int)) => ([(0, .vc 1), (4, .nl)], [.gone, vecL (encI .u8) 1 5 s2])) s2 ?_ ?_
   ·refine kSR ?_
    refine kC 4 [0,4,28,29,30] ?_
    refine kEN ?_
    refine kb 0 ?_
    refine J.wk (Wk.sel (L2 := [(0, .vc 1), (4, .nl), (28, lsv encSt185 2 x1.R_), (29, iL (x1.R_.length : Int)), (30, iL 0)]) (H2 := [.gone, vecL (encI .u8) 1 5 (((x0 ++ ([x1.Op_] : List Int)) ++ (bytesI ([32, 61, 32] : List UInt8))))]) 1 (by rw [hFH]; rfl) hFD [0, 1] (by kernel_rfl) (by kernel_rfl) (by decide) (by kernel_rfl) (by kernel_rfl) (by kernel_rfl) (by kernel_rfl)) ?_
    refine kl (fun (s0 : Int × (List Int)) => ([(0, .vc 1), (4, .nl), (28, lsv encSt185 2 x1.R_), (29, iL (x1.R_.length : Int)), (30, iL s0.1)], [.gone, vecL (encI .u8) 1 5 s0.2])) hy2 [0, 4, 28, 29, 30] (fun s0 x266 hs0 => ?_)
    refine kSR ?_
    refine kC 1 [0,4,28,29,30,31] ?_
    refine kEN ?_
    refine kS ?_
    refine kBJ 31 hs0 (fun h7 => ?_) (fun h8 => ?_)
    ·refine kT ?_
     refine kK ?_
     refine PJ.next ?_
     obtain ⟨s1, hy3, h9⟩ := bindS h7
     refine K.cutN (by kernel_rfl) (fun (s1 : (List Int)) => ([(0, .vc 1), (4, .nl), (28, lsv encSt185 2 x1.R_), (29, iL (x1.R_.length : Int)), (30, iL s0.1)], [.gone, vecL (encI .u8) 1 5 s1])) s1 ?_ ?_
     ·refine kb 1 ?_
      refine kSR ?_
      refine kC 1 [0,4,28,29,30,32] ?_
      obtain ⟨hm, h10⟩ := asrt hy3
      refine kI 33 encSt185_len hm ?_
      refine kC 4 [0,4,5,6,28,29,30] ?_
      refine kEN ?_
      obtain ⟨s5, hy4, h11⟩ := bindS h10
      refine K.cutN (by kernel_rfl) (fun (s5 : Unit) => ([(0, .vc 1), (4, .nl), (6, .ptr 2 0), (28, lsv encSt185 2 x1.R_), (29, iL (x1.R_.length : Int)), (30, iL s0.1)], [.gone, vecL (encI .u8) 1 5 s0.2, .box [iL ((nth x1.R_ s0.1).a0_), iL ((nth x1.R_ s0.1).a1_)]])) s5 ?_ ?_
      ·refine kSR ?_
       refine kC 2 [0,4,6,28,29,30,36] ?_
       refine kEN ?_
       refine cT 36 hy4 (fun h12 => ?_)
       refine kF ?_
       refine kK ?_
       obtain rfl := oi h12
       exact kN [0, 4, 6, 28, 29, 30]
      ·refine kSR ?_
       refine kC 3 [0,4,6,28,29,30,40,42] ?_
       obtain ⟨y0, hy5, h13⟩ := bindS h11
       refine kCG (some 43) (args := [.vc 1, iL ((nth x1.R_ s0.1).a0_), iL 10]) (v := .vc 3) (H2 := [.gone, .gone, .box [iL ((nth x1.R_ s0.1).a0_), iL ((nth x1.R_ s0.1).a1_)], vecL (encI .u8) 1 5 y0]) [1] (strconv_AppendInt_ok_0o hy5) ?_
       refine kC 1 [0,4,6,28,29,30] ?_
       refine kEN ?_
       refine kSR ?_
       refine kC 5 [0,4,6,28,29,30,48] ?_
       refine kEN ?_
       refine cT 48 h13 (fun h14 => ?_)
       refine kF ?_
       refine kK ?_
       refine PJ.blockNormal ?_
       obtain rfl := oi h14
       refine kW (L2 := [(0, .vc 1), (4, .nl), (28, lsv encSt185 2 x1.R_), (29, iL (x1.R_.length : Int)), (30, iL s0.1)]) (H2 := [.gone, vecL (encI .u8) 1 5 y0]) hFH hFD [0, 3] ?_
       exact kN [0, 4, 28, 29, 30]
     ·refine kR ?_
      refine kC 2 [0,4,28,29,30] ?_
      refine kE ?_
      obtain rfl := oi h9
      exact kLN [0, 4, 28, 29, 30]
    ·refine kF ?_
     refine K.exit 0 (by kernel_rfl) ?_
     refine PJ.passExit ?_
     obtain rfl := oi h8
     refine PJ.loopOut (fun e => nomatch e) (fun he0 => ?_)
     have h15 := congrArg some he0
     refine PJ.blockOut ?_
     obtain rfl := oi h15
     exact kN [0, 4]
   ·refine kSR ?_
    refine kC 2 [4] ?_
    refine kEN ?_
    refine kX ?_
    obtain rfl := oi h6
    exact kV [0, 1] hFn hFH hFD (v1 := .vc 1)
def rule_Text (x0 : List (List St150)) : Option (List UInt8) :=
 (Option.bind (loopN (fun (s0 : Int × (List Int)) => (bif (decide (s0.1 < (x0.length : Int))) then (Option.bind (bif inR s0.1 x0.length then (loopN (fun (s1 : Int × (List Int)) => (bif (decide (s1.1 < ((nth x0 s0.1).length : Int))) then (Option.bind (bif inR s1.1 (nth x0 s0.1).length then (Option.bind (bif (decide ((s1.2.length : Int) = 0)) then (some s1.2) else (bif (decide (s1.1 = 0)) then none else (bif room (s1.2.length + ([32, 97, 110, 100, 32] : List UInt8).length) then (some ((s1.2 ++ (bytesI ([32, 97, 110, 100, 32] : List UInt8))))) else none))) fun (s3 : (List Int)) => (Option.bind (rule_relation s3 (nth (nth x0 s0.1) s1.1)) fun y0 => (some y0))) else none) fun (s4 : (List Int)) => (some (.inl ((IntKind.wrap .i64 (s1.1 + 1)), s4)))) else (some (.inr s1.2)))) big (0, s0.2)) else none) fun (s5 : (List Int)) => (some (.inl ((IntKind.wrap .i64 (s0.1 + 1)), s5)))) else (some (.inr s0.2)))) big (0, ([] : List Int))) fun (s2 : (List Int)) => (some (bytesS s2)))
theorem rule_Text_ok {x0 : List (List St150)} {r : List UInt8} (h : rule_Text x0 = some r) : SC Tryz.prog 156 [lsv (encL encSt150 4) 1 x0] [] (.str r) [] := by
 refine kFn (fn := Tryz.f156) (fun F hFn hFH hFD => ?_)
 unfold rule_Text at h
 refine kSR ?_
 refine kC 1 [0,2] ?_
 refine kEN ?_
 refine kSR ?_
 refine kC 1 [0,2,3] ?_
 refine kEN ?_
 obtain ⟨s2, hy0, h0⟩ := bindS h
 refine K.cutN (by kernel_rfl) (fun (s2 : (List Int)) => ([(2, .str ([] : List UInt8)), (3, .vc 0)], [vecL (encI .u8) 1 5 s2])) s2 ?_ ?_
 ·refine kSR ?_
  refine kC 3 [2,3,8,9,10] ?_
  refine kEN ?_
  refine kb 0 ?_
  refine J.wk (Wk.viv 3 1 5 (by kernel_rfl)) ?_
  refine kl (fun (s0 : Int × (List Int)) => ([(2, .str ([] : List UInt8)), (3, .vc 0), (8, lsv (encL encSt150 4) 1 x0), (9, iL (x0.length : Int)), (10, iL s0.1)], [vecL (encI .u8) 1 5 s0.2])) hy0 [2, 3, 8, 9, 10] (fun s0 x1781 hs0 => ?_)
  refine kSR ?_
  refine kC 1 [2,3,8,9,10,11] ?_
  refine kEN ?_
  refine kS ?_
  refine kBJ 11 hs0 (fun h1 => ?_) (fun h2 => ?_)
  ·refine kT ?_
   refine kK ?_
   refine PJ.next ?_
   obtain ⟨s5, hy1, h3⟩ := bindS h1
   refine K.cutN (by kernel_rfl) (fun (s5 : (List Int)) => ([(2, .str ([] : List UInt8)), (3, .vc 0), (8, lsv (encL encSt150 4) 1 x0), (9, iL (x0.length : Int)), (10, iL s0.1)], [vecL (encI .u8) 1 5 s5])) s5 ?_ ?_
   ·refine kb 1 ?_
    refine kSR ?_
    obtain ⟨hm, h4⟩ := asrt hy1
    refine kI 12 (encL_len encSt150 4) hm ?_
    refine kC 2 [2,3,5,8,9,10] ?_
    refine kEN ?_
    refine kSR ?_
    refine kC 3 [2,3,8,9,10,14,15,16] ?_
    refine kEN ?_
    refine kb 2 ?_
    refine kl (fun (s1 : Int × (List Int)) => ([(2, .str ([] : List UInt8)), (3, .vc 0), (8, lsv (encL encSt150 4) 1 x0), (9, iL (x0.length : Int)), (10, iL s0.1), (14, lsv encSt150 4 (nth x0 s0.1)), (15, iL ((nth x0 s0.1).length : Int)), (16, iL s1.1)], [vecL (encI .u8) 1 5 s1.2])) h4 [2, 3, 8, 9, 10, 14, 15, 16] (fun s1 x2077 hs1 => ?_)
    refine kSR ?_
    refine kC 1 [2,3,8,9,10,14,15,16,17] ?_
    refine kEN ?_
    refine kS ?_
    refine kBJ 17 hs1 (fun h5 => ?_) (fun h6 => ?_)
    ·refine kT ?_
     refine kK ?_
     refine PJ.next ?_
     obtain ⟨s4, hy2, h7⟩ := bindS h5
     refine K.cutN (by kernel_rfl) (fun (s4 : (List Int)) => ([(2, .str ([] : List UInt8)), (3, .vc 0), (8, lsv (encL encSt150 4) 1 x0), (9, iL (x0.length : Int)), (10, iL s0.1), (14, lsv encSt150 4 (nth x0 s0.1)), (15, iL ((nth x0 s0.1).length : Int)), (16, iL s1.1)], [vecL (encI .u8) 1 5 s4])) s4 ?_ ?_
     ·refine kb 3 ?_
      refine kSR ?_
      refine kC 1 [2,3,8,9,10,14,15,16,18] ?_
      obtain ⟨hm, h8⟩ := asrt hy2
      refine kI 19 encSt150_len hm ?_
      refine kC 4 [2,3,6,7,8,9,10,14,15,16] ?_
      refine kEN ?_
      obtain ⟨s3, hy3, h9⟩ := bindS h8
      refine K.cutN (by kernel_rfl) (fun (s3 : (List Int)) => ([(2, .str ([] : List UInt8)), (3, .vc 0), (7, .ptr 1 0), (8, lsv (encL encSt150 4) 1 x0), (9, iL (x0.length : Int)), (10, iL s0.1), (14, lsv encSt150 4 (nth x0 s0.1)), (15, iL ((nth x0 s0.1).length : Int)), (16, iL s1.1)], [vecL (encI .u8) 1 5 s3, .box [.int .u8 ((nth (nth x0 s0.1) s1.1).Op_), iL ((nth (nth x0 s0.1) s1.1).Mod_), .bool ((nth (nth x0 s0.1) s1.1).Not_), lsv encSt185 2 ((nth (nth x0 s0.1) s1.1).R_)]])) s3 ?_ ?_
      ·refine kb 4 ?_
       refine kSR ?_
       refine kC 4 [2,3,6,7,8,9,10,14,15,16,23] ?_
       refine kEN ?_
       refine kBJ 23 hy3 (fun h10 => ?_) (fun h11 => ?_)
       ·refine kT ?_
        refine kK ?_
        refine PJ.blockNormal ?_
        obtain rfl := oi h10
        exact kN [2, 3, 7, 8, 9, 10, 14, 15, 16]
       ·refine kF ?_
        refine kSR ?_
        refine kC 3 [2,3,7,8,9,10,14,15,16,27] ?_
        refine kEN ?_
        refine cT 27 h11 (fun h12 => ?_)
        refine kF ?_
        refine kR ?_
        refine kC 1 [2,3,7,8,9,10,14,15,16,21] ?_
        obtain ⟨hm, h13⟩ := asrt h12
        refine RJ.rel (d := (some 22)) (ef := ⟨.vc 2, [0], [(0, .gone), (2, .vec (s1.2.length + ([32, 97, 110, 100, 32] : List UInt8).length) 1 5 (s1.2.flatMap (encI .u8) ++ ([32, 97, 110, 100, 32] : List UInt8).map byteSV))]⟩) (ef' := ⟨.vc 2, [0], [(0, .gone), (2, vecL (encI .u8) 1 5 (s1.2 ++ (bytesI ([32, 97, 110, 100, 32] : List UInt8))))]⟩) (c := roomB (s1.2.length + ([32, 97, 110, 100, 32] : List UInt8).length)) (tr2 := []) (H2 := [.gone, .box [.int .u8 ((nth (nth x0 s0.1) s1.1).Op_), iL ((nth (nth x0 s0.1) s1.1).Mod_), .bool ((nth (nth x0 s0.1) s1.1).Not_), lsv encSt185 2 ((nth (nth x0 s0.1) s1.1).R_)], vecL (encI .u8) 1 5 ((s1.2 ++ (bytesI ([32, 97, 110, 100, 32] : List UInt8))))]) (by kernel_rfl) (roomB_of_room hm) (fun hc => (by rw [bytes_eq, ← bytesI_len ([32, 97, 110, 100, 32] : List UInt8)]; exact N.app)) (by kernel_rfl) ?_
        refine kC 1 [2,3,7,8,9,10,14,15,16] ?_
        refine kE ?_
        refine PJ.blockNormal ?_
        obtain rfl := oi h13
        refine kW (L2 := [(2, .str ([] : List UInt8)), (3, .vc 0), (7, .ptr 1 0), (8, lsv (encL encSt150 4) 1 x0), (9, iL (x0.length : Int)), (10, iL s0.1), (14, lsv encSt150 4 (nth x0 s0.1)), (15, iL ((nth x0 s0.1).length : Int)), (16, iL s1.1)]) (H2 := [vecL (encI .u8) 1 5 ((s1.2 ++ (bytesI ([32, 97, 110, 100, 32] : List UInt8)))), .box [.int .u8 ((nth (nth x0 s0.1) s1.1).Op_), iL ((nth (nth x0 s0.1) s1.1).Mod_), .bool ((nth (nth x0 s0.1) s1.1).Not_), lsv encSt185 2 ((nth (nth x0 s0.1) s1.1).R_)]]) hFH hFD [2, 1] ?_
        exact kN [2, 3, 7, 8, 9, 10, 14, 15, 16]
      ·refine kR ?_
       refine kC 2 [2,3,8,9,10,14,15,16,32,33] ?_
       obtain ⟨y0, hy4, h14⟩ := bindS h9
       refine kCG (some 34) (args := [.vc 0, .agg [.int .u8 ((nth (nth x0 s0.1) s1.1).Op_), iL ((nth (nth x0 s0.1) s1.1).Mod_), .bool ((nth (nth x0 s0.1) s1.1).Not_), lsv encSt185 2 ((nth (nth x0 s0.1) s1.1).R_)]]) (v := .vc 2) (H2 := [.gone, .box [.int .u8 ((nth (nth x0 s0.1) s1.1).Op_), iL ((nth (nth x0 s0.1) s1.1).Mod_), .bool ((nth (nth x0 s0.1) s1.1).Not_), lsv encSt185 2 ((nth (nth x0 s0.1) s1.1).R_)], vecL (encI .u8) 1 5 y0]) [0] (rule_relation_ok_0o hy4) ?_
       refine kC 1 [2,3,8,9,10,14,15,16] ?_
       refine kE ?_
       refine PJ.blockNormal ?_
       obtain rfl := oi h14
       refine kW (L2 := [(2, .str ([] : List UInt8)), (3, .vc 0), (8, lsv (encL encSt150 4) 1 x0), (9, iL (x0.length : Int)), (10, iL s0.1), (14, lsv encSt150 4 (nth x0 s0.1)), (15, iL ((nth x0 s0.1).length : Int)), (16, iL s1.1)]) (H2 := [vecL (encI .u8) 1 5 y0]) hFH hFD [2] ?_
       exact kN [2, 3, 8, 9, 10, 14, 15, 16]
     ·refine kR ?_
      refine kC 2 [2,3,8,9,10,14,15,16] ?_
      refine kE ?_
      obtain rfl := oi h7
      exact kLN [2, 3, 8, 9, 10, 14, 15, 16]
    ·refine kF ?_
     refine K.exit 2 (by kernel_rfl) ?_
     refine PJ.passExit ?_
     obtain rfl := oi h6
     refine PJ.loopOut (fun e => nomatch e) (fun he0 => ?_)
     have h15 := congrArg some he0
     refine PJ.blockOut ?_
     refine PJ.blockNormal ?_
     obtain rfl := oi h15
     exact kN [2, 3, 8, 9, 10]
   ·refine kR ?_
    refine kC 2 [2,3,8,9,10] ?_
    refine kE ?_
    obtain rfl := oi h3
    exact kLN [2, 3, 8, 9, 10]
  ·refine kF ?_
   refine K.exit 0 (by kernel_rfl) ?_
   refine PJ.passExit ?_
   obtain rfl := oi h2
   refine PJ.loopOut (fun e => nomatch e) (fun he1 => ?_)
   have h16 := congrArg some he1
   refine PJ.blockOut ?_
   obtain rfl := oi h16
   exact kN [2, 3]
 ·refine kSR ?_
  refine kC 1 [2,37] ?_
  refine RJ.rel (d := (some 38)) (ef := ⟨.str ((s2.flatMap (encI .u8)).map Go.Sy.byteOf), [0], []⟩) (ef' := ⟨.str (bytesS s2), [0], []⟩) (c := (s2.flatMap (encI .u8)).all isByte) (tr2 := []) (H2 := [vecL (encI .u8) 1 5 s2]) (by kernel_rfl) (allByte s2) (fun hc => N.toStr) (by kernel_rfl) ?_
  refine kC 1 [2] ?_
  refine kEN ?_
  refine kX ?_
  obtain rfl := oi h0
  exact kZ hFn hFH hFD
def slices_Equal_199 (x0 : List St185) (x1 : List St185) : Option (Bool) :=
 (bif (decide (¬ (x0.length : Int) = (x1.length : Int))) then none else (Option.bind (loopN (fun (s0 : Int) => (bif (decide (s0 < (x0.length : Int))) then (bif inR s0 x0.length then (bif inR s0 x1.length then (bif (!((decide (((nth x0 s0).a0_) = ((nth x1 s0).a0_))) && ((decide (((nth x0 s0).a1_) = ((nth x1 s0).a1_))) && true))) then none else (some (.inl (IntKind.wrap .i64 (s0 + 1))))) else none) else none) else (some (.inr ())))) big 0) fun (s1 : Unit) => (some true)))
theorem slices_Equal_199_ok {x0 : List St185} {x1 : List St185} {r : Bool} (h : slices_Equal_199 x0 x1 = some r) : SC Tryz.prog 199 [lsv encSt185 2 x0, lsv encSt185 2 x1] [] (.bool r) [] := by
 refine kFn (fn := Tryz.f199) (fun F hFn hFH hFD => ?_)
 unfold slices_Equal_199 at h
 refine kSR ?_
 refine kC 1 [0,1,4] ?_
 refine kEN ?_
 refine kS ?_
 refine kSR ?_
 refine kC 5 [0,1,4,10] ?_
 refine kEN ?_
 refine cT 10 h (fun h0 => ?_)
 refine kF ?_
 refine kK ?_
 refine PJ.next ?_
 obtain ⟨s1, hy0, h1⟩ := bindS h0
 refine K.cutN (by kernel_rfl) (fun (s1 : Unit) => ([(4, .bool false)], [])) s1 ?_ ?_
 ·refine kSR ?_
  refine kC 3 [0,1,4,12,13] ?_
  refine kEN ?_
  refine kb 0 ?_
  refine kl (fun (s0 : Int) => ([(0, lsv encSt185 2 x0), (1, lsv encSt185 2 x1), (4, .bool false), (12, iL (x0.length : Int)), (13, iL s0)], [])) hy0 [0, 1, 4, 12, 13] (fun s0 x64 hs0 => ?_)
  refine kSR ?_
  refine kC 1 [0,1,4,12,13,14] ?_
  refine kEN ?_
  refine kS ?_
  refine kBJ 14 hs0 (fun h2 => ?_) (fun h3 => ?_)
  ·refine kT ?_
   refine kK ?_
   refine PJ.next ?_
   refine kS ?_
   refine kb 1 ?_
   refine kSR ?_
   refine kC 2 [0,1,4,5,12,13] ?_
   refine kEN ?_
   refine kS ?_
   refine J.keep [0, 1, 4, 5, 12, 13] (L2 := [(0, lsv encSt185 2 x0), (1, lsv encSt185 2 x1), (4, .bool false), (5, iL s0), (12, iL (x0.length : Int)), (13, iL s0)]) (by kernel_rfl) ?_
   refine K.draw (by kernel_rfl) (by kernel_rfl) (by kernel_rfl) (H2 := []) (by kernel_rfl) (n := 0) (by kernel_rfl) ?_
   refine kD 2 ?_
   obtain ⟨hm, h4⟩ := asrt h2
   refine kJ 18 (tr2 := [([], []), ([], []), ([], [])]) encSt185_len hm ?_
   refine kD 3 ?_
   obtain ⟨hm, h5⟩ := asrt h4
   refine kJ 22 (tr2 := [([], []), ([], []), ([], []), ([], []), ([], []), ([], []), ([], [])]) encSt185_len hm ?_
   refine kD 2 ?_
   refine kEN ?_
   refine cT 24 h5 (fun h6 => ?_)
   refine kF ?_
   refine kK ?_
   refine PJ.blockNormal ?_
   refine PJ.next ?_
   refine kR ?_
   refine kC 2 [0,1,4,12,13] ?_
   refine kE ?_
   obtain rfl := oi h6
   exact kLN [0, 1, 4, 12, 13]
  ·refine kF ?_
   refine K.exit 0 (by kernel_rfl) ?_
   refine PJ.passExit ?_
   obtain rfl := oi h3
   refine PJ.loopOut (fun e => nomatch e) (fun he0 => ?_)
   have h7 := congrArg some he0
   refine PJ.blockOut ?_
   obtain rfl := oi h7
   exact kN [4]
 ·refine kSR ?_
  refine kC 1 [4] ?_
  refine kEN ?_
  refine kX ?_
  obtain rfl := oi h1
  exact kZ hFn hFH hFD
def rule_sameRel (x0 : St150) (x1 : St150) : Option (Bool) :=
 (Option.bind (bif (decide (x0.Op_ = x1.Op_)) then (bif (decide (x0.Mod_ = x1.Mod_)) then (bif (x0.Not_ == x1.Not_) then (Option.bind (slices_Equal_199 x0.R_ x1.R_) fun y0 => (some y0)) else none) else none) else none) fun (s0 : Bool) => (some s0))
theorem rule_sameRel_ok {x0 : St150} {x1 : St150} {r : Bool} (h : rule_sameRel x0 x1 = some r) : SC Tryz.prog 180 [.agg (encSt150 x0), .agg (encSt150 x1)] [] (.bool r) [] := by
 refine kFn (fn := Tryz.f180) (fun F hFn hFH hFD => ?_)
 unfold rule_sameRel at h
 refine kSR ?_
 refine kC 3 [2,3,4] ?_
 refine kEN ?_
 obtain ⟨s0, hy0, h0⟩ := bindS h
 refine K.cutN (by kernel_rfl) (fun (s0 : Bool) => ([(4, .bool s0)], [])) s0 ?_ ?_
 ·refine kR ?_
  refine kC 6 [2,3,4,10] ?_
  refine cFR 10 hy0 (fun h1 => ?_)
  refine kC 7 [2,3,4,17] ?_
  refine cFR 17 h1 (fun h2 => ?_)
  refine kC 7 [2,3,4,24] ?_
  refine cFR 24 h2 (fun h3 => ?_)
  refine kC 4 [4,24,26,28] ?_
  obtain ⟨y0, hy1, h4⟩ := bindS h3
  refine kA 29 (slices_Equal_199_ok hy1) ?_
  refine kC 2 [4] ?_
  refine kE ?_
  obtain rfl := oi h4
  refine kW (L2 := [(4, .bool y0)]) (H2 := []) hFH hFD [] ?_
  exact kN [4]
 ·refine kX ?_
  obtain rfl := oi h0
  exact kZ hFn hFH hFD
def api_Rel__179_s0 (x0 : List St150) (x1 : List St150) : Option (Bool) :=
 (bif (decide (¬ (x0.length : Int) = (x1.length : Int))) then none else (Option.bind (loopN (fun (s0 : Int) => (bif (decide (s0 < (x0.length : Int))) then (bif inR s0 x0.length then (bif inR s0 x1.length then (Option.bind (rule_sameRel (nth x0 s0) (nth x1 s0)) fun y0 => (bif (!y0) then none else (some (.inl (IntKind.wrap .i64 (s0 + 1)))))) else none) else none) else (some (.inr ())))) big 0) fun (s1 : Unit) => (some true)))
theorem api_Rel__179_s0_ok {x0 : List St150} {x1 : List St150} {r : Bool} (h : api_Rel__179_s0 x0 x1 = some r) : SC Tryz.prog 179 [lsv encSt150 4 x0, lsv encSt150 4 x1, .fn (.func 180) [] []] [] (.bool r) [] := by
 refine kFn (fn := Tryz.f179) (fun F hFn hFH hFD => ?_)
 unfold api_Rel__179_s0 at h
 refine kSR ?_
 refine kC 1 [0,1,2,6] ?_
 refine kEN ?_
 refine kS ?_
 refine kSR ?_
 refine kC 5 [0,1,2,6,14] ?_
 refine kEN ?_
 refine cT 14 h (fun h0 => ?_)
 refine kF ?_
 refine kK ?_
 refine PJ.next ?_
 obtain ⟨s1, hy0, h1⟩ := bindS h0
 refine K.cutN (by kernel_rfl) (fun (s1 : Unit) => ([(6, .bool false)], [])) s1 ?_ ?_
 ·refine kSR ?_
  refine kC 3 [1,2,6,15,16,17] ?_
  refine kEN ?_
  refine kb 0 ?_
  refine kl (fun (s0 : Int) => ([(1, lsv encSt150 4 x1), (2, .fn (.func 180) [] []), (6, .bool false), (15, lsv encSt150 4 x0), (16, iL (x0.length : Int)), (17, iL s0)], [])) hy0 [1, 2, 6, 15, 16, 17] (fun s0 x79 hs0 => ?_)
  refine kSR ?_
  refine kC 1 [1,2,6,15,16,17,18] ?_
  refine kEN ?_
  refine kS ?_
  refine kBJ 18 hs0 (fun h2 => ?_) (fun h3 => ?_)
  ·refine kT ?_
   refine kK ?_
   refine PJ.next ?_
   refine kS ?_
   refine kb 1 ?_
   refine kSR ?_
   refine kC 1 [1,2,6,15,16,17,19] ?_
   obtain ⟨hm, h4⟩ := asrt h2
   refine kI 20 encSt150_len hm ?_
   refine kC 4 [1,2,6,7,8,15,16,17] ?_
   refine kEN ?_
   refine kSR ?_
   refine kC 2 [1,2,6,8,15,16,17,22,23] ?_
   obtain ⟨hm, h5⟩ := asrt h4
   refine kI 24 encSt150_len hm ?_
   refine kC 3 [1,2,6,8,9,15,16,17] ?_
   refine kEN ?_
   refine kSR ?_
   refine kC 3 [1,2,6,15,16,17,26,27,28] ?_
   obtain ⟨y0, hy1, h6⟩ := bindS h5
   refine kA 29 (rule_sameRel_ok hy1) ?_
   refine kC 1 [1,2,6,15,16,17,30] ?_
   refine kEN ?_
   refine cT 30 h6 (fun h7 => ?_)
   refine kF ?_
   refine kK ?_
   refine PJ.blockNormal ?_
   refine PJ.next ?_
   refine kR ?_
   refine kC 2 [1,2,6,15,16,17] ?_
   refine kE ?_
   obtain rfl := oi h7
   refine kW (L2 := [(1, lsv encSt150 4 x1), (2, .fn (.func 180) [] []), (6, .bool false), (15, lsv encSt150 4 x0), (16, iL (x0.length : Int)), (17, iL (IntKind.wrap .i64 (s0 + 1)))]) (H2 := []) hFH hFD [] ?_
   exact kLN [1, 2, 6, 15, 16, 17]
  ·refine kF ?_
   refine K.exit 0 (by kernel_rfl) ?_
   refine PJ.passExit ?_
   obtain rfl := oi h3
   refine PJ.loopOut (fun e => nomatch e) (fun he0 => ?_)
   have h8 := congrArg some he0
   refine PJ.blockOut ?_
   obtain rfl := oi h8
   exact kN [6]
 ·refine kSR ?_
  refine kC 1 [6] ?_
  refine kEN ?_
  refine kX ?_
  obtain rfl := oi h1
  exact kV [] hFn hFH hFD (v1 := .bool true)
def rule_Same_1 (x0 : List St150) (x1 : List St150) : Option (Bool) :=
 (Option.bind (api_Rel__179_s0 x0 x1) fun y0 => (some y0))
theorem rule_Same_1_ok {x0 : List St150} {x1 : List St150} {r : Bool} (h : rule_Same_1 x0 x1 = some r) : SC Tryz.prog 178 [lsv encSt150 4 x0, lsv encSt150 4 x1] [] (.bool r) [] := by
 refine kFn (fn := Tryz.f178) (fun F hFn hFH hFD => ?_)
 unfold rule_Same_1 at h
 refine kSR ?_
 refine kC 1 [0,1,4] ?_
 refine kEN ?_
 refine kSR ?_
 refine kC 2 [4,5,6] ?_
 obtain ⟨y0, hy0, h0⟩ := bindS h
 refine kCG (some 7) (args := [lsv encSt150 4 x0, lsv encSt150 4 x1, .fn (.func 180) [] []]) (v := .bool y0) (H2 := []) [] (api_Rel__179_s0_ok hy0) ?_
 refine kC 1 [4] ?_
 refine kEN ?_
 refine kX ?_
 obtain rfl := oi h0
 exact kZ hFn hFH hFD
def api_Rel__s0 (x0 : List (List St150)) (x1 : List (List St150)) : Option (Bool) :=
 (bif (decide (¬ (x0.length : Int) = (x1.length : Int))) then none else (Option.bind (loopN (fun (s0 : Int) => (bif (decide (s0 < (x0.length : Int))) then (bif inR s0 x0.length then (bif inR s0 x1.length then (Option.bind (rule_Same_1 (nth x0 s0) (nth x1 s0)) fun y0 => (bif (!y0) then none else (some (.inl (IntKind.wrap .i64 (s0 + 1)))))) else none) else none) else (some (.inr ())))) big 0) fun (s1 : Unit) => (some true)))
theorem api_Rel__s0_ok {x0 : List (List St150)} {x1 : List (List St150)} {r : Bool} (h : api_Rel__s0 x0 x1 = some r) : SC Tryz.prog 177 [lsv (encL encSt150 4) 1 x0, lsv (encL encSt150 4) 1 x1, .fn (.func 178) [] []] [] (.bool r) [] := by
 refine kFn (fn := Tryz.f177) (fun F hFn hFH hFD => ?_)
 unfold api_Rel__s0 at h
 refine kSR ?_
 refine kC 1 [0,1,2,6] ?_
 refine kEN ?_
 refine kS ?_
 refine kSR ?_
 refine kC 5 [0,1,2,6,14] ?_
 refine kEN ?_
 refine cT 14 h (fun h0 => ?_)
 refine kF ?_
 refine kK ?_
 refine PJ.next ?_
 obtain ⟨s1, hy0, h1⟩ := bindS h0
 refine K.cutN (by kernel_rfl) (fun (s1 : Unit) => ([(6, .bool false)], [])) s1 ?_ ?_
 ·refine kSR ?_
  refine kC 3 [1,2,6,15,16,17] ?_
  refine kEN ?_
  refine kb 0 ?_
  refine kl (fun (s0 : Int) => ([(1, lsv (encL encSt150 4) 1 x1), (2, .fn (.func 178) [] []), (6, .bool false), (15, lsv (encL encSt150 4) 1 x0), (16, iL (x0.length : Int)), (17, iL s0)], [])) hy0 [1, 2, 6, 15, 16, 17] (fun s0 x79 hs0 => ?_)
  refine kSR ?_
  refine kC 1 [1,2,6,15,16,17,18] ?_
  refine kEN ?_
  refine kS ?_
  refine kBJ 18 hs0 (fun h2 => ?_) (fun h3 => ?_)
  ·refine kT ?_
   refine kK ?_
   refine PJ.next ?_
   refine kS ?_
   refine kb 1 ?_
   refine kSR ?_
   refine kC 1 [1,2,6,15,16,17,19] ?_
   obtain ⟨hm, h4⟩ := asrt h2
   refine kI 20 (encL_len encSt150 4) hm ?_
   refine kC 3 [1,2,6,7,8,15,16,17] ?_
   refine kEN ?_
   refine kSR ?_
   refine kC 2 [1,2,6,8,15,16,17,22,23] ?_
   obtain ⟨hm, h5⟩ := asrt h4
   refine kI 24 (encL_len encSt150 4) hm ?_
   refine kC 2 [1,2,6,8,9,15,16,17] ?_
   refine kEN ?_
   refine kSR ?_
   refine kC 3 [1,2,6,15,16,17,26,27,28] ?_
   obtain ⟨y0, hy1, h6⟩ := bindS h5
   refine kA 29 (rule_Same_1_ok hy1) ?_
   refine kC 1 [1,2,6,15,16,17,30] ?_
   refine kEN ?_
   refine cT 30 h6 (fun h7 => ?_)
   refine kF ?_
   refine kK ?_
   refine PJ.blockNormal ?_
   refine PJ.next ?_
   refine kR ?_
   refine kC 2 [1,2,6,15,16,17] ?_
   refine kE ?_
   obtain rfl := oi h7
   exact kLN [1, 2, 6, 15, 16, 17]
  ·refine kF ?_
   refine K.exit 0 (by kernel_rfl) ?_
   refine PJ.passExit ?_
   obtain rfl := oi h3
   refine PJ.loopOut (fun e => nomatch e) (fun he0 => ?_)
   have h8 := congrArg some he0
   refine PJ.blockOut ?_
   obtain rfl := oi h8
   exact kN [6]
 ·refine kSR ?_
  refine kC 1 [6] ?_
  refine kEN ?_
  refine kX ?_
  obtain rfl := oi h1
  exact kV [] hFn hFH hFD (v1 := .bool true)
def rule_Same (x0 : List (List St150)) (x1 : List (List St150)) : Option (Bool) :=
 (Option.bind (api_Rel__s0 x0 x1) fun y0 => (some y0))
theorem rule_Same_ok {x0 : List (List St150)} {x1 : List (List St150)} {r : Bool} (h : rule_Same x0 x1 = some r) : SC Tryz.prog 157 [lsv (encL encSt150 4) 1 x0, lsv (encL encSt150 4) 1 x1] [] (.bool r) [] := by
 refine kFn (fn := Tryz.f157) (fun F hFn hFH hFD => ?_)
 unfold rule_Same at h
 refine kSR ?_
 refine kC 1 [0,1,4] ?_
 refine kEN ?_
 refine kSR ?_
 refine kC 2 [4,5,6] ?_
 obtain ⟨y0, hy0, h0⟩ := bindS h
 refine kCG (some 7) (args := [lsv (encL encSt150 4) 1 x0, lsv (encL encSt150 4) 1 x1, .fn (.func 178) [] []]) (v := .bool y0) (H2 := []) [] (api_Rel__s0_ok hy0) ?_
 refine kC 1 [4] ?_
 refine kEN ?_
 refine kX ?_
 obtain rfl := oi h0
 exact kZ hFn hFH hFD
def rule_Right (x0 : List (List St150)) : Option (Bool) :=
 (Option.bind (rule_Text x0) fun y1 => (Option.bind (rule_Parse y1) fun y0 => (Option.bind (bif (decide (y0.2.2 = 0)) then (Option.bind (rule_Same x0 y0.1) fun y2 => (some y2)) else none) fun (s0 : Bool) => (some s0))))
theorem rule_Right_ok {x0 : List (List St150)} {r : Bool} (h : rule_Right x0 = some r) : SC Tryz.prog 132 [lsv (encL encSt150 4) 1 x0] [] (.bool r) [] := by
 refine kFn (fn := Tryz.f132) (fun F hFn hFH hFD => ?_)
 unfold rule_Right at h
 refine kSR ?_
 refine kC 1 [0,2] ?_
 refine kEN ?_
 refine kSR ?_
 refine kC 1 [0,2,7] ?_
 obtain ⟨y1, hy0, h0⟩ := bindS h
 refine kA 8 (rule_Text_ok hy0) ?_
 obtain ⟨y0, hy1, h1⟩ := bindS h0
 refine kA 9 (rule_Parse_ok hy1) ?_
 refine kC 7 [0,2,3,5] ?_
 refine kEN ?_
 obtain ⟨s0, hy2, h2⟩ := bindS h1
 refine K.cutN (by kernel_rfl) (fun (s0 : Bool) => ([(2, .bool s0)], [])) s0 ?_ ?_
 ·refine kR ?_
  refine kC 3 [0,2,3,15] ?_
  refine cFR 15 hy2 (fun h3 => ?_)
  refine kC 2 [2,15,16,17] ?_
  obtain ⟨y2, hy3, h4⟩ := bindS h3
  refine kA 18 (rule_Same_ok hy3) ?_
  refine kC 2 [2] ?_
  refine kE ?_
  obtain rfl := oi h4
  exact kN [2]
 ·refine kX ?_
  obtain rfl := oi h2
  exact kZ hFn hFH hFD
def plur_Read (x0 : List St91) : Option ((List St103) × Int × Int) :=
 (Option.bind (loopN (fun (s0 : Int × Int × (List St103)) => (bif (decide (s0.2.1 < (x0.length : Int))) then (Option.bind (bif inR s0.2.1 x0.length then (Option.bind (plur_rises s0.1 ((nth x0 s0.2.1).Cat_)) fun y1 => (bif (!y1) then none else (Option.bind (rule_Parse ((nth x0 s0.2.1).Text_)) fun y0 => (Option.bind (Option.bind (bif (decide (¬ y0.2.2 = 0)) then none else (Option.bind (rule_Right y0.1) fun y2 => (some (!y2)))) fun (s2 : Bool) => (bif s2 then none else (some ()))) fun (s4 : Unit) => (bif room (s0.2.2.length + (([(⟨(nth x0 s0.2.1).Cat_, y0.1⟩ : St103)] : List St103)).length) then (some ((s0.2.2 ++ (([(⟨(nth x0 s0.2.1).Cat_, y0.1⟩ : St103)] : List St103))))) else none))))) else none) fun (s3 : (List St103)) => (some (.inl ((nth x0 s0.2.1).Cat_, (IntKind.wrap .i64 (s0.2.1 + 1)), s3)))) else (some (.inr s0.2.2)))) big (0, 0, ([] : List St103))) fun (s1 : (List St103)) => (some (s1, 0, 0)))
theorem plur_Read_ok {x0 : List St91} {r : (List St103) × Int × Int} (h : plur_Read x0 = some r) : SC Tryz.prog 100 [lsv encSt91 2 x0] [] (.tup [lsv encSt103 2 r.1, iL r.2.1, iL r.2.2]) [] := by
 refine kFn (fn := Tryz.f100) (fun F hFn hFH hFD => ?_)
 unfold plur_Read at h
 refine kSR ?_
 refine kC 3 [0,2,3,4] ?_
 refine kEN ?_
 refine kSR ?_
 refine kC 1 [0,2,3,4,5] ?_
 refine kEN ?_
 refine kSR ?_
 refine kC 1 [0,2,3,4,5,6] ?_
 refine kEN ?_
 obtain ⟨s1, hy0, h0⟩ := bindS h
 refine K.cutN (by kernel_rfl) (fun (s1 : (List St103)) => ([(2, .nl), (3, iL 0), (4, iL 0), (5, .vc 0)], [vecL encSt103 2 104 s1])) s1 ?_ ?_
 ·refine kSR ?_
  refine kC 3 [2,3,4,5,6,12,13,14] ?_
  refine kEN ?_
  refine kb 0 ?_
  refine J.wk (Wk.viv 5 2 104 (by kernel_rfl)) ?_
  refine kl (fun (s0 : Int × Int × (List St103)) => ([(2, .nl), (3, iL 0), (4, iL 0), (5, .vc 0), (6, iL s0.1), (12, lsv encSt91 2 x0), (13, iL (x0.length : Int)), (14, iL s0.2.1)], [vecL encSt103 2 104 s0.2.2])) hy0 [2, 3, 4, 5, 6, 12, 13, 14] (fun s0 x621 hs0 => ?_)
  refine kSR ?_
  refine kC 1 [2,3,4,5,6,12,13,14,15] ?_
  refine kEN ?_
  refine kS ?_
  refine kBJ 15 hs0 (fun h1 => ?_) (fun h2 => ?_)
  ·refine kT ?_
   refine kK ?_
   refine PJ.next ?_
   obtain ⟨s3, hy1, h3⟩ := bindS h1
   refine K.cutN (by kernel_rfl) (fun (s3 : (List St103)) => ([(2, .nl), (3, iL 0), (4, iL 0), (5, .vc 0), (6, iL ((nth x0 s0.2.1).Cat_)), (12, lsv encSt91 2 x0), (13, iL (x0.length : Int)), (14, iL s0.2.1)], [vecL encSt103 2 104 s3])) s3 ?_ ?_
   ·refine kb 1 ?_
    refine kSR ?_
    refine kC 1 [2,3,4,5,6,12,13,14,16] ?_
    obtain ⟨hm, h4⟩ := asrt hy1
    refine kI 17 encSt91_len hm ?_
    refine kC 4 [2,3,4,5,6,7,8,12,13,14] ?_
    refine kEN ?_
    refine kS ?_
    refine kSR ?_
    refine kC 3 [2,3,4,5,6,7,8,12,13,14,19,21] ?_
    obtain ⟨y1, hy2, h5⟩ := bindS h4
    refine kA 22 (plur_rises_ok hy2) ?_
    refine kC 1 [2,3,4,5,6,7,8,12,13,14,23] ?_
    refine kEN ?_
    refine cT 23 h5 (fun h6 => ?_)
    refine kF ?_
    refine kK ?_
    refine PJ.next ?_
    refine kSR ?_
    refine kC 2 [2,3,4,5,6,7,8,12,13,14,27] ?_
    obtain ⟨y0, hy3, h7⟩ := bindS h6
    refine kA 28 (rule_Parse_ok hy3) ?_
    refine kC 7 [2,3,4,5,6,7,8,9,11,12,13,14] ?_
    refine kEN ?_
    obtain ⟨s4, hy4, h8⟩ := bindS h7
    refine K.cutN (by kernel_rfl) (fun (s4 : Unit) => ([(2, .nl), (3, iL 0), (4, iL 0), (5, .vc 0), (6, iL s0.1), (8, .ptr 1 0), (9, lsv (encL encSt150 4) 1 y0.1), (12, lsv encSt91 2 x0), (13, iL (x0.length : Int)), (14, iL s0.2.1)], [vecL encSt103 2 104 s0.2.2, .box [iL ((nth x0 s0.2.1).Cat_), .str ((nth x0 s0.2.1).Text_)]])) s4 ?_ ?_
    ·obtain ⟨s2, hy5, h9⟩ := bindS hy4
     refine K.cutN (by kernel_rfl) (fun (s2 : Bool) => ([(2, .nl), (3, iL 0), (4, iL 0), (5, .vc 0), (6, iL s0.1), (7, iL s0.2.1), (8, .ptr 1 0), (9, lsv (encL encSt150 4) 1 y0.1), (12, lsv encSt91 2 x0), (13, iL (x0.length : Int)), (14, iL s0.2.1), (38, .bool s2)], [vecL encSt103 2 104 s0.2.2, .box [iL ((nth x0 s0.2.1).Cat_), .str ((nth x0 s0.2.1).Text_)]])) s2 ?_ ?_
     ·refine kR ?_
      refine kC 3 [2,3,4,5,6,7,8,9,12,13,14,34] ?_
      refine cTR 34 hy5 (fun h10 => ?_)
      refine RJ.seg 1 [2, 3, 4, 5, 6, 7, 8, 9, 12, 13, 14, 34, 35] (L2 := [(2, .nl), (3, iL 0), (4, iL 0), (5, .vc 0), (6, iL s0.1), (7, iL s0.2.1), (8, .ptr 1 0), (9, lsv (encL encSt150 4) 1 y0.1), (12, lsv encSt91 2 x0), (13, iL (x0.length : Int)), (14, iL s0.2.1), (34, .bool false), (35, lsv (encL encSt150 4) 1 y0.1)]) (H2 := [vecL encSt103 2 104 s0.2.2, .box [iL ((nth x0 s0.2.1).Cat_), .str ((nth x0 s0.2.1).Text_)]]) (by kernel_rfl) ?_
      obtain ⟨y2, hy6, h11⟩ := bindS h10
      refine kA 36 (rule_Right_ok hy6) ?_
      refine kC 2 [2,3,4,5,6,7,8,9,12,13,14,38] ?_
      refine kE ?_
      obtain rfl := oi h11
      exact kN [2, 3, 4, 5, 6, 7, 8, 9, 12, 13, 14, 38]
     ·refine cT 38 h9 (fun h12 => ?_)
      refine kF ?_
      refine kK ?_
      obtain rfl := oi h12
      exact kN [2, 3, 4, 5, 6, 8, 9, 12, 13, 14]
    ·refine kSR ?_
     refine kC 6 [2,3,4,5,6,8,12,13,14,40,45] ?_
     obtain ⟨hm, h13⟩ := asrt h8
     refine RJ.rel (d := (some 46)) (ef := ⟨.vc 3, [0, 2], [(0, .gone), (3, .vec (s0.2.2.length + (([(⟨(nth x0 s0.2.1).Cat_, y0.1⟩ : St103)] : List St103)).length) 2 104 (s0.2.2.flatMap encSt103 ++ (([(⟨(nth x0 s0.2.1).Cat_, y0.1⟩ : St103)] : List St103)).flatMap encSt103))]⟩) (ef' := ⟨.vc 3, [0, 2], [(0, .gone), (3, vecL encSt103 2 104 (s0.2.2 ++ (([(⟨(nth x0 s0.2.1).Cat_, y0.1⟩ : St103)] : List St103))))]⟩) (c := room (s0.2.2.length + (([(⟨(nth x0 s0.2.1).Cat_, y0.1⟩ : St103)] : List St103)).length)) (tr2 := []) (H2 := [.gone, .box [iL ((nth x0 s0.2.1).Cat_), .str ((nth x0 s0.2.1).Text_)], vecL encSt103 2 104 (([(⟨(nth x0 s0.2.1).Cat_, y0.1⟩ : St103)] : List St103)), vecL encSt103 2 104 ((s0.2.2 ++ (([(⟨(nth x0 s0.2.1).Cat_, y0.1⟩ : St103)] : List St103))))]) (by kernel_rfl) hm (fun hc => N.app) (by kernel_rfl) ?_
     refine kC 1 [2,3,4,5,6,8,12,13,14] ?_
     refine kEN ?_
     refine kR ?_
     refine kC 3 [2,3,4,5,6,12,13,14] ?_
     refine kE ?_
     refine PJ.blockNormal ?_
     obtain rfl := oi h13
     refine kW (L2 := [(2, .nl), (3, iL 0), (4, iL 0), (5, .vc 0), (6, iL ((nth x0 s0.2.1).Cat_)), (12, lsv encSt91 2 x0), (13, iL (x0.length : Int)), (14, iL s0.2.1)]) (H2 := [vecL encSt103 2 104 ((s0.2.2 ++ (([(⟨(nth x0 s0.2.1).Cat_, y0.1⟩ : St103)] : List St103))))]) hFH hFD [3] ?_
     exact kN [2, 3, 4, 5, 6, 12, 13, 14]
   ·refine kR ?_
    refine kC 2 [2,3,4,5,6,12,13,14] ?_
    refine kE ?_
    obtain rfl := oi h3
    exact kLN [2, 3, 4, 5, 6, 12, 13, 14]
  ·refine kF ?_
   refine K.exit 0 (by kernel_rfl) ?_
   refine PJ.passExit ?_
   obtain rfl := oi h2
   refine PJ.loopOut (fun e => nomatch e) (fun he0 => ?_)
   have h14 := congrArg some he0
   refine PJ.blockOut ?_
   obtain rfl := oi h14
   exact kN [2, 3, 4, 5]
 ·refine kSR ?_
  refine kC 4 [2,3,4] ?_
  refine kEN ?_
  refine kX ?_
  obtain rfl := oi h0
  refine PJ.wk (Wk.freeze 0 (n := s1.length) (k := 2) (e := 104) (cs := s1.flatMap encSt103) (by kernel_rfl)) ?_
  exact kZ hFn hFH hFD
def loc_checker__rules (x0 : St93) : Option (Int × Bool) :=
 (Option.bind (plur_Read x0.Locale_.Rules_) fun y0 => (some (y0.2.1, (decide (y0.2.2 = 0)))))
theorem loc_checker__rules_ok {x0 : St93} {r : Int × Bool} (h : loc_checker__rules x0 = some r) : SC Tryz.prog 55 [.agg (encSt93 x0)] [] (.tup [iL r.1, .bool r.2]) [] := by
 refine kFn (fn := Tryz.f55) (fun F hFn hFH hFD => ?_)
 unfold loc_checker__rules at h
 refine kSR ?_
 refine kC 3 [1,2,3] ?_
 refine kEN ?_
 refine kSR ?_
 refine kC 3 [2,3,10] ?_
 obtain ⟨y0, hy0, h0⟩ := bindS h
 refine kA 11 (plur_Read_ok hy0) ?_
 refine kC 7 [2,3,5,6] ?_
 refine kEN ?_
 refine kSR ?_
 refine kC 5 [2,3] ?_
 refine kEN ?_
 refine kX ?_
 obtain rfl := oi h0
 exact kZ hFn hFH hFD
def loc_code (x0 : List UInt8) : Option (Bool) :=
 (bif (decide (¬ (x0.length : Int) = 3)) then none else (Option.bind (loopN (fun (s0 : Int) => (bif (decide (s0 < ((bytesI x0).length : Int))) then (bif inR s0 (bytesI x0).length then (Option.bind (loc_capital (nth (bytesI x0) s0)) fun y0 => (bif (!y0) then none else (some (.inl (IntKind.wrap .i64 (s0 + 1)))))) else none) else (some (.inr ())))) big 0) fun (s1 : Unit) => (some true)))
theorem loc_code_ok {x0 : List UInt8} {r : Bool} (h : loc_code x0 = some r) : SC Tryz.prog 101 [.str x0] [] (.bool r) [] := by
 refine kFn (fn := Tryz.f101) (fun F hFn hFH hFD => ?_)
 unfold loc_code at h
 refine kSR ?_
 refine kC 1 [0,2] ?_
 refine kEN ?_
 refine kS ?_
 refine kSR ?_
 refine kC 3 [0,2,7] ?_
 refine kEN ?_
 refine cT 7 h (fun h0 => ?_)
 refine kF ?_
 refine kK ?_
 refine PJ.next ?_
 obtain ⟨s1, hy0, h1⟩ := bindS h0
 refine K.cutN (by kernel_rfl) (fun (s1 : Unit) => ([(2, .bool false)], [])) s1 ?_ ?_
 ·refine kSR ?_
  refine kC 1 [2,8] ?_
  refine RJ.rel (d := (some 9)) (ef := ⟨.lst x0.length 1 (x0.map byteSV), [], []⟩) (ef' := ⟨lB (bytesI x0), [], []⟩) (c := true) (tr2 := []) (H2 := []) (by kernel_rfl) rfl (fun hc => N.toBytes) (by kernel_rfl) ?_
  refine kC 2 [2,9,10,11] ?_
  refine kEN ?_
  refine kb 0 ?_
  refine kl (fun (s0 : Int) => ([(2, .bool false), (9, lB (bytesI x0)), (10, iL ((bytesI x0).length : Int)), (11, iL s0)], [])) hy0 [2, 9, 10, 11] (fun s0 x74 hs0 => ?_)
  refine kSR ?_
  refine kC 1 [2,9,10,11,12] ?_
  refine kEN ?_
  refine kS ?_
  refine kBJ 12 hs0 (fun h2 => ?_) (fun h3 => ?_)
  ·refine kT ?_
   refine kK ?_
   refine PJ.next ?_
   refine kS ?_
   refine kb 1 ?_
   refine kSR ?_
   obtain ⟨hm, h4⟩ := asrt h2
   refine kI 13 (encI_len .u8) hm ?_
   refine kC 2 [2,4,9,10,11] ?_
   refine kEN ?_
   refine kSR ?_
   refine kC 1 [2,9,10,11,15] ?_
   obtain ⟨y0, hy1, h5⟩ := bindS h4
   refine kA 16 (loc_capital_ok hy1) ?_
   refine kC 1 [2,9,10,11,17] ?_
   refine kEN ?_
   refine cT 17 h5 (fun h6 => ?_)
   refine kF ?_
   refine kK ?_
   refine PJ.blockNormal ?_
   refine PJ.next ?_
   refine kR ?_
   refine kC 2 [2,9,10,11] ?_
   refine kE ?_
   obtain rfl := oi h6
   exact kLN [2, 9, 10, 11]
  ·refine kF ?_
   refine K.exit 0 (by kernel_rfl) ?_
   refine PJ.passExit ?_
   obtain rfl := oi h3
   refine PJ.loopOut (fun e => nomatch e) (fun he0 => ?_)
   have h7 := congrArg some he0
   refine PJ.blockOut ?_
   obtain rfl := oi h7
   exact kN [2]
 ·refine kSR ?_
  refine kC 1 [2] ?_
  refine kEN ?_
  refine kX ?_
  obtain rfl := oi h1
  exact kZ hFn hFH hFD
def loc_Money (x0 : St22) (x1 : St32) (x2 : List Int) : Option (Bool) :=
 (Option.bind (Option.bind (bif (decide ((x2.length : Int) = 0)) then none else (bif (decide ((x2.length : Int) > 20)) then none else (Option.bind (sym_Calm x0 x2) fun y0 => (some (!y0))))) fun (s0 : Bool) => (bif s0 then none else (some ()))) fun (s1 : Unit) => (Option.bind (Option.bind (bif (decide (¬ x1.PadAt_ = 0)) then none else (some ())) fun (s2 : Unit) => (some ())) fun (s3 : Unit) => (Option.bind (loc_toldApart x0 x1 x2) fun y1 => (some y1))))
theorem loc_Money_ok {x0 : St22} {x1 : St32} {x2 : List Int} {r : Bool} (h : loc_Money x0 x1 x2 = some r) : SC Tryz.prog 20 [.agg (encSt22 x0), .agg (encSt32 x1), lR x2] [] (.bool r) [] := by
 refine kFn (fn := Tryz.f20) (fun F hFn hFH hFD => ?_)
 unfold loc_Money at h
 refine kSR ?_
 refine kC 3 [2,3,4,6] ?_
 refine kEN ?_
 obtain ⟨s1, hy0, h0⟩ := bindS h
 refine K.cutN (by kernel_rfl) (fun (s1 : Unit) => ([(2, lR x2), (3, .ptr 0 0), (4, .ptr 1 0), (6, .bool false)], [.box (encSt22 x0), .box (encSt32 x1)])) s1 ?_ ?_
 ·obtain ⟨s0, hy1, h1⟩ := bindS hy0
  refine K.cutN (by kernel_rfl) (fun (s0 : Bool) => ([(2, lR x2), (3, .ptr 0 0), (4, .ptr 1 0), (6, .bool false), (20, .bool s0)], [.box (encSt22 x0), .box (encSt32 x1)])) s0 ?_ ?_
  ·refine kR ?_
   refine kC 4 [2,3,4,6,10] ?_
   refine cTR 10 hy1 (fun h2 => ?_)
   refine kC 5 [2,3,4,6,15] ?_
   refine cTR 15 h2 (fun h3 => ?_)
   refine kC 2 [2,3,4,6,15,16,17] ?_
   obtain ⟨y0, hy2, h4⟩ := bindS h3
   refine kA 18 (sym_Calm_ok hy2) ?_
   refine kC 2 [2,3,4,6,20] ?_
   refine kE ?_
   obtain rfl := oi h4
   exact kN [2, 3, 4, 6, 20]
  ·refine cT 20 h1 (fun h5 => ?_)
   refine kF ?_
   refine kK ?_
   obtain rfl := oi h5
   exact kN [2, 3, 4, 6]
 ·obtain ⟨s3, hy3, h6⟩ := bindS h0
  refine K.cutN (by kernel_rfl) (fun (s3 : Unit) => ([(2, lR x2), (3, .ptr 0 0), (4, .ptr 1 0), (6, .bool false)], [.box (encSt22 x0), .box (encSt32 x1)])) s3 ?_ ?_
  ·obtain ⟨s2, hy4, h7⟩ := bindS hy3
   refine K.cutN (by kernel_rfl) (fun (s2 : Unit) => ([(2, lR x2), (3, .ptr 0 0), (4, .ptr 1 0), (6, .bool false), (29, .bool false)], [.box (encSt22 x0), .box (encSt32 x1)])) s2 ?_ ?_
   ·refine kR ?_
    refine kC 4 [2,3,4,6,24] ?_
    refine cTR 24 hy4 (fun h8 => ?_)
    refine kC 5 [2,3,4,6,29] ?_
    refine kE ?_
    obtain rfl := oi h8
    exact kN [2, 3, 4, 6, 29]
   ·refine kF ?_
    refine kK ?_
    obtain rfl := oi h7
    exact kN [2, 3, 4, 6]
  ·refine kSR ?_
   refine kC 3 [6,30,31,32] ?_
   obtain ⟨y1, hy5, h9⟩ := bindS h6
   refine kA 33 (loc_toldApart_ok hy5) ?_
   refine kC 1 [6] ?_
   refine kEN ?_
   refine kX ?_
   obtain rfl := oi h9
   exact kZ hFn hFH hFD
def loc_checker__currencies (x0 : St93) : Option (Int × Bool) :=
 (Option.bind (loc_Pattern x0.Locale_.S_ 3 x0.Locale_.Pats_.a3_) fun y0 => (Option.bind (loopN (fun (s0 : (List UInt8) × Int) => (bif (decide (s0.2 < (x0.Locale_.Curs_.length : Int))) then (Option.bind (bif inR s0.2 x0.Locale_.Curs_.length then (Option.bind (Option.bind (Option.bind (loc_code ((nth x0.Locale_.Curs_ s0.2).Code_)) fun y2 => (bif (!y2) then none else (bif (Op.bytesLess ((nth x0.Locale_.Curs_ s0.2).Code_) s0.1 || ((nth x0.Locale_.Curs_ s0.2).Code_) == s0.1) then none else (bif (decide (((nth x0.Locale_.Curs_ s0.2).Digits_) < 0)) then none else (some ()))))) fun (s2 : Unit) => (bif (decide (((nth x0.Locale_.Curs_ s0.2).Digits_) > 4)) then none else (some ()))) fun (s3 : Unit) => (Option.bind (utf_Decode ((bytesI ((nth x0.Locale_.Curs_ s0.2).Sign_)))) fun y1 => (Option.bind (Option.bind (bif (decide (¬ y1.2.2 = 0)) then none else (Option.bind (loc_Money x0.Locale_.S_ y0.1 y1.1) fun y3 => (some (!y3)))) fun (s1 : Bool) => (bif s1 then none else (some ()))) fun (s4 : Unit) => (some ())))) else none) fun (s5 : Unit) => (some (.inl ((nth x0.Locale_.Curs_ s0.2).Code_, (IntKind.wrap .i64 (s0.2 + 1)))))) else (some (.inr ())))) big (([] : List UInt8), 0)) fun (s6 : Unit) => (some (100, (decide ((x0.Locale_.Curs_.length : Int) ≤ 100))))))
theorem loc_checker__currencies_ok {x0 : St93} {r : Int × Bool} (h : loc_checker__currencies x0 = some r) : SC Tryz.prog 56 [.agg (encSt93 x0)] [] (.tup [iL r.1, .bool r.2]) [] := by
 refine kFn (fn := Tryz.f56) (fun F hFn hFH hFD => ?_)
 unfold loc_checker__currencies at h
 refine kSR ?_
 refine kC 3 [1,2,3] ?_
 refine kEN ?_
 refine kSR ?_
 refine kC 7 [1,2,3,15,19] ?_
 obtain ⟨y0, hy0, h0⟩ := bindS h
 refine kA 20 (loc_Pattern_ok hy0) ?_
 refine kC 6 [1,2,3,4] ?_
 refine kEN ?_
 refine kSR ?_
 refine kC 1 [1,2,3,4,6] ?_
 refine kEN ?_
 obtain ⟨s6, hy1, h1⟩ := bindS h0
 refine K.cutN (by kernel_rfl) (fun (s6 : Unit) => ([(1, .ptr 0 0), (2, iL 0), (3, .bool false)], [.box (encSt93 x0)])) s6 ?_ ?_
 ·refine kSR ?_
  refine kC 5 [1,2,3,4,6,25,26,27] ?_
  refine kEN ?_
  refine kb 0 ?_
  refine kl (fun (s0 : (List UInt8) × Int) => ([(1, .ptr 0 0), (2, iL 0), (3, .bool false), (4, .ptr 1 0), (6, .str s0.1), (25, lsv encSt58 3 x0.Locale_.Curs_), (26, iL (x0.Locale_.Curs_.length : Int)), (27, iL s0.2)], [.box (encSt93 x0), .box (encSt32 y0.1)])) hy1 [1, 2, 3, 4, 6, 25, 26, 27] (fun s0 x1244 hs0 => ?_)
  refine kSR ?_
  refine kC 1 [1,2,3,4,6,25,26,27,28] ?_
  refine kEN ?_
  refine kS ?_
  refine kBJ 28 hs0 (fun h2 => ?_) (fun h3 => ?_)
  ·refine kT ?_
   refine kK ?_
   refine PJ.next ?_
   obtain ⟨s5, hy2, h4⟩ := bindS h2
   refine K.cutN (by kernel_rfl) (fun (s5 : Unit) => ([(1, .ptr 0 0), (2, iL 0), (3, .bool false), (4, .ptr 1 0), (6, .str ((nth x0.Locale_.Curs_ s0.2).Code_)), (25, lsv encSt58 3 x0.Locale_.Curs_), (26, iL (x0.Locale_.Curs_.length : Int)), (27, iL s0.2)], [.box (encSt93 x0), .box (encSt32 y0.1)])) s5 ?_ ?_
   ·refine kb 1 ?_
    refine kSR ?_
    refine kC 1 [1,2,3,4,6,25,26,27,29] ?_
    obtain ⟨hm, h5⟩ := asrt hy2
    refine kI 30 encSt58_len hm ?_
    refine kC 4 [1,2,3,4,6,7,8,25,26,27] ?_
    refine kEN ?_
    obtain ⟨s3, hy3, h6⟩ := bindS h5
    refine K.cutN (by kernel_rfl) (fun (s3 : Unit) => ([(1, .ptr 0 0), (2, iL 0), (3, .bool false), (4, .ptr 1 0), (6, .str s0.1), (7, iL s0.2), (8, .ptr 2 0), (25, lsv encSt58 3 x0.Locale_.Curs_), (26, iL (x0.Locale_.Curs_.length : Int)), (27, iL s0.2)], [.box (encSt93 x0), .box (encSt32 y0.1), .box [.str ((nth x0.Locale_.Curs_ s0.2).Code_), .str ((nth x0.Locale_.Curs_ s0.2).Sign_), iL ((nth x0.Locale_.Curs_ s0.2).Digits_)]])) s3 ?_ ?_
    ·obtain ⟨s2, hy4, h7⟩ := bindS hy3
     refine K.cutN (by kernel_rfl) (fun (s2 : Unit) => ([(1, .ptr 0 0), (2, iL 0), (3, .bool false), (4, .ptr 1 0), (6, .str s0.1), (7, iL s0.2), (8, .ptr 2 0), (25, lsv encSt58 3 x0.Locale_.Curs_), (26, iL (x0.Locale_.Curs_.length : Int)), (27, iL s0.2), (51, .bool ((decide (((nth x0.Locale_.Curs_ s0.2).Digits_) > 4))))], [.box (encSt93 x0), .box (encSt32 y0.1), .box [.str ((nth x0.Locale_.Curs_ s0.2).Code_), .str ((nth x0.Locale_.Curs_ s0.2).Sign_), iL ((nth x0.Locale_.Curs_ s0.2).Digits_)]])) s2 ?_ ?_
     ·refine kR ?_
      refine kC 2 [1,2,3,4,6,7,8,25,26,27,33] ?_
      obtain ⟨y2, hy5, h8⟩ := bindS hy4
      refine kA 34 (loc_code_ok hy5) ?_
      refine kC 2 [1,2,3,4,6,7,8,25,26,27,36] ?_
      refine cTR 36 h8 (fun h9 => ?_)
      refine kC 6 [1,2,3,4,6,7,8,25,26,27,42] ?_
      refine cTR 42 h9 (fun h10 => ?_)
      refine kC 5 [1,2,3,4,6,7,8,25,26,27,47] ?_
      refine cTR 47 h10 (fun h11 => ?_)
      refine kC 4 [1,2,3,4,6,7,8,25,26,27,51] ?_
      refine kE ?_
      obtain rfl := oi h11
      exact kN [1, 2, 3, 4, 6, 7, 8, 25, 26, 27, 51]
     ·refine cT 51 h7 (fun h12 => ?_)
      refine kF ?_
      refine kK ?_
      obtain rfl := oi h12
      exact kN [1, 2, 3, 4, 6, 7, 8, 25, 26, 27]
    ·refine kSR ?_
     refine kC 2 [1,2,3,4,6,7,8,25,26,27,55] ?_
     refine RJ.rel (d := (some 56)) (ef := ⟨.lst ((nth x0.Locale_.Curs_ s0.2).Sign_).length 1 (((nth x0.Locale_.Curs_ s0.2).Sign_).map byteSV), [], []⟩) (ef' := ⟨lB (bytesI ((nth x0.Locale_.Curs_ s0.2).Sign_)), [], []⟩) (c := true) (tr2 := []) (H2 := [.box (encSt93 x0), .box (encSt32 y0.1), .box [.str ((nth x0.Locale_.Curs_ s0.2).Code_), .str ((nth x0.Locale_.Curs_ s0.2).Sign_), iL ((nth x0.Locale_.Curs_ s0.2).Digits_)]]) (by kernel_rfl) rfl (fun hc => N.toBytes) (by kernel_rfl) ?_
     obtain ⟨y1, hy6, h13⟩ := bindS h6
     refine kA 57 (utf_Decode_ok hy6) ?_
     refine kC 7 [1,2,3,4,6,7,8,9,11,25,26,27] ?_
     refine kEN ?_
     obtain ⟨s4, hy7, h14⟩ := bindS h13
     refine K.cutN (by kernel_rfl) (fun (s4 : Unit) => ([(1, .ptr 0 0), (2, iL 0), (3, .bool false), (4, .ptr 1 0), (6, .str s0.1), (8, .ptr 2 0), (25, lsv encSt58 3 x0.Locale_.Curs_), (26, iL (x0.Locale_.Curs_.length : Int)), (27, iL s0.2)], [.box (encSt93 x0), .box (encSt32 y0.1), .box [.str ((nth x0.Locale_.Curs_ s0.2).Code_), .str ((nth x0.Locale_.Curs_ s0.2).Sign_), iL ((nth x0.Locale_.Curs_ s0.2).Digits_)]])) s4 ?_ ?_
     ·obtain ⟨s1, hy8, h15⟩ := bindS hy7
      refine K.cutN (by kernel_rfl) (fun (s1 : Bool) => ([(1, .ptr 0 0), (2, iL 0), (3, .bool false), (4, .ptr 1 0), (6, .str s0.1), (7, iL s0.2), (8, .ptr 2 0), (25, lsv encSt58 3 x0.Locale_.Curs_), (26, iL (x0.Locale_.Curs_.length : Int)), (27, iL s0.2), (71, .bool s1)], [.box (encSt93 x0), .box (encSt32 y0.1), .box [.str ((nth x0.Locale_.Curs_ s0.2).Code_), .str ((nth x0.Locale_.Curs_ s0.2).Sign_), iL ((nth x0.Locale_.Curs_ s0.2).Digits_)]])) s1 ?_ ?_
      ·refine kR ?_
       refine kC 3 [1,2,3,4,6,7,8,9,25,26,27,63] ?_
       refine cTR 63 hy8 (fun h16 => ?_)
       refine kC 5 [1,2,3,4,6,7,8,25,26,27,63,66,67,68] ?_
       obtain ⟨y3, hy9, h17⟩ := bindS h16
       refine kA 69 (loc_Money_ok hy9) ?_
       refine kC 2 [1,2,3,4,6,7,8,25,26,27,71] ?_
       refine kE ?_
       obtain rfl := oi h17
       exact kN [1, 2, 3, 4, 6, 7, 8, 25, 26, 27, 71]
      ·refine cT 71 h15 (fun h18 => ?_)
       refine kF ?_
       refine kK ?_
       obtain rfl := oi h18
       exact kN [1, 2, 3, 4, 6, 8, 25, 26, 27]
     ·refine kR ?_
      refine kC 3 [1,2,3,4,6,25,26,27] ?_
      refine kE ?_
      refine PJ.blockNormal ?_
      obtain rfl := oi h14
      refine kW (L2 := [(1, .ptr 0 0), (2, iL 0), (3, .bool false), (4, .ptr 1 0), (6, .str ((nth x0.Locale_.Curs_ s0.2).Code_)), (25, lsv encSt58 3 x0.Locale_.Curs_), (26, iL (x0.Locale_.Curs_.length : Int)), (27, iL s0.2)]) (H2 := [.box (encSt93 x0), .box (encSt32 y0.1)]) hFH hFD [0, 1] ?_
      exact kN [1, 2, 3, 4, 6, 25, 26, 27]
   ·refine kR ?_
    refine kC 2 [1,2,3,4,6,25,26,27] ?_
    refine kE ?_
    obtain rfl := oi h4
    exact kLN [1, 2, 3, 4, 6, 25, 26, 27]
  ·refine kF ?_
   refine K.exit 0 (by kernel_rfl) ?_
   refine PJ.passExit ?_
   obtain rfl := oi h3
   refine PJ.loopOut (fun e => nomatch e) (fun he0 => ?_)
   have h19 := congrArg some he0
   refine PJ.blockOut ?_
   obtain rfl := oi h19
   refine kW (L2 := [(1, .ptr 0 0), (2, iL 0), (3, .bool false)]) (H2 := [.box (encSt93 x0)]) hFH hFD [0] ?_
   exact kN [1, 2, 3]
 ·refine kS ?_
  refine J.keep [1, 2, 3] (L2 := [(1, .ptr 0 0), (2, iL 0), (3, .bool false)]) (by kernel_rfl) ?_
  refine K.draw (by kernel_rfl) (by kernel_rfl) (by kernel_rfl) (H2 := [.box (encSt93 x0)]) (by kernel_rfl) (n := 1) (by kernel_rfl) ?_
  refine kD 7 ?_
  refine kEN ?_
  refine kX ?_
  obtain rfl := oi h1
  exact kZ hFn hFH hFD
def plur_Name (x0 : Int) : Option (List UInt8) :=
 (Option.bind plur_names fun y0 => (Option.bind (Option.bind (bif (decide (x0 < 0)) then none else (some ())) fun (s0 : Unit) => (bif (decide (x0 ≥ 6)) then none else (some ()))) fun (s1 : Unit) => (bif (decide (x0 = 0)) then (some y0.a0_) else none)))
theorem plur_Name_ok {x0 : Int} {r : List UInt8} (h : plur_Name x0 = some r) : SC Tryz.prog 46 [iL x0] [] (.str r) [] := by
 refine kFn (fn := Tryz.f46) (fun F hFn hFH hFD => ?_)
 unfold plur_Name at h
 refine kSR ?_
 refine kC 1 [0,2] ?_
 refine kEN ?_
 refine kSR ?_
 obtain ⟨y0, hy0, h1⟩ := bindS h
 refine kA 4 (plur_names_ok hy0) ?_
 refine kC 2 [0,2,3] ?_
 refine kEN ?_
 obtain ⟨s1, hy1, h0⟩ := bindS h1
 refine K.cutN (by kernel_rfl) (fun (s1 : Unit) => ([(0, iL x0), (2, .str ([] : List UInt8)), (3, .ptr 0 0)], [.box (encSt134 y0)])) s1 ?_ ?_
 ·obtain ⟨s0, hy2, h2⟩ := bindS hy1
  refine K.cutN (by kernel_rfl) (fun (s0 : Unit) => ([(0, iL x0), (2, .str ([] : List UInt8)), (3, .ptr 0 0), (10, .bool (decide (x0 ≥ 6)))], [.box (encSt134 y0)])) s0 ?_ ?_
  ·refine kR ?_
   refine kC 3 [0,2,3,7] ?_
   refine cTR 7 hy2 (fun h3 => ?_)
   refine kC 3 [0,2,3,10] ?_
   refine kE ?_
   obtain rfl := oi h3
   exact kN [0, 2, 3, 10]
  ·refine cT 10 h2 (fun h4 => ?_)
   refine kF ?_
   refine kK ?_
   obtain rfl := oi h4
   exact kN [0, 2, 3]
 ·refine kSR ?_
  refine kC 1 [2,3,11] ?_
  cases hb0 : (decide (x0 = 0))
  ·have h5 := condF hb0 h0
   cases h5
  ·have h6 := condT hb0 h0
   refine RJ.pin 11 (kd := .i64) (by kernel_rfl) (of_decide_eq_true hb0) ?_
   refine kC 3 [2] ?_
   refine kEN ?_
   refine kX ?_
   obtain rfl := oi h6
   exact kZ hFn hFH hFD
def loc_Short (x0 : St22) (x1 : St25) : Option (St32 × Bool) :=
 (Option.bind (loc_read x1.Pat_) fun y0 => (Option.bind (Option.bind (bif (!y0.2) then none else (bif (decide (x1.Mag_ < 2)) then none else (bif (decide (x1.Mag_ > 30)) then none else (Option.bind (plur_Name x1.Cat_) fun y2 => (some (y2 == ([] : List UInt8))))))) fun (s0 : Bool) => (bif s0 then none else (some ()))) fun (s2 : Unit) => (Option.bind (Option.bind (bif (decide (y0.1.MinInt_ < 1)) then none else (bif (decide (y0.1.MinInt_ ≥ x1.Mag_)) then none else (bif y0.1.Neg_ then none else (some ())))) fun (s3 : Unit) => (bif (decide (((IntKind.wrap .i64 ((y0.1.Pre_.length : Int) + (y0.1.Suf_.length : Int)))) = 0)) then none else (some ()))) fun (s4 : Unit) => (bif (!((decide (y0.1.Hash_ = 0)) && ((decide (y0.1.G1_ = 0)) && ((decide (y0.1.MaxFrac_ = 0)) && ((decide (y0.1.MinSig_ = 0)) && ((decide (y0.1.Exp_ = 0)) && ((decide (y0.1.PadAt_ = 0)) && true))))))) then none else (Option.bind (Option.bind (Option.bind (loc_pieced y0.1.Pre_ y0.1.Suf_ 0 0) fun y3 => (bif (!y3) then none else (Option.bind (loc_toldApart x0 y0.1 ([] : List Int)) fun y1 => (some (!y1))))) fun (s1 : Bool) => (bif s1 then none else (some ()))) fun (s5 : Unit) => (some (y0.1, true)))))))
theorem loc_Short_ok {x0 : St22} {x1 : St25} {r : St32 × Bool} (h : loc_Short x0 x1 = some r) : SC Tryz.prog 13 [.agg (encSt22 x0), .agg (encSt25 x1)] [] (.tup [.agg (encSt32 r.1), .bool r.2]) [] := by
 refine kFn (fn := Tryz.f13) (fun F hFn hFH hFD => ?_)
 unfold loc_Short at h
 refine kSR ?_
 refine kC 4 [2,3,4,5] ?_
 refine kEN ?_
 refine kSR ?_
 refine kC 2 [2,3,4,5,10] ?_
 obtain ⟨y0, hy0, h0⟩ := bindS h
 refine kA 11 (loc_read_ok hy0) ?_
 refine kC 6 [2,3,4,5,6,7] ?_
 refine kEN ?_
 obtain ⟨s2, hy1, h1⟩ := bindS h0
 refine K.cutN (by kernel_rfl) (fun (s2 : Unit) => ([(2, .ptr 0 0), (3, .ptr 1 0), (4, .ptr 2 0), (5, .bool false), (6, .ptr 3 0)], [.box (encSt22 x0), .box (encSt25 x1), .box [.nl, .nl, .nl, .nl, .bool false, iL 0, iL 0, iL 0, iL 0, iL 0, iL 0, iL 0, iL 0, iL 0, .bool false, iM 0, iL 0], .box (encSt32 y0.1)])) s2 ?_ ?_
 ·obtain ⟨s0, hy2, h2⟩ := bindS hy1
  refine K.cutN (by kernel_rfl) (fun (s0 : Bool) => ([(2, .ptr 0 0), (3, .ptr 1 0), (4, .ptr 2 0), (5, .bool false), (6, .ptr 3 0), (31, .bool s0)], [.box (encSt22 x0), .box (encSt25 x1), .box [.nl, .nl, .nl, .nl, .bool false, iL 0, iL 0, iL 0, iL 0, iL 0, iL 0, iL 0, iL 0, iL 0, .bool false, iM 0, iL 0], .box (encSt32 y0.1)])) s0 ?_ ?_
  ·refine kR ?_
   refine kC 3 [2,3,4,5,6,16] ?_
   refine cTR 16 hy2 (fun h3 => ?_)
   refine kC 5 [2,3,4,5,6,21] ?_
   refine cTR 21 h3 (fun h4 => ?_)
   refine kC 5 [2,3,4,5,6,26] ?_
   refine cTR 26 h4 (fun h5 => ?_)
   refine kC 2 [2,3,4,5,6,26,28] ?_
   obtain ⟨y2, hy3, h6⟩ := bindS h5
   refine kA 29 (plur_Name_ok hy3) ?_
   refine kC 2 [2,3,4,5,6,31] ?_
   refine kE ?_
   obtain rfl := oi h6
   exact kN [2, 3, 4, 5, 6, 31]
  ·refine cT 31 h2 (fun h7 => ?_)
   refine kF ?_
   refine kK ?_
   obtain rfl := oi h7
   exact kN [2, 3, 4, 5, 6]
 ·obtain ⟨s4, hy4, h8⟩ := bindS h1
  refine K.cutN (by kernel_rfl) (fun (s4 : Unit) => ([(2, .ptr 0 0), (4, .ptr 1 0), (5, .bool false), (6, .ptr 2 0)], [.box (encSt22 x0), .box [.nl, .nl, .nl, .nl, .bool false, iL 0, iL 0, iL 0, iL 0, iL 0, iL 0, iL 0, iL 0, iL 0, .bool false, iM 0, iL 0], .box (encSt32 y0.1)])) s4 ?_ ?_
  ·obtain ⟨s3, hy5, h9⟩ := bindS hy4
   refine K.cutN (by kernel_rfl) (fun (s3 : Unit) => ([(2, .ptr 0 0), (4, .ptr 1 0), (5, .bool false), (6, .ptr 2 0), (56, .bool ((decide (((IntKind.wrap .i64 ((y0.1.Pre_.length : Int) + (y0.1.Suf_.length : Int)))) = 0))))], [.box (encSt22 x0), .box [.nl, .nl, .nl, .nl, .bool false, iL 0, iL 0, iL 0, iL 0, iL 0, iL 0, iL 0, iL 0, iL 0, .bool false, iM 0, iL 0], .box (encSt32 y0.1)])) s3 ?_ ?_
   ·refine kR ?_
    refine kC 4 [2,3,4,5,6,36] ?_
    refine cTR 36 hy5 (fun h10 => ?_)
    refine kC 7 [2,4,5,6,43] ?_
    refine cTR 43 h10 (fun h11 => ?_)
    refine kC 4 [2,4,5,6,47] ?_
    refine cTR 47 h11 (fun h12 => ?_)
    refine kC 9 [2,4,5,6,56] ?_
    refine kE ?_
    obtain rfl := oi h12
    refine kW (L2 := [(2, .ptr 0 0), (4, .ptr 1 0), (5, .bool false), (6, .ptr 2 0), (56, .bool ((decide (((IntKind.wrap .i64 ((y0.1.Pre_.length : Int) + (y0.1.Suf_.length : Int)))) = 0))))]) (H2 := [.box (encSt22 x0), .box [.nl, .nl, .nl, .nl, .bool false, iL 0, iL 0, iL 0, iL 0, iL 0, iL 0, iL 0, iL 0, iL 0, .bool false, iM 0, iL 0], .box (encSt32 y0.1)]) hFH hFD [0, 2, 3] ?_
    exact kN [2, 4, 5, 6, 56]
   ·refine cT 56 h9 (fun h13 => ?_)
    refine kF ?_
    refine kK ?_
    obtain rfl := oi h13
    exact kN [2, 4, 5, 6]
  ·refine kS ?_
   refine kSR ?_
   refine kC 15 [2,4,5,6,72] ?_
   refine kEN ?_
   refine cT 72 h8 (fun h14 => ?_)
   refine kF ?_
   refine kK ?_
   refine PJ.next ?_
   obtain ⟨s5, hy6, h15⟩ := bindS h14
   refine K.cutN (by kernel_rfl) (fun (s5 : Unit) => ([(4, .ptr 0 0), (5, .bool false), (6, .ptr 1 0)], [.box [.nl, .nl, .nl, .nl, .bool false, iL 0, iL 0, iL 0, iL 0, iL 0, iL 0, iL 0, iL 0, iL 0, .bool false, iM 0, iL 0], .box (encSt32 y0.1)])) s5 ?_ ?_
   ·obtain ⟨s1, hy7, h16⟩ := bindS hy6
    refine K.cutN (by kernel_rfl) (fun (s1 : Bool) => ([(4, .ptr 0 0), (5, .bool false), (6, .ptr 1 0), (85, .bool s1)], [.box [.nl, .nl, .nl, .nl, .bool false, iL 0, iL 0, iL 0, iL 0, iL 0, iL 0, iL 0, iL 0, iL 0, .bool false, iM 0, iL 0], .box (encSt32 y0.1)])) s1 ?_ ?_
    ·refine kR ?_
     refine kC 4 [2,4,5,6,75,77] ?_
     obtain ⟨y3, hy8, h17⟩ := bindS hy7
     refine kA 78 (loc_pieced_ok hy8) ?_
     refine kC 2 [2,4,5,6,80] ?_
     refine cTR 80 h17 (fun h18 => ?_)
     refine kC 2 [4,5,6,80,81,82] ?_
     obtain ⟨y1, hy9, h19⟩ := bindS h18
     refine RJ.call0 (d := (some 83)) (f := 40) (args := [.agg (encSt22 x0), .agg (encSt32 y0.1), .nl]) (v := .bool y1) (tr2 := []) (by kernel_rfl) (by kernel_rfl) (.cons (Le.refl _) (.cons (Le.refl _) (.cons (Le.nl _) .nil))) (loc_toldApart_ok hy9) (by kernel_rfl) ?_
     refine kC 2 [4,5,6,85] ?_
     refine kE ?_
     obtain rfl := oi h19
     refine kW (L2 := [(4, .ptr 0 0), (5, .bool false), (6, .ptr 1 0), (85, .bool (!y1))]) (H2 := [.box [.nl, .nl, .nl, .nl, .bool false, iL 0, iL 0, iL 0, iL 0, iL 0, iL 0, iL 0, iL 0, iL 0, .bool false, iM 0, iL 0], .box (encSt32 y0.1)]) hFH hFD [1, 2] ?_
     exact kN [4, 5, 6, 85]
    ·refine cT 85 h16 (fun h20 => ?_)
     refine kF ?_
     refine kK ?_
     obtain rfl := oi h20
     exact kN [4, 5, 6]
   ·refine kSR ?_
    refine kC 3 [4,5] ?_
    refine kEN ?_
    refine kX ?_
    obtain rfl := oi h15
    exact kZ hFn hFH hFD
def loc_rises (x0 : St25) (x1 : St25) : Option (Bool) :=
 (Option.bind (bif (decide (x1.Mag_ > x0.Mag_)) then (some ()) else none) fun (s0 : Unit) => (some true))
theorem loc_rises_ok {x0 : St25} {x1 : St25} {r : Bool} (h : loc_rises x0 x1 = some r) : SC Tryz.prog 103 [.agg (encSt25 x0), .agg (encSt25 x1)] [] (.bool r) [] := by
 refine kFn (fn := Tryz.f103) (fun F hFn hFH hFD => ?_)
 unfold loc_rises at h
 refine kSR ?_
 refine kC 3 [2,3,4] ?_
 refine kEN ?_
 obtain ⟨s0, hy0, h0⟩ := bindS h
 refine K.cutN (by kernel_rfl) (fun (s0 : Unit) => ([(4, .bool true)], [])) s0 ?_ ?_
 ·refine kR ?_
  refine kC 6 [2,3,4,10] ?_
  refine cFR 10 hy0 (fun h1 => ?_)
  refine kC 14 [4] ?_
  refine kE ?_
  obtain rfl := oi h1
  refine kW (L2 := [(4, .bool true)]) (H2 := []) hFH hFD [] ?_
  exact kN [4]
 ·refine kX ?_
  obtain rfl := oi h0
  exact kZ hFn hFH hFD
def loc_Power (x0 : St25) (x1 : St32) : Option (Int) :=
 (some (IntKind.wrap .i64 (x0.Mag_ - x1.MinInt_)))
theorem loc_Power_ok {x0 : St25} {x1 : St32} {r : Int} (h : loc_Power x0 x1 = some r) : SC Tryz.prog 18 [.agg (encSt25 x0), .agg (encSt32 x1)] [] (iL r) [] := by
 refine kFn (fn := Tryz.f18) (fun F hFn hFH hFD => ?_)
 unfold loc_Power at h
 refine kSR ?_
 refine kC 3 [2,3,4] ?_
 refine kEN ?_
 refine kSR ?_
 refine kC 6 [4] ?_
 refine kEN ?_
 refine kX ?_
 obtain rfl := oi h
 exact kZ hFn hFH hFD
def loc_checker__compacts (x0 : St93) : Option (Int × Bool) :=
 (Option.bind (loopN (fun (s0 : Int × (List (Int × Int))) => (bif (decide (s0.1 < (x0.Locale_.Comps_.length : Int))) then (Option.bind (bif inR s0.1 x0.Locale_.Comps_.length then (Option.bind (loc_Short x0.Locale_.S_ (nth x0.Locale_.Comps_ s0.1)) fun y0 => (Option.bind (Option.bind (bif (!y0.2) then none else (bif (decide (s0.1 > 0)) then (bif inR (IntKind.wrap .i64 (s0.1 - 1)) x0.Locale_.Comps_.length then (Option.bind (loc_rises ((nth x0.Locale_.Comps_ (IntKind.wrap .i64 (s0.1 - 1)))) (nth x0.Locale_.Comps_ s0.1)) fun y2 => (some (!y2))) else none) else (some false))) fun (s2 : Bool) => (bif s2 then none else (some ()))) fun (s5 : Unit) => (Option.bind (bif (!((mget (fun a b : Int => a == b) s0.2 ((nth x0.Locale_.Comps_ s0.1).Mag_)).isSome)) then (Option.bind (loc_Power (nth x0.Locale_.Comps_ s0.1) y0.1) fun y1 => (bif (mget (fun a b : Int => a == b) s0.2 ((nth x0.Locale_.Comps_ s0.1).Mag_)).isNone then (some (y1, (s0.2 ++ [(((nth x0.Locale_.Comps_ s0.1).Mag_), y1)]))) else none)) else none) fun (s1 : Int × (List (Int × Int))) => (Option.bind (bif (!((mget (fun a b : Int => a == b) s0.2 ((nth x0.Locale_.Comps_ s0.1).Mag_)).isSome)) then (bif (decide (¬ ((nth x0.Locale_.Comps_ s0.1).Cat_) = 0)) then none else (Option.bind (loc_Power (nth x0.Locale_.Comps_ s0.1) y0.1) fun y3 => (some (decide (¬ s1.1 = y3))))) else none) fun (s3 : Bool) => (bif s3 then none else (some s1.2)))))) else none) fun (s4 : (List (Int × Int))) => (some (.inl ((IntKind.wrap .i64 (s0.1 + 1)), s4)))) else (some (.inr ())))) big (0, ([] : List (Int × Int)))) fun (s6 : Unit) => (some (90, (decide ((x0.Locale_.Comps_.length : Int) ≤ 90)))))
theorem loc_checker__compacts_ok {x0 : St93} {r : Int × Bool} (h : loc_checker__compacts x0 = some r) : SC Tryz.prog 57 [.agg (encSt93 x0)] [] (.tup [iL r.1, .bool r.2]) [] := by
 refine kFn (fn := Tryz.f57) (fun F hFn hFH hFD => ?_)
 unfold loc_checker__compacts at h
 refine kSR ?_
 refine kC 3 [1,2,3] ?_
 refine kEN ?_
 refine kSR ?_
 refine kC 2 [1,2,3,4] ?_
 refine kEN ?_
 obtain ⟨s6, hy0, h0⟩ := bindS h
 refine K.cutN (by kernel_rfl) (fun (s6 : Unit) => ([(1, .ptr 0 0), (2, iL 0), (3, .bool false)], [.box (encSt93 x0)])) s6 ?_ ?_
 ·refine kSR ?_
  refine kC 5 [1,2,3,4,14,15,16] ?_
  refine kEN ?_
  refine kb 0 ?_
  refine kl (fun (s0 : Int × (List (Int × Int))) => ([(1, .ptr 0 0), (2, iL 0), (3, .bool false), (4, .mp 1), (14, lsv encSt25 3 x0.Locale_.Comps_), (15, iL (x0.Locale_.Comps_.length : Int)), (16, iL s0.1)], [.box (encSt93 x0), .map (mapL (fun k : Int => iL k) (fun k : Int => iL k) s0.2)])) hy0 [1, 2, 3, 4, 14, 15, 16] (fun s0 x1161 hs0 => ?_)
  refine kSR ?_
  refine kC 1 [1,2,3,4,14,15,16,17] ?_
  refine kEN ?_
  refine kS ?_
  refine kBJ 17 hs0 (fun h1 => ?_) (fun h2 => ?_)
  ·refine kT ?_
   refine kK ?_
   refine PJ.next ?_
   obtain ⟨s4, hy1, h3⟩ := bindS h1
   refine K.cutN (by kernel_rfl) (fun (s4 : (List (Int × Int))) => ([(1, .ptr 0 0), (2, iL 0), (3, .bool false), (4, .mp 1), (14, lsv encSt25 3 x0.Locale_.Comps_), (15, iL (x0.Locale_.Comps_.length : Int)), (16, iL s0.1)], [.box (encSt93 x0), .map (mapL (fun k : Int => iL k) (fun k : Int => iL k) s4)])) s4 ?_ ?_
   ·refine kb 1 ?_
    refine kSR ?_
    refine kC 1 [1,2,3,4,14,15,16,18] ?_
    obtain ⟨hm, h4⟩ := asrt hy1
    refine kI 19 encSt25_len hm ?_
    refine kC 4 [1,2,3,4,5,6,14,15,16] ?_
    refine kEN ?_
    refine kSR ?_
    refine kC 4 [1,2,3,4,5,6,14,15,16,24,25] ?_
    obtain ⟨y0, hy2, h5⟩ := bindS h4
    refine kA 26 (loc_Short_ok hy2) ?_
    refine kC 6 [1,2,3,4,5,6,7,8,14,15,16] ?_
    refine kEN ?_
    obtain ⟨s5, hy3, h6⟩ := bindS h5
    refine K.cutN (by kernel_rfl) (fun (s5 : Unit) => ([(1, .ptr 0 0), (2, iL 0), (3, .bool false), (4, .mp 1), (5, iL s0.1), (6, .ptr 2 0), (7, .ptr 3 0), (14, lsv encSt25 3 x0.Locale_.Comps_), (15, iL (x0.Locale_.Comps_.length : Int)), (16, iL s0.1)], [.box (encSt93 x0), .map (mapL (fun k : Int => iL k) (fun k : Int => iL k) s0.2), .box [iL ((nth x0.Locale_.Comps_ s0.1).Mag_), iL ((nth x0.Locale_.Comps_ s0.1).Cat_), .str ((nth x0.Locale_.Comps_ s0.1).Pat_)], .box (encSt32 y0.1)])) s5 ?_ ?_
    ·obtain ⟨s2, hy4, h7⟩ := bindS hy3
     refine K.cutN (by kernel_rfl) (fun (s2 : Bool) => ([(1, .ptr 0 0), (2, iL 0), (3, .bool false), (4, .mp 1), (5, iL s0.1), (6, .ptr 2 0), (7, .ptr 3 0), (14, lsv encSt25 3 x0.Locale_.Comps_), (15, iL (x0.Locale_.Comps_.length : Int)), (16, iL s0.1), (46, .bool s2)], [.box (encSt93 x0), .map (mapL (fun k : Int => iL k) (fun k : Int => iL k) s0.2), .box [iL ((nth x0.Locale_.Comps_ s0.1).Mag_), iL ((nth x0.Locale_.Comps_ s0.1).Cat_), .str ((nth x0.Locale_.Comps_ s0.1).Pat_)], .box (encSt32 y0.1)])) s2 ?_ ?_
     ·refine J.keep [1, 2, 3, 4, 5, 6, 7, 8, 14, 15, 16] (L2 := [(1, .ptr 0 0), (2, iL 0), (3, .bool false), (4, .mp 1), (5, iL s0.1), (6, .ptr 2 0), (7, .ptr 3 0), (8, .bool y0.2), (14, lsv encSt25 3 x0.Locale_.Comps_), (15, iL (x0.Locale_.Comps_.length : Int)), (16, iL s0.1)]) (by kernel_rfl) ?_
      refine K.draw (by kernel_rfl) (by kernel_rfl) (by kernel_rfl) (H2 := [.box (encSt93 x0), .map (mapL (fun k : Int => iL k) (fun k : Int => iL k) s0.2), .box [iL ((nth x0.Locale_.Comps_ s0.1).Mag_), iL ((nth x0.Locale_.Comps_ s0.1).Cat_), .str ((nth x0.Locale_.Comps_ s0.1).Pat_)], .box (encSt32 y0.1), .res]) (by kernel_rfl) (n := 4) (by kernel_rfl) ?_
      refine kD 3 ?_
      refine cTR 31 hy4 (fun h8 => ?_)
      refine kD 3 ?_
      refine kB 34 h8 (fun h9 => ?_) (fun h10 => ?_)
      ·refine kD 5 ?_
       obtain ⟨hm, h11⟩ := asrt h9
       refine kJ 40 (tr2 := [([], []), ([], []), ([], []), ([], []), ([], []), ([], []), ([], []), ([], []), ([0, 1], []), ([], []), ([], []), ([], [])]) encSt25_len hm ?_
       refine RJ.segD 2 (tr2 := [([], []), ([], []), ([], []), ([], []), ([], []), ([], []), ([], []), ([], []), ([0, 1], []), ([], []), ([], []), ([], []), ([], []), ([4, 5], [])]) (L2 := [(42, .agg [iL ((nth x0.Locale_.Comps_ s0.1).Mag_), iL ((nth x0.Locale_.Comps_ s0.1).Cat_), .str ((nth x0.Locale_.Comps_ s0.1).Pat_)]), (41, .agg [iL ((nth x0.Locale_.Comps_ (IntKind.wrap .i64 (s0.1 - 1))).Mag_), iL ((nth x0.Locale_.Comps_ (IntKind.wrap .i64 (s0.1 - 1))).Cat_), .str ((nth x0.Locale_.Comps_ (IntKind.wrap .i64 (s0.1 - 1))).Pat_)]), (40, .ep [iL ((nth x0.Locale_.Comps_ (IntKind.wrap .i64 (s0.1 - 1))).Mag_), iL ((nth x0.Locale_.Comps_ (IntKind.wrap .i64 (s0.1 - 1))).Cat_), .str ((nth x0.Locale_.Comps_ (IntKind.wrap .i64 (s0.1 - 1))).Pat_)]), (39, iL (IntKind.wrap .i64 (s0.1 - 1))), (38, iL s0.1), (37, lsv encSt25 3 x0.Locale_.Comps_), (36, .ptr 0 14), (35, .ptr 0 0), (34, .bool true), (34, .bool (decide (s0.1 > 0))), (33, .bool (decide (s0.1 > 0))), (32, iL s0.1), (31, .bool false), (31, .bool (!y0.2)), (30, .bool (!y0.2)), (29, .bool y0.2), (1, .ptr 0 0), (2, iL 0), (3, .bool false), (4, .mp 1), (5, iL s0.1), (6, .ptr 2 0), (7, .ptr 3 0), (8, .bool y0.2), (14, lsv encSt25 3 x0.Locale_.Comps_), (15, iL (x0.Locale_.Comps_.length : Int)), (16, iL s0.1)]) (H2 := [.box (encSt93 x0), .map (mapL (fun k : Int => iL k) (fun k : Int => iL k) s0.2), .box [iL ((nth x0.Locale_.Comps_ s0.1).Mag_), iL ((nth x0.Locale_.Comps_ s0.1).Cat_), .str ((nth x0.Locale_.Comps_ s0.1).Pat_)], .box (encSt32 y0.1), .res]) (by kernel_rfl) ?_
       obtain ⟨y2, hy5, h12⟩ := bindS h11
       refine RJ.call0 (d := (some 43)) (f := 103) (args := [.agg [iL ((nth x0.Locale_.Comps_ (IntKind.wrap .i64 (s0.1 - 1))).Mag_), iL ((nth x0.Locale_.Comps_ (IntKind.wrap .i64 (s0.1 - 1))).Cat_), .str ((nth x0.Locale_.Comps_ (IntKind.wrap .i64 (s0.1 - 1))).Pat_)], .agg [iL ((nth x0.Locale_.Comps_ s0.1).Mag_), iL ((nth x0.Locale_.Comps_ s0.1).Cat_), .str ((nth x0.Locale_.Comps_ s0.1).Pat_)]]) (v := .bool y2) (tr2 := [([], []), ([], []), ([], []), ([], []), ([], []), ([], []), ([], []), ([], []), ([0, 1], []), ([], []), ([], []), ([], []), ([], []), ([4, 5], []), ([], [8, 9])]) (by kernel_rfl) (by kernel_rfl) (.cons (Le.refl _) (.cons (Le.refl _) .nil)) (loc_rises_ok hy5) (by kernel_rfl) ?_
       refine kD 3 ?_
       refine kE ?_
       obtain rfl := oi h12
       refine PJ.wk (Wk.sel (L2 := [(1, .ptr 0 0), (2, iL 0), (3, .bool false), (4, .mp 1), (5, iL s0.1), (6, .ptr 2 0), (7, .ptr 3 0), (14, lsv encSt25 3 x0.Locale_.Comps_), (15, iL (x0.Locale_.Comps_.length : Int)), (16, iL s0.1), (46, .bool (!y2))]) (H2 := [.box (encSt93 x0), .map (mapL (fun k : Int => iL k) (fun k : Int => iL k) s0.2), .box [iL ((nth x0.Locale_.Comps_ s0.1).Mag_), iL ((nth x0.Locale_.Comps_ s0.1).Cat_), .str ((nth x0.Locale_.Comps_ s0.1).Pat_)], .box (encSt32 y0.1)]) 0 (by rw [hFH]; rfl) hFD [0, 1, 2, 3] (by kernel_rfl) (by simp only [List.map_cons, List.map_nil, rn_mapL (ek := (fun k : Int => iL k)) (ev := (fun k : Int => iL k)) (fun _ _ => rfl) (fun _ _ => rfl)]; kernel_rfl) (by decide) (by simp only [List.all_cons, List.all_nil, refs_mapL (ek := (fun k : Int => iL k)) (ev := (fun k : Int => iL k)) (fun _ _ => rfl) (fun _ _ => rfl)]; kernel_rfl) (by kernel_rfl) (by kernel_rfl) (by kernel_rfl)) ?_
       exact kN [1, 2, 3, 4, 5, 6, 7, 14, 15, 16, 46]
      ·refine kD 12 ?_
       refine kE ?_
       obtain rfl := oi h10
       refine PJ.wk (Wk.sel (L2 := [(1, .ptr 0 0), (2, iL 0), (3, .bool false), (4, .mp 1), (5, iL s0.1), (6, .ptr 2 0), (7, .ptr 3 0), (14, lsv encSt25 3 x0.Locale_.Comps_), (15, iL (x0.Locale_.Comps_.length : Int)), (16, iL s0.1), (46, .bool false)]) (H2 := [.box (encSt93 x0), .map (mapL (fun k : Int => iL k) (fun k : Int => iL k) s0.2), .box [iL ((nth x0.Locale_.Comps_ s0.1).Mag_), iL ((nth x0.Locale_.Comps_ s0.1).Cat_), .str ((nth x0.Locale_.Comps_ s0.1).Pat_)], .box (encSt32 y0.1)]) 0 (by rw [hFH]; rfl) hFD [0, 1, 2, 3] (by kernel_rfl) (by simp only [List.map_cons, List.map_nil, rn_mapL (ek := (fun k : Int => iL k)) (ev := (fun k : Int => iL k)) (fun _ _ => rfl) (fun _ _ => rfl)]; kernel_rfl) (by decide) (by simp only [List.all_cons, List.all_nil, refs_mapL (ek := (fun k : Int => iL k)) (ev := (fun k : Int => iL k)) (fun _ _ => rfl) (fun _ _ => rfl)]; kernel_rfl) (by kernel_rfl) (by kernel_rfl) (by kernel_rfl)) ?_
       exact kN [1, 2, 3, 4, 5, 6, 7, 14, 15, 16, 46]
     ·refine cT 46 h7 (fun h13 => ?_)
      refine kF ?_
      refine kK ?_
      obtain rfl := oi h13
      exact kN [1, 2, 3, 4, 5, 6, 7, 14, 15, 16]
    ·refine kSR ?_
     refine kC 3 [1,2,3,4,5,6,7,14,15,16,49,51] ?_
     refine RJ.lookK (d := (some 52)) (i := 1) (ok := true) (tr2 := []) .i64 (fun k : Int => iL k) s0.2 ((nth x0.Locale_.Comps_ s0.1).Mag_) (0 : Int) (by kernel_rfl) ?_
     refine kC 5 [1,2,3,4,5,6,7,9,10,14,15,16] ?_
     refine kEN ?_
     obtain ⟨s1, hy6, h14⟩ := bindS h6
     refine K.cutN (by kernel_rfl) (fun (s1 : Int × (List (Int × Int))) => ([(1, .ptr 0 0), (2, iL 0), (3, .bool false), (4, .mp 1), (5, iL s0.1), (6, .ptr 2 0), (7, .ptr 3 0), (9, iL s1.1), (10, .bool ((mget (fun a b : Int => a == b) s0.2 ((nth x0.Locale_.Comps_ s0.1).Mag_)).isSome)), (14, lsv encSt25 3 x0.Locale_.Comps_), (15, iL (x0.Locale_.Comps_.length : Int)), (16, iL s0.1)], [.box (encSt93 x0), .map (mapL (fun k : Int => iL k) (fun k : Int => iL k) s1.2), .box [iL ((nth x0.Locale_.Comps_ s0.1).Mag_), iL ((nth x0.Locale_.Comps_ s0.1).Cat_), .str ((nth x0.Locale_.Comps_ s0.1).Pat_)], .box (encSt32 y0.1)])) s1 ?_ ?_
     ·refine kSR ?_
      refine kC 2 [1,2,3,4,5,6,7,9,10,14,15,16,56] ?_
      refine kEN ?_
      refine cF 56 hy6 (fun h15 => ?_)
      refine kT ?_
      refine kSR ?_
      refine kC 2 [1,2,3,4,5,6,7,9,10,14,15,16,57,58] ?_
      obtain ⟨y1, hy7, h16⟩ := bindS h15
      refine kA 59 (loc_Power_ok hy7) ?_
      refine kC 1 [1,2,3,4,5,6,7,9,10,14,15,16] ?_
      refine kEN ?_
      refine kR ?_
      refine kC 4 [1,2,3,4,5,6,7,9,10,14,15,16,60,62,63] ?_
      obtain ⟨hm, h17⟩ := asrt h16
      refine RJ.insK (d := none) (i := 1) (sv := iL y1) (tr2 := []) (H2 := [.box (encSt93 x0), .map (mapL (fun k : Int => iL k) (fun k : Int => iL k) ((s0.2 ++ [(((nth x0.Locale_.Comps_ s0.1).Mag_), y1)]))), .box [iL ((nth x0.Locale_.Comps_ s0.1).Mag_), iL ((nth x0.Locale_.Comps_ s0.1).Cat_), .str ((nth x0.Locale_.Comps_ s0.1).Pat_)], .box (encSt32 y0.1)]) .i64 (fun k : Int => iL k) s0.2 ((nth x0.Locale_.Comps_ s0.1).Mag_) y1 (by kernel_rfl) rfl hm (by kernel_rfl) ?_
      refine kE ?_
      obtain rfl := oi h17
      exact kN [1, 2, 3, 4, 5, 6, 7, 9, 10, 14, 15, 16]
     ·obtain ⟨s3, hy8, h18⟩ := bindS h14
      refine K.cutN (by kernel_rfl) (fun (s3 : Bool) => ([(1, .ptr 0 0), (2, iL 0), (3, .bool false), (4, .mp 1), (5, iL s0.1), (14, lsv encSt25 3 x0.Locale_.Comps_), (15, iL (x0.Locale_.Comps_.length : Int)), (16, iL s0.1), (77, .bool s3)], [.box (encSt93 x0), .map (mapL (fun k : Int => iL k) (fun k : Int => iL k) s1.2)])) s3 ?_ ?_
      ·refine kR ?_
       refine kC 3 [1,2,3,4,5,6,7,9,14,15,16,66] ?_
       refine cFR 66 hy8 (fun h19 => ?_)
       refine kC 5 [1,2,3,4,5,6,7,9,14,15,16,71] ?_
       refine cTR 71 h19 (fun h20 => ?_)
       refine kC 3 [1,2,3,4,5,14,15,16,71,72,73,74] ?_
       obtain ⟨y3, hy9, h21⟩ := bindS h20
       refine kA 75 (loc_Power_ok hy9) ?_
       refine kC 2 [1,2,3,4,5,14,15,16,77] ?_
       refine kE ?_
       obtain rfl := oi h21
       refine PJ.wk (Wk.sel (L2 := [(1, .ptr 0 0), (2, iL 0), (3, .bool false), (4, .mp 1), (5, iL s0.1), (14, lsv encSt25 3 x0.Locale_.Comps_), (15, iL (x0.Locale_.Comps_.length : Int)), (16, iL s0.1), (77, .bool (decide (¬ s1.1 = y3)))]) (H2 := [.box (encSt93 x0), .map (mapL (fun k : Int => iL k) (fun k : Int => iL k) s1.2)]) 0 (by rw [hFH]; rfl) hFD [0, 1] (by kernel_rfl) (by simp only [List.map_cons, List.map_nil, rn_mapL (ek := (fun k : Int => iL k)) (ev := (fun k : Int => iL k)) (fun _ _ => rfl) (fun _ _ => rfl)]; kernel_rfl) (by decide) (by simp only [List.all_cons, List.all_nil, refs_mapL (ek := (fun k : Int => iL k)) (ev := (fun k : Int => iL k)) (fun _ _ => rfl) (fun _ _ => rfl)]; kernel_rfl) (by kernel_rfl) (by kernel_rfl) (by kernel_rfl)) ?_
       exact kN [1, 2, 3, 4, 5, 14, 15, 16, 77]
      ·refine cT 77 h18 (fun h22 => ?_)
       refine kF ?_
       refine kK ?_
       refine PJ.blockNormal ?_
       obtain rfl := oi h22
       exact kN [1, 2, 3, 4, 14, 15, 16]
   ·refine kR ?_
    refine kC 2 [1,2,3,4,14,15,16] ?_
    refine kE ?_
    obtain rfl := oi h3
    exact kLN [1, 2, 3, 4, 14, 15, 16]
  ·refine kF ?_
   refine K.exit 0 (by kernel_rfl) ?_
   refine PJ.passExit ?_
   obtain rfl := oi h2
   refine PJ.loopOut (fun e => nomatch e) (fun he0 => ?_)
   have h23 := congrArg some he0
   refine PJ.blockOut ?_
   obtain rfl := oi h23
   refine kW (L2 := [(1, .ptr 0 0), (2, iL 0), (3, .bool false)]) (H2 := [.box (encSt93 x0)]) hFH hFD [0] ?_
   exact kN [1, 2, 3]
 ·refine kS ?_
  refine J.keep [1, 2, 3] (L2 := [(1, .ptr 0 0), (2, iL 0), (3, .bool false)]) (by kernel_rfl) ?_
  refine K.draw (by kernel_rfl) (by kernel_rfl) (by kernel_rfl) (H2 := [.box (encSt93 x0)]) (by kernel_rfl) (n := 1) (by kernel_rfl) ?_
  refine kD 7 ?_
  refine kEN ?_
  refine kX ?_
  obtain rfl := oi h0
  exact kZ hFn hFH hFD
structure St144 where
 around_ : St124
 power_ : Int
 deriving Inhabited, DecidableEq
def encSt144 (x : St144) : List SV := [lsv (encI .i32) 1 x.around_.a0_.Pre_, lsv (encI .i32) 1 x.around_.a0_.Suf_, lsv (encI .i32) 1 x.around_.a1_.Pre_, lsv (encI .i32) 1 x.around_.a1_.Suf_, lsv (encI .i32) 1 x.around_.a2_.Pre_, lsv (encI .i32) 1 x.around_.a2_.Suf_, .int .i64 x.power_]
theorem encSt144_len (x : St144) : (encSt144 x).length = 7 := rfl
def loc_alike (x0 : St144) (x1 : St144) : Option (Bool) :=
 (Option.bind (loopN (fun (s0 : Int) => (bif (decide (s0 < 3)) then (Option.bind (loopN (fun (s1 : Int) => (bif (decide (s1 < 3)) then (Option.bind (Option.bind (Option.bind (bif (decide ((minI s0 s1) = 0)) then (some ((decide ((maxI s0 s1) = 2)))) else (some false)) fun (s3 : Bool) => (bif s3 then (some (.inr ())) else (some (.inl ())))) (joinX fun (s8 : Unit) => (Option.bind (bif (decide (¬ x0.power_ = x1.power_)) then (some true) else (some (((decide (s0 = 1)) != (decide (s1 = 1)))))) fun (s2 : Bool) => (Option.bind (bif s2 then (bif (decide (s0 = 0)) then (bif (decide (s1 = 0)) then (Option.bind (affix_Same x0.around_.a0_ x1.around_.a0_) fun y0 => (some y0)) else (bif (decide (s1 = 1)) then (Option.bind (affix_Same x0.around_.a0_ x1.around_.a1_) fun y1 => (some y1)) else (bif (decide (s1 = 2)) then (Option.bind (affix_Same x0.around_.a0_ x1.around_.a2_) fun y2 => (some y2)) else none))) else (bif (decide (s0 = 1)) then (bif (decide (s1 = 0)) then (Option.bind (affix_Same x0.around_.a1_ x1.around_.a0_) fun y3 => (some y3)) else (bif (decide (s1 = 1)) then (Option.bind (affix_Same x0.around_.a1_ x1.around_.a1_) fun y4 => (some y4)) else (bif (decide (s1 = 2)) then (Option.bind (affix_Same x0.around_.a1_ x1.around_.a2_) fun y5 => (some y5)) else none))) else (bif (decide (s0 = 2)) then (bif (decide (s1 = 0)) then (Option.bind (affix_Same x0.around_.a2_ x1.around_.a0_) fun y6 => (some y6)) else (bif (decide (s1 = 1)) then (Option.bind (affix_Same x0.around_.a2_ x1.around_.a1_) fun y7 => (some y7)) else (bif (decide (s1 = 2)) then (Option.bind (affix_Same x0.around_.a2_ x1.around_.a2_) fun y8 => (some y8)) else none))) else none))) else (some false)) fun (s4 : Bool) => (bif s4 then none else (some ())))))) fun (s5 : Unit) => (some (.inl (IntKind.wrap .i64 (s1 + 1))))) else (some (.inr ())))) big 0) fun (s6 : Unit) => (some (.inl (IntKind.wrap .i64 (s0 + 1))))) else (some (.inr ())))) big 0) fun (s7 : Unit) => (some false))
theorem loc_alike_ok {x0 : St144} {x1 : St144} {r : Bool} (h : loc_alike x0 x1 = some r) : SC Tryz.prog 104 [.agg (encSt144 x0), .agg (encSt144 x1)] [] (.bool r) [] := by
 refine kFn (fn := Tryz.f104) (fun F hFn hFH hFD => ?_)
 unfold loc_alike at h
 refine kSR ?_
 refine kC 3 [2,3,4] ?_
 refine kEN ?_
 obtain ⟨s7, hy0, h13⟩ := bindS h
 refine K.cutN (by kernel_rfl) (fun (s7 : Unit) => ([(4, .bool false)], [])) s7 ?_ ?_
 ·refine kSR ?_
  refine kC 1 [2,3,4,8] ?_
  refine kEN ?_
  refine kb 0 ?_
  refine kl (fun (s0 : Int) => ([(2, .ptr 0 0), (3, .ptr 1 0), (4, .bool false), (8, iL s0)], [.box (encSt144 x0), .box (encSt144 x1)])) hy0 [2, 3, 4, 8] (fun s0 x8071 hs0 => ?_)
  refine kSR ?_
  refine kC 1 [2,3,4,8,9] ?_
  refine kEN ?_
  refine kS ?_
  refine kBJ 9 hs0 (fun h14 => ?_) (fun h15 => ?_)
  ·refine kT ?_
   refine kK ?_
   refine PJ.next ?_
   obtain ⟨s6, hy1, h16⟩ := bindS h14
   refine K.cutN (by kernel_rfl) (fun (s6 : Unit) => ([(2, .ptr 0 0), (3, .ptr 1 0), (4, .bool false), (8, iL s0)], [.box (encSt144 x0), .box (encSt144 x1)])) s6 ?_ ?_
   ·refine kb 1 ?_
    refine kSR ?_
    refine kC 2 [2,3,4,5,8] ?_
    refine kEN ?_
    refine kSR ?_
    refine kC 1 [2,3,4,5,8,11] ?_
    refine kEN ?_
    refine kb 2 ?_
    refine kl (fun (s1 : Int) => ([(2, .ptr 0 0), (3, .ptr 1 0), (4, .bool false), (5, iL s0), (8, iL s0), (11, iL s1)], [.box (encSt144 x0), .box (encSt144 x1)])) hy1 [2, 3, 4, 5, 8, 11] (fun s1 x9635 hs1 => ?_)
    refine kSR ?_
    refine kC 1 [2,3,4,5,8,11,12] ?_
    refine kEN ?_
    refine kS ?_
    refine kBJ 12 hs1 (fun h17 => ?_) (fun h18 => ?_)
    ·refine kT ?_
     refine kK ?_
     refine PJ.next ?_
     obtain ⟨s5, hy2, h19⟩ := bindS h17
     refine K.cutN (by kernel_rfl) (fun (s5 : Unit) => ([(2, .ptr 0 0), (3, .ptr 1 0), (4, .bool false), (5, iL s0), (8, iL s0), (11, iL s1)], [.box (encSt144 x0), .box (encSt144 x1)])) s5 ?_ ?_
     ·refine kb 3 ?_
      refine kSR ?_
      refine kC 2 [2,3,4,5,6,8,11] ?_
      refine kEN ?_
      obtain ⟨y9, hy3, h0⟩ := bindS hy2
      refine K.cutX (by kernel_rfl) (fun (s8 : Unit) => ([(2, .ptr 0 0), (3, .ptr 1 0), (4, .bool false), (5, iL s0), (6, iL s1), (8, iL s0), (11, iL s1)], [.box (encSt144 x0), .box (encSt144 x1)])) y9 ?_ (fun s8 hs => ?_)
      ·obtain ⟨s3, hy4, h20⟩ := bindS hy3
       refine K.cutN (by kernel_rfl) (fun (s3 : Bool) => ([(2, .ptr 0 0), (3, .ptr 1 0), (4, .bool false), (5, iL s0), (6, iL s1), (8, iL s0), (11, iL s1), (23, .bool s3)], [.box (encSt144 x0), .box (encSt144 x1)])) s3 ?_ ?_
       ·refine kR ?_
        refine kC 5 [2,3,4,5,6,8,11,18] ?_
        refine kB 18 hy4 (fun h21 => ?_) (fun h22 => ?_)
        ·refine kC 5 [2,3,4,5,6,8,11,23] ?_
         refine kE ?_
         obtain rfl := oi h21
         exact kN [2, 3, 4, 5, 6, 8, 11, 23]
        ·refine kC 5 [2,3,4,5,6,8,11,23] ?_
         refine kE ?_
         obtain rfl := oi h22
         exact kN [2, 3, 4, 5, 6, 8, 11, 23]
       ·refine kBJ 23 h20 (fun h23 => ?_) (fun h24 => ?_)
        ·refine kT ?_
         refine K.exit 3 (by kernel_rfl) ?_
         obtain rfl := oi h23
         have h25 := joinX_inr h0
         refine PJ.cutXr (fun e => nomatch e) ?_
         refine PJ.blockOut ?_
         obtain rfl := oi h25
         exact kN [2, 3, 4, 5, 8, 11]
        ·refine kF ?_
         refine kK ?_
         obtain rfl := oi h24
         exact kXl [2, 3, 4, 5, 6, 8, 11]
      ·subst hs
       have h26 := joinX_inl h0
       obtain ⟨s2, hy5, h27⟩ := bindS h26
       refine K.cutN (by kernel_rfl) (fun (s2 : Bool) => ([(2, .ptr 0 0), (3, .ptr 1 0), (4, .bool false), (5, iL s0), (6, iL s1), (7, .bool s2), (8, iL s0), (11, iL s1)], [.box (encSt144 x0), .box (encSt144 x1)])) s2 ?_ ?_
       ·refine kR ?_
        refine kC 6 [2,3,4,5,6,8,11,29] ?_
        refine kB 29 hy5 (fun h28 => ?_) (fun h29 => ?_)
        ·refine kC 7 [2,3,4,5,6,7,8,11] ?_
         refine kE ?_
         obtain rfl := oi h28
         exact kN [2, 3, 4, 5, 6, 7, 8, 11]
        ·refine kC 7 [2,3,4,5,6,7,8,11] ?_
         refine kE ?_
         obtain rfl := oi h29
         exact kN [2, 3, 4, 5, 6, 7, 8, 11]
       ·obtain ⟨s4, hy6, h30⟩ := bindS h27
        refine K.cutN (by kernel_rfl) (fun (s4 : Bool) => ([(2, .ptr 0 0), (3, .ptr 1 0), (4, .bool false), (5, iL s0), (8, iL s0), (11, iL s1), (47, .bool s4)], [.box (encSt144 x0), .box (encSt144 x1)])) s4 ?_ ?_
        ·refine J.keep [2, 3, 4, 5, 6, 7, 8, 11] (L2 := [(2, .ptr 0 0), (3, .ptr 1 0), (4, .bool false), (5, iL s0), (6, iL s1), (7, .bool s2), (8, iL s0), (11, iL s1)]) (by kernel_rfl) ?_
         refine K.draw (by kernel_rfl) (by kernel_rfl) (by kernel_rfl) (H2 := [.box (encSt144 x0), .box (encSt144 x1), .res]) (by kernel_rfl) (n := 2) (by kernel_rfl) ?_
         refine kD 2 ?_
         refine kB 37 hy6 (fun h1 => ?_) (fun h31 => ?_)
         ·refine kD 2 ?_
          cases hb0 : (decide (s0 = 0))
          ·have h2 := condF hb0 h1
           cases hb1 : (decide (s0 = 1))
           ·have h3 := condF hb1 h2
            cases hb2 : (decide (s0 = 2))
            ·have h32 := condF hb2 h3
             cases h32
            ·have h4 := condT hb2 h3
             refine RJ.pin 38 (kd := .i64) (by kernel_rfl) (of_decide_eq_true hb2) ?_
             refine kD 4 ?_
             cases hb3 : (decide (s1 = 0))
             ·have h5 := condF hb3 h4
              cases hb4 : (decide (s1 = 1))
              ·have h6 := condF hb4 h5
               cases hb5 : (decide (s1 = 2))
               ·have h33 := condF hb5 h6
                cases h33
               ·have h34 := condT hb5 h6
                refine RJ.pin 42 (kd := .i64) (by kernel_rfl) (of_decide_eq_true hb5) ?_
                refine kD 2 ?_
                obtain ⟨y8, hy7, h35⟩ := bindS h34
                refine RJ.call0 (d := (some 46)) (f := 82) (args := [.agg (encSt63 x0.around_.a2_), .agg (encSt63 x1.around_.a2_)]) (v := .bool y8) (tr2 := [([], []), ([], []), ([], []), ([], []), ([], []), ([0, 1], []), ([], []), ([], []), ([], []), ([2, 3], []), ([], [4, 5])]) (by kernel_rfl) (by kernel_rfl) (.cons (Le.refl _) (.cons (Le.refl _) .nil)) (affix_Same_ok hy7) (by kernel_rfl) ?_
                refine kD 1 ?_
                refine kE ?_
                obtain rfl := oi h35
                refine kW (L2 := [(2, .ptr 0 0), (3, .ptr 1 0), (4, .bool false), (5, iL s0), (8, iL s0), (11, iL s1), (47, .bool y8)]) (H2 := [.box (encSt144 x0), .box (encSt144 x1)]) hFH hFD [0, 1] ?_
                exact kN [2, 3, 4, 5, 8, 11, 47]
              ·have h36 := condT hb4 h5
               refine RJ.pin 42 (kd := .i64) (by kernel_rfl) (of_decide_eq_true hb4) ?_
               refine kD 2 ?_
               obtain ⟨y7, hy8, h37⟩ := bindS h36
               refine RJ.call0 (d := (some 46)) (f := 82) (args := [.agg (encSt63 x0.around_.a2_), .agg (encSt63 x1.around_.a1_)]) (v := .bool y7) (tr2 := [([], []), ([], []), ([], []), ([], []), ([], []), ([0, 1], []), ([], []), ([], []), ([], []), ([2, 3], []), ([], [4, 5])]) (by kernel_rfl) (by kernel_rfl) (.cons (Le.refl _) (.cons (Le.refl _) .nil)) (affix_Same_ok hy8) (by kernel_rfl) ?_
               refine kD 1 ?_
               refine kE ?_
               obtain rfl := oi h37
               refine kW (L2 := [(2, .ptr 0 0), (3, .ptr 1 0), (4, .bool false), (5, iL s0), (8, iL s0), (11, iL s1), (47, .bool y7)]) (H2 := [.box (encSt144 x0), .box (encSt144 x1)]) hFH hFD [0, 1] ?_
               exact kN [2, 3, 4, 5, 8, 11, 47]
             ·have h38 := condT hb3 h4
              refine RJ.pin 42 (kd := .i64) (by kernel_rfl) (of_decide_eq_true hb3) ?_
              refine kD 2 ?_
              obtain ⟨y6, hy9, h39⟩ := bindS h38
              refine RJ.call0 (d := (some 46)) (f := 82) (args := [.agg (encSt63 x0.around_.a2_), .agg (encSt63 x1.around_.a0_)]) (v := .bool y6) (tr2 := [([], []), ([], []), ([], []), ([], []), ([], []), ([0, 1], []), ([], []), ([], []), ([], []), ([2, 3], []), ([], [4, 5])]) (by kernel_rfl) (by kernel_rfl) (.cons (Le.refl _) (.cons (Le.refl _) .nil)) (affix_Same_ok hy9) (by kernel_rfl) ?_
              refine kD 1 ?_
              refine kE ?_
              obtain rfl := oi h39
              refine kW (L2 := [(2, .ptr 0 0), (3, .ptr 1 0), (4, .bool false), (5, iL s0), (8, iL s0), (11, iL s1), (47, .bool y6)]) (H2 := [.box (encSt144 x0), .box (encSt144 x1)]) hFH hFD [0, 1] ?_
              exact kN [2, 3, 4, 5, 8, 11, 47]
           ·have h7 := condT hb1 h2
            refine RJ.pin 38 (kd := .i64) (by kernel_rfl) (of_decide_eq_true hb1) ?_
            refine kD 4 ?_
            cases hb6 : (decide (s1 = 0))
            ·have h8 := condF hb6 h7
             cases hb7 : (decide (s1 = 1))
             ·have h9 := condF hb7 h8
              cases hb8 : (decide (s1 = 2))
              ·have h40 := condF hb8 h9
               cases h40
              ·have h41 := condT hb8 h9
               refine RJ.pin 42 (kd := .i64) (by kernel_rfl) (of_decide_eq_true hb8) ?_
               refine kD 2 ?_
               obtain ⟨y5, hy10, h42⟩ := bindS h41
               refine RJ.call0 (d := (some 46)) (f := 82) (args := [.agg (encSt63 x0.around_.a1_), .agg (encSt63 x1.around_.a2_)]) (v := .bool y5) (tr2 := [([], []), ([], []), ([], []), ([], []), ([], []), ([0, 1], []), ([], []), ([], []), ([], []), ([2, 3], []), ([], [4, 5])]) (by kernel_rfl) (by kernel_rfl) (.cons (Le.refl _) (.cons (Le.refl _) .nil)) (affix_Same_ok hy10) (by kernel_rfl) ?_
               refine kD 1 ?_
               refine kE ?_
               obtain rfl := oi h42
               refine kW (L2 := [(2, .ptr 0 0), (3, .ptr 1 0), (4, .bool false), (5, iL s0), (8, iL s0), (11, iL s1), (47, .bool y5)]) (H2 := [.box (encSt144 x0), .box (encSt144 x1)]) hFH hFD [0, 1] ?_
               exact kN [2, 3, 4, 5, 8, 11, 47]
             ·have h43 := condT hb7 h8
              refine RJ.pin 42 (kd := .i64) (by kernel_rfl) (of_decide_eq_true hb7) ?_
              refine kD 2 ?_
              obtain ⟨y4, hy11, h44⟩ := bindS h43
              refine RJ.call0 (d := (some 46)) (f := 82) (args := [.agg (encSt63 x0.around_.a1_), .agg (encSt63 x1.around_.a1_)]) (v := .bool y4) (tr2 := [([], []), ([], []), ([], []), ([], []), ([], []), ([0, 1], []), ([], []), ([], []), ([], []), ([2, 3], []), ([], [4, 5])]) (by kernel_rfl) (by kernel_rfl) (.cons (Le.refl _) (.cons (Le.refl _) .nil)) (affix_Same_ok hy11) (by kernel_rfl) ?_
              refine kD 1 ?_
              refine kE ?_
              obtain rfl := oi h44
              refine kW (L2 := [(2, .ptr 0 0), (3, .ptr 1 0), (4, .bool false), (5, iL s0), (8, iL s0), (11, iL s1), (47, .bool y4)]) (H2 := [.box (encSt144 x0), .box (encSt144 x1)]) hFH hFD [0, 1] ?_
              exact kN [2, 3, 4, 5, 8, 11, 47]
            ·have h45 := condT hb6 h7
             refine RJ.pin 42 (kd := .i64) (by kernel_rfl) (of_decide_eq_true hb6) ?_
             refine kD 2 ?_
             obtain ⟨y3, hy12, h46⟩ := bindS h45
             refine RJ.call0 (d := (some 46)) (f := 82) (args := [.agg (encSt63 x0.around_.a1_), .agg (encSt63 x1.around_.a0_)]) (v := .bool y3) (tr2 := [([], []), ([], []), ([], []), ([], []), ([], []), ([0, 1], []), ([], []), ([], []), ([], []), ([2, 3], []), ([], [4, 5])]) (by kernel_rfl) (by kernel_rfl) (.cons (Le.refl _) (.cons (Le.refl _) .nil)) (affix_Same_ok hy12) (by kernel_rfl) ?_
             refine kD 1 ?_
             refine kE ?_
             obtain rfl := oi h46
             refine kW (L2 := [(2, .ptr 0 0), (3, .ptr 1 0), (4, .bool false), (5, iL s0), (8, iL s0), (11, iL s1), (47, .bool y3)]) (H2 := [.box (encSt144 x0), .box (encSt144 x1)]) hFH hFD [0, 1] ?_
             exact kN [2, 3, 4, 5, 8, 11, 47]
          ·have h10 := condT hb0 h1
           refine RJ.pin 38 (kd := .i64) (by kernel_rfl) (of_decide_eq_true hb0) ?_
           refine kD 4 ?_
           cases hb9 : (decide (s1 = 0))
           ·have h11 := condF hb9 h10
            cases hb10 : (decide (s1 = 1))
            ·have h12 := condF hb10 h11
             cases hb11 : (decide (s1 = 2))
             ·have h47 := condF hb11 h12
              cases h47
             ·have h48 := condT hb11 h12
              refine RJ.pin 42 (kd := .i64) (by kernel_rfl) (of_decide_eq_true hb11) ?_
              refine kD 2 ?_
              obtain ⟨y2, hy13, h49⟩ := bindS h48
              refine RJ.call0 (d := (some 46)) (f := 82) (args := [.agg (encSt63 x0.around_.a0_), .agg (encSt63 x1.around_.a2_)]) (v := .bool y2) (tr2 := [([], []), ([], []), ([], []), ([], []), ([], []), ([0, 1], []), ([], []), ([], []), ([], []), ([2, 3], []), ([], [4, 5])]) (by kernel_rfl) (by kernel_rfl) (.cons (Le.refl _) (.cons (Le.refl _) .nil)) (affix_Same_ok hy13) (by kernel_rfl) ?_
              refine kD 1 ?_
              refine kE ?_
              obtain rfl := oi h49
              refine kW (L2 := [(2, .ptr 0 0), (3, .ptr 1 0), (4, .bool false), (5, iL s0), (8, iL s0), (11, iL s1), (47, .bool y2)]) (H2 := [.box (encSt144 x0), .box (encSt144 x1)]) hFH hFD [0, 1] ?_
              exact kN [2, 3, 4, 5, 8, 11, 47]
            ·have h50 := condT hb10 h11
             refine RJ.pin 42 (kd := .i64) (by kernel_rfl) (of_decide_eq_true hb10) ?_
             refine kD 2 ?_
             obtain ⟨y1, hy14, h51⟩ := bindS h50
             refine RJ.call0 (d := (some 46)) (f := 82) (args := [.agg (encSt63 x0.around_.a0_), .agg (encSt63 x1.around_.a1_)]) (v := .bool y1) (tr2 := [([], []), ([], []), ([], []), ([], []), ([], []), ([0, 1], []), ([], []), ([], []), ([], []), ([2, 3], []), ([], [4, 5])]) (by kernel_rfl) (by kernel_rfl) (.cons (Le.refl _) (.cons (Le.refl _) .nil)) (affix_Same_ok hy14) (by kernel_rfl) ?_
             refine kD 1 ?_
             refine kE ?_
             obtain rfl := oi h51
             refine kW (L2 := [(2, .ptr 0 0), (3, .ptr 1 0), (4, .bool false), (5, iL s0), (8, iL s0), (11, iL s1), (47, .bool y1)]) (H2 := [.box (encSt144 x0), .box (encSt144 x1)]) hFH hFD [0, 1] ?_
             exact kN [2, 3, 4, 5, 8, 11, 47]
           ·have h52 := condT hb9 h10
            refine RJ.pin 42 (kd := .i64) (by kernel_rfl) (of_decide_eq_true hb9) ?_
            refine kD 2 ?_
            obtain ⟨y0, hy15, h53⟩ := bindS h52
            refine RJ.call0 (d := (some 46)) (f := 82) (args := [.agg (encSt63 x0.around_.a0_), .agg (encSt63 x1.around_.a0_)]) (v := .bool y0) (tr2 := [([], []), ([], []), ([], []), ([], []), ([], []), ([0, 1], []), ([], []), ([], []), ([], []), ([2, 3], []), ([], [4, 5])]) (by kernel_rfl) (by kernel_rfl) (.cons (Le.refl _) (.cons (Le.refl _) .nil)) (affix_Same_ok hy15) (by kernel_rfl) ?_
            refine kD 1 ?_
            refine kE ?_
            obtain rfl := oi h53
            refine kW (L2 := [(2, .ptr 0 0), (3, .ptr 1 0), (4, .bool false), (5, iL s0), (8, iL s0), (11, iL s1), (47, .bool y0)]) (H2 := [.box (encSt144 x0), .box (encSt144 x1)]) hFH hFD [0, 1] ?_
            exact kN [2, 3, 4, 5, 8, 11, 47]
         ·refine kD 10 ?_
          refine kE ?_
          obtain rfl := oi h31
          refine kW (L2 := [(2, .ptr 0 0), (3, .ptr 1 0), (4, .bool false), (5, iL s0), (8, iL s0), (11, iL s1), (47, .bool false)]) (H2 := [.box (encSt144 x0), .box (encSt144 x1)]) hFH hFD [0, 1] ?_
          exact kN [2, 3, 4, 5, 8, 11, 47]
        ·refine cT 47 h30 (fun h54 => ?_)
         refine kF ?_
         refine kK ?_
         refine PJ.blockNormal ?_
         obtain rfl := oi h54
         exact kN [2, 3, 4, 5, 8, 11]
     ·refine kR ?_
      refine kC 2 [2,3,4,5,8,11] ?_
      refine kE ?_
      obtain rfl := oi h19
      exact kLN [2, 3, 4, 5, 8, 11]
    ·refine kF ?_
     refine K.exit 2 (by kernel_rfl) ?_
     refine PJ.passExit ?_
     obtain rfl := oi h18
     refine PJ.loopOut (fun e => nomatch e) (fun he0 => ?_)
     have h55 := congrArg some he0
     refine PJ.blockOut ?_
     refine PJ.blockNormal ?_
     obtain rfl := oi h55
     exact kN [2, 3, 4, 8]
   ·refine kR ?_
    refine kC 2 [2,3,4,8] ?_
    refine kE ?_
    obtain rfl := oi h16
    exact kLN [2, 3, 4, 8]
  ·refine kF ?_
   refine K.exit 0 (by kernel_rfl) ?_
   refine PJ.passExit ?_
   obtain rfl := oi h15
   refine PJ.loopOut (fun e => nomatch e) (fun he1 => ?_)
   have h56 := congrArg some he1
   refine PJ.blockOut ?_
   obtain rfl := oi h56
   refine kW (L2 := [(4, .bool false)]) (H2 := []) hFH hFD [] ?_
   exact kN [4]
 ·refine kSR ?_
  refine kC 1 [4] ?_
  refine kEN ?_
  refine kX ?_
  obtain rfl := oi h13
  exact kZ hFn hFH hFD
end Go.Proofs.YtcapcgbamehojaaGreatDoor
