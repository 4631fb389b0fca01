/-
  The statement PlurReadCard is proved: at every input the law answers true, and its input reads as it did. Conditions: those of the card (package variables are as the program text lays them).
-/
import Derived.Test.YteaokhdkocddcaaDoorP
import Derived.Test.YteaokhdkocddcaaDoorSyGL
import Derived.Test.YteaokhdkocddcaaDoorCards
import Derived.Test.YteaokhdkocddcaaDoorTie
import Derived.ProofKit
import Derived.SizedLaws
import Derived.LaidMore
import Derived.SevenTiedAt
namespace Go.Proofs.YteaokhdkocddcaaDoor
open Go Go.Sy Go.RowKit Go.ChangeShapes Go.WideShapes Go.ChangeAt
set_option linter.unusedVariables false
set_option linter.unusedSimpArgs false
set_option maxRecDepth 100000
set_option maxHeartbeats 4000000

theorem Tryd.own : ownKnob Tryd.prog.godebug = none := by kernel_rfl
theorem Tryd.laidOut : laidOutB Tryd.prog = true := by kernel_rfl

theorem listN2 {α : Type} {l : List α} (h : l.length = 2) : ∃ a0 a1, l = [a0, a1] := by
  match l, h with
  | [a0, a1], _ => exact ⟨a0, a1, rfl⟩
theorem listN4 {α : Type} {l : List α} (h : l.length = 4) : ∃ a0 a1 a2 a3, l = [a0, a1, a2, a3] := by
  match l, h with
  | [a0, a1, a2, a3], _ => exact ⟨a0, a1, a2, a3, rfl⟩
/-- Its numbers are numbers of their kinds, its lists no longer than memory. -/
def WfSt45 (x : St45) : Prop := (WfI .i64) x.Cat_ ∧ WfT x.Text_
theorem tells_T46 {n : Nat} : Tells Tryd.prog (n + 2) 46 encSt45 WfSt45 := fun d cs h hs => by
  have hl : cs.length = 2 := (shows_len Tryd.underlying46 h).trans (by kernel_rfl)
  obtain ⟨c0, c1, rfl⟩ := listN2 hl
  obtain ⟨p0, h0, z0⟩ := shows_field Tryd.underlying46 h hs 0 3 [c0] (by kernel_rfl)
  obtain ⟨x0, e0, w0⟩ : ∃ x : Int, [c0] = (encI .i64) x ∧ (WfI .i64) x := (tells_int Tryd.underlying3) p0 _ h0 z0
  obtain ⟨p1, h1, z1⟩ := shows_field Tryd.underlying46 h hs 1 9 [c1] (by kernel_rfl)
  obtain ⟨x1, e1, w1⟩ : ∃ x : List UInt8, [c1] = encT x ∧ WfT x := (tells_str Tryd.underlying9) p1 _ h1 z1
  refine ⟨⟨x0, x1⟩, ?_, ⟨w0, w1⟩⟩
  show [c0] ++ [c1] = ((encI .i64) x0 ++ encT x1)
  rw [e0, e1]
/-- Its numbers are numbers of their kinds, its lists no longer than memory. -/
def WfSt41 (x : St41) : Prop := (WfL (WfI .u8)) x.I_ ∧ (WfL (WfI .u8)) x.F_ ∧ (WfI .i64) x.W_ ∧ (WfI .i64) x.C_
theorem tells_T42 {n : Nat} : Tells Tryd.prog (n + 3) 42 encSt41 WfSt41 := fun d cs h hs => by
  have hl : cs.length = 4 := (shows_len Tryd.underlying42 h).trans (by kernel_rfl)
  obtain ⟨c0, c1, c2, c3, rfl⟩ := listN4 hl
  obtain ⟨p0, h0, z0⟩ := shows_field Tryd.underlying42 h hs 0 40 [c0] (by kernel_rfl)
  obtain ⟨x0, e0, w0⟩ : ∃ x : List Int, [c0] = (encL (encI .u8) 1) x ∧ (WfL (WfI .u8)) x := (tells_list (enc := (encI .u8)) (Wf := (WfI .u8)) Tryd.underlying40 (k := 1) (by kernel_rfl) (by kernel_rfl) (tells_int Tryd.underlying5)) p0 _ h0 z0
  obtain ⟨p1, h1, z1⟩ := shows_field Tryd.underlying42 h hs 1 40 [c1] (by kernel_rfl)
  obtain ⟨x1, e1, w1⟩ : ∃ x : List Int, [c1] = (encL (encI .u8) 1) x ∧ (WfL (WfI .u8)) x := (tells_list (enc := (encI .u8)) (Wf := (WfI .u8)) Tryd.underlying40 (k := 1) (by kernel_rfl) (by kernel_rfl) (tells_int Tryd.underlying5)) p1 _ h1 z1
  obtain ⟨p2, h2, z2⟩ := shows_field Tryd.underlying42 h hs 2 3 [c2] (by kernel_rfl)
  obtain ⟨x2, e2, w2⟩ : ∃ x : Int, [c2] = (encI .i64) x ∧ (WfI .i64) x := (tells_int Tryd.underlying3) p2 _ h2 z2
  obtain ⟨p3, h3, z3⟩ := shows_field Tryd.underlying42 h hs 3 3 [c3] (by kernel_rfl)
  obtain ⟨x3, e3, w3⟩ : ∃ x : Int, [c3] = (encI .i64) x ∧ (WfI .i64) x := (tells_int Tryd.underlying3) p3 _ h3 z3
  refine ⟨⟨x0, x1, x2, x3⟩, ?_, ⟨w0, w1, w2, w3⟩⟩
  show [c0] ++ [c1] ++ [c2] ++ [c3] = ((encL (encI .u8) 1) x0 ++ (encL (encI .u8) 1) x1 ++ (encI .i64) x2 ++ (encI .i64) x3)
  rw [e0, e1, e2, e3]
theorem shown_eq : exerguelaw12_shown = some true := by kernel_rfl
theorem Read_true (a : List St45) (w : WfL WfSt45 a) (o : St41) (wo : WfSt41 o) : exerguelaw12_PlurRead a o = some true := by
  obtain ⟨wI, wF, _, _⟩ := wo
  have lI := wI.1
  have lF := wF.1
  unfold exerguelaw12_PlurRead
  rw [shown_eq]
  obtain ⟨b, hb, hs⟩ := short12 w.1
  rw [hb]
  simp only [Option.bind_some]
  cases b with
  | false => rfl
  | true =>
    obtain ⟨h8, h500⟩ := hs rfl
    simp only [Bool.not_true, cond_false]
    by_cases hlen : (o.I_.length : Int) + (o.F_.length : Int) > 1000
    · rw [w64 (by omega) (by omega), dT hlen]; rfl
    · rw [w64 (by omega) (by omega), dF hlen, rright_eq (by omega) (by omega)]
      simp only [cond_false, Option.bind_some]
      cases hro : rightB o with
      | false => rfl
      | true =>
        have ho := operOk wI wF hro (by omega)
        simp only [Bool.not_true, cond_false, joinX, Option.bind_some]
        rw [read_eq (by omega) (fun r hr => (by have := h500 r hr; omega))]
        simp only [Option.bind_some]
        obtain ⟨s, h1, h2⟩ := rd_spec a 0 0 []
        rw [h1]
        rcases h2 with ⟨a1, a2, a3, new, b1, b2, b3⟩ | ⟨a1, a2, a3, a4, l, a5, a6⟩
        · have hlen2 : (s.1.length : Int) = (a.length : Int) := by rw [a3]; simp
          have hco : condsOk s.1 := fun r hr => by
            rw [b1] at hr
            obtain ⟨_, t, ht⟩ := b3 r (by simpa using hr)
            obtain ⟨_, q2, q3, _⟩ := parse_ok ht
            exact ⟨q3, q2⟩
          have hcat : s.1.map (fun r => r.Cat_) = a.map (fun r => r.Cat_) := by rw [b1]; simpa using b2
          rw [dF (show ¬ ¬ s.2.2 = 0 by omega)]
          simp only [cond_false]
          rw [dF (show ¬ ¬ (s.1.length : Int) = (a.length : Int) by omega), of_eq ho (by omega) hco]
          simp only [cond_false, Option.bind_some]
          generalize hcc : ofP s.1 o = cat
          -- a number is of one of these, or other
          have hmem : cat = 0 ∨ ∃ r ∈ a, r.Cat_ = cat := by
            have : ∀ l : List St36, ofP l o = 0 ∨ ∃ r ∈ l, r.Cat_ = ofP l o := by
              intro l
              induction l with
              | nil => exact .inl rfl
              | cons r l ih =>
                unfold ofP
                split
                · exact .inr ⟨r, List.mem_cons_self .., rfl⟩
                · rcases ih with h | ⟨y, hy, e⟩
                  · exact .inl h
                  · exact .inr ⟨y, List.mem_cons_of_mem _ hy, e⟩
            rcases this s.1 with h | ⟨y, hy, e⟩
            · rw [hcc] at h; exact .inl h
            · rw [hcc] at e
              right
              have : y.Cat_ ∈ a.map (fun r => r.Cat_) := by rw [← hcat]; exact List.mem_map.2 ⟨y, hy, rfl⟩
              obtain ⟨r, hr, e2⟩ := List.mem_map.1 this
              exact ⟨r, hr, e2.trans e⟩
          refine bind_of (fun q : Bool ⊕ Bool => q = .inl true) (loop_row a (s0 := (decide (cat = 0), (0 : Int))) (fun pre => ((decide (cat = 0) || pre.any (fun r => decide (r.Cat_ = cat)) : Bool), (pre.length : Int))) (fun _ => True) (fun q : Bool ⊕ Bool => q = .inl true) (by simp) trivial (fun pre r suf h _ => ?_) (fun _ => ⟨.inl (decide (cat = 0) || a.any (fun r => decide (r.Cat_ = cat))), ?_, ?_⟩) (by omega)) (fun q hq => ?_)
          · left
            refine ⟨?_, trivial⟩
            have hb2 : (pre ++ r :: suf).length ≤ 4611686018427387904 := by rw [← h]; omega
            have hi1 : inR (pre.length : Int) s.1.length = true := by
              have : pre.length < s.1.length := by rw [h] at hlen2; simp at hlen2; omega
              simp [inR]; omega
            have hi2 : inR (pre.length : Int) a.length = true := by rw [h, inR_mid]
            have hn2 : nth a (pre.length : Int) = r := by rw [h, nth_mid]
            have hn1 : (nth s.1 (pre.length : Int)).Cat_ = r.Cat_ := by
              have e1 : (s.1.map (fun r => r.Cat_))[pre.length]? = (a.map (fun r => r.Cat_))[pre.length]? := by rw [hcat]
              rw [h, List.getElem?_map, List.getElem?_map] at e1
              simp at e1
              obtain ⟨y, hy1, hy2⟩ := e1
              simp [nth, hy1, hy2]
            simp only
            rw [dT (show (pre.length : Int) < (a.length : Int) by rw [h]; simp; omega), hi1, hi2, hn1, hn2, dF (by simp), ← w_mid hb2]
            simp only [cond_true, cond_false]
            cases h9 : (decide (cat = 0) || pre.any (fun r => decide (r.Cat_ = cat))) with
            | true => simp [joinX, h9, List.any_append, ← Bool.or_assoc]
            | false => simp [joinX, h9, List.any_append, ← Bool.or_assoc]
          · simp only; rw [lt_end]; rfl
          · congr 1
            rcases hmem with h | ⟨r, hr, e⟩
            · rw [decide_eq_true h]; rfl
            · rw [Bool.or_eq_true]
              right
              exact List.any_eq_true.2 ⟨r, hr, decide_eq_true e⟩
          · subst hq; rfl
        · rw [dT a1, a2]; rfl

def laidD {H : Type} : List (String × DataW H) := [("math/bits.deBruijn32tab", Rows.laid_math_bits_deBruijn32tab), ("math/bits.deBruijn64tab", Rows.laid_math_bits_deBruijn64tab), ("internal/strconv.uint64pow10", Rows.laid_internal_strconv_uint64pow10)]
theorem door_met (os : Os) (args : Array Value) : laidMetH Tryd.prog laidD ((World.doorLaid Tryd.prog 4000 os).forCall (fun _ _ => 0) ⟨#[], args, []⟩).memory :=
  laidMetH_of_parts3 (fuel := 8) (laidMet_of_run' 8 (by kernel_rfl) (by kernel_rfl)) (by kernel_rfl) (by kernel_rfl)

/-- Package variables hold what they are said to. -/
theorem globs_ok {W : World} (hL : laidMetH Tryd.prog laidD W) : GlobOk W (KW W) fun _ => none := fun g cs h => by
  have hh : (laidD (H := Unit)).all (fun x => x.2.handleName?.isNone) = true := by kernel_rfl
  by_cases h1 : g = 1
  · subst h1
    obtain rfl := Option.some.inj (show some [.int .u64 1, .int .u64 10, .int .u64 100, .int .u64 1000, .int .u64 10000, .int .u64 100000, .int .u64 1000000, .int .u64 10000000, .int .u64 100000000, .int .u64 1000000000, .int .u64 10000000000, .int .u64 100000000000, .int .u64 1000000000000, .int .u64 10000000000000, .int .u64 100000000000000, .int .u64 1000000000000000, .int .u64 10000000000000000, .int .u64 100000000000000000, .int .u64 1000000000000000000, .int .u64 10000000000000000000] = some cs from h)
    exact glob_ints hh hL (nm := "internal/strconv.uint64pow10") (t := 131) (e := 118) (n := 20) (k := .u64) [1, 10, 100, 1000, 10000, 100000, 1000000, 10000000, 100000000, 1000000000, 10000000000, 100000000000, 1000000000000, 10000000000000, 100000000000000, 1000000000000000, 10000000000000000, 100000000000000000, 1000000000000000000, 10000000000000000000] (by unfold laidD; simp only [List.mem_cons, List.not_mem_nil, or_false]; first | exact Or.inl rfl | exact Or.inr (Or.inl rfl) | exact Or.inr (Or.inr (Or.inl rfl)) | exact Or.inr rfl | exact Or.inr (Or.inr rfl) | exact Or.inr (Or.inr (Or.inr rfl)) | rfl) (by kernel_rfl) (by kernel_rfl) Tryd.underlying131 Tryd.underlying118 (by kernel_rfl) (by kernel_rfl)
  by_cases h2 : g = 2
  · subst h2
    obtain rfl := Option.some.inj (show some [.int .u8 0, .int .u8 1, .int .u8 28, .int .u8 2, .int .u8 29, .int .u8 14, .int .u8 24, .int .u8 3, .int .u8 30, .int .u8 22, .int .u8 20, .int .u8 15, .int .u8 25, .int .u8 17, .int .u8 4, .int .u8 8, .int .u8 31, .int .u8 27, .int .u8 13, .int .u8 23, .int .u8 21, .int .u8 19, .int .u8 16, .int .u8 7, .int .u8 26, .int .u8 12, .int .u8 18, .int .u8 6, .int .u8 11, .int .u8 5, .int .u8 10, .int .u8 9] = some cs from h)
    exact glob_ints hh hL (nm := "math/bits.deBruijn32tab") (t := 140) (e := 5) (n := 32) (k := .u8) [0, 1, 28, 2, 29, 14, 24, 3, 30, 22, 20, 15, 25, 17, 4, 8, 31, 27, 13, 23, 21, 19, 16, 7, 26, 12, 18, 6, 11, 5, 10, 9] (by unfold laidD; simp only [List.mem_cons, List.not_mem_nil, or_false]; first | exact Or.inl rfl | exact Or.inr (Or.inl rfl) | exact Or.inr (Or.inr (Or.inl rfl)) | exact Or.inr rfl | exact Or.inr (Or.inr rfl) | exact Or.inr (Or.inr (Or.inr rfl)) | rfl) (by kernel_rfl) (by kernel_rfl) Tryd.underlying140 Tryd.underlying5 (by kernel_rfl) (by kernel_rfl)
  by_cases h3 : g = 3
  · subst h3
    obtain rfl := Option.some.inj (show some [.int .u8 0, .int .u8 1, .int .u8 56, .int .u8 2, .int .u8 57, .int .u8 49, .int .u8 28, .int .u8 3, .int .u8 61, .int .u8 58, .int .u8 42, .int .u8 50, .int .u8 38, .int .u8 29, .int .u8 17, .int .u8 4, .int .u8 62, .int .u8 47, .int .u8 59, .int .u8 36, .int .u8 45, .int .u8 43, .int .u8 51, .int .u8 22, .int .u8 53, .int .u8 39, .int .u8 33, .int .u8 30, .int .u8 24, .int .u8 18, .int .u8 12, .int .u8 5, .int .u8 63, .int .u8 55, .int .u8 48, .int .u8 27, .int .u8 60, .int .u8 41, .int .u8 37, .int .u8 16, .int .u8 46, .int .u8 35, .int .u8 44, .int .u8 21, .int .u8 52, .int .u8 32, .int .u8 23, .int .u8 11, .int .u8 54, .int .u8 26, .int .u8 40, .int .u8 15, .int .u8 34, .int .u8 20, .int .u8 31, .int .u8 10, .int .u8 25, .int .u8 14, .int .u8 19, .int .u8 9, .int .u8 13, .int .u8 8, .int .u8 7, .int .u8 6] = some cs from h)
    exact glob_ints hh hL (nm := "math/bits.deBruijn64tab") (t := 141) (e := 5) (n := 64) (k := .u8) [0, 1, 56, 2, 57, 49, 28, 3, 61, 58, 42, 50, 38, 29, 17, 4, 62, 47, 59, 36, 45, 43, 51, 22, 53, 39, 33, 30, 24, 18, 12, 5, 63, 55, 48, 27, 60, 41, 37, 16, 46, 35, 44, 21, 52, 32, 23, 11, 54, 26, 40, 15, 34, 20, 31, 10, 25, 14, 19, 9, 13, 8, 7, 6] (by unfold laidD; simp only [List.mem_cons, List.not_mem_nil, or_false]; first | exact Or.inl rfl | exact Or.inr (Or.inl rfl) | exact Or.inr (Or.inr (Or.inl rfl)) | exact Or.inr rfl | exact Or.inr (Or.inr rfl) | exact Or.inr (Or.inr (Or.inr rfl)) | rfl) (by kernel_rfl) (by kernel_rfl) Tryd.underlying141 Tryd.underlying5 (by kernel_rfl) (by kernel_rfl)
  exfalso
  have : gtabs g = none := by
    unfold gtabs
    split <;> first | rfl | (exfalso; simp_all)
  rw [show gtab g = gtabs g from rfl, this] at h
  cases h

set_option maxRecDepth 100000 in
theorem PlurRead_lifted (os : Os) (started : os.Started) (H : Type) (enc : TypeId × Value → H) :
    ReturnsInHanded {} Tryd.checked os 5 .any (fun w args => (Rows.plurReadSpec.pre enc Tryd.prog Tryd.f5 [] false w args ∧ laidMetH Tryd.prog laidD w) ∧ sizedMet enc Tryd.prog Tryd.f5 (OpenSpec.ofChange Rows.plurReadSpec) false w args) (Rows.plurReadSpec.post enc Tryd.prog Tryd.f5 false true false false) := by
  refine returnsInHanded_of_change_and (C := Tryd.checked) (X := fun w _ => laidMetH Tryd.prog laidD w) (fun _ _ _ hh h => h.of_heap hh) Tryd.own started (by kernel_rfl) Tryd.func5
    (ChangeSpec.witness_shaped (enc := enc) (C := Tryd.checked) (os := os) (X := fun w _ => laidMetH Tryd.prog laidD w) false (World.doorLaid Tryd.prog 4000 os) #[.slice none 0 0, .agg #[.slice none 0 0, .slice none 0 0, .int .i64 0, .int .i64 0]] 8 rfl (World.shaped_of_RefB (by kernel_rfl) (by kernel_rfl)) (by kernel_rfl) (by kernel_rfl) (by kernel_rfl) (door_met os _)) ?_
  intro W base args ds gs before hval0 hW _ hsz0 hL _
  have hsz : (DataW.weightsEach Tryd.prog (Tryd.f5.params.toList ++ Rows.plurReadSpec.plain.varTypes Tryd.prog) (ds ++ gs)).all (· ≤ reachBytes) = true := hsz0
  clear hsz0
  refine law_post (P := Tryd.prog) (n := 3) (tb := 4) Tryd.laidOut Tryd.underlying4 rfl rfl (by kernel_rfl) (fun h => ?_) hval0 hW ?_ (globs_ok hL)
  · rw [Tryd.params5] at h
    obtain ⟨d0, d1, rfl⟩ := l2 h
    exact ⟨rfl, rfl, rfl⟩
  · intro ss hg hl1 hl2 hs
    subst hg
    rw [Tryd.params5] at hl1 hl2 hs hsz
    obtain ⟨d0, d1, rfl⟩ := l2 hl1
    obtain ⟨s0, s1, rfl⟩ := l2 hl2
    obtain ⟨a0, e0, w0⟩ := (show Tells Tryd.prog 3 22 (encL encSt45 2) (WfL WfSt45) from (tells_list (enc := encSt45) (Wf := WfSt45) Tryd.underlying22 (k := 2) (by kernel_rfl) (by kernel_rfl) tells_T46)) _ _ (showsV_scalar Tryd.underlying22 (fun _ => by simp) (fun _ _ => by simp) (hs 0 22 _ _ rfl rfl rfl)) (sized_param hsz (j := 0) rfl rfl)
    obtain rfl : s0 = lsv encSt45 2 a0 := (List.cons.inj e0).1
    obtain ⟨cs1, rfl, hc1⟩ := showsV_struct Tryd.underlying42 (hs 1 42 _ _ rfl rfl rfl)
    obtain ⟨a1, rfl, w1⟩ := tells_T42 (n := 0) _ _ hc1 (sized_param hsz (j := 1) rfl rfl)
    exact ⟨[], exerguelaw12_PlurRead_ok (Read_true a0 w0 a1 w1)⟩
theorem PlurRead_row : Rows.PlurReadSaid :=
  OpenClaim.holds_of_wide 5 Tryd.f5 rfl rfl rfl rfl rfl rfl rfl ⟨rfl, rfl, rfl, rfl, rfl⟩ rfl rfl rfl rfl rfl (by kernel_rfl) Tryd.func5 (by kernel_rfl)
    (of_decide_eq_true (by kernel_rfl)) (by unfold Func.isWrapper; first | (rw [if_pos (by decide +kernel)]; kernel_rfl) | (rw [if_neg (by decide +kernel)]; exact ⟨rfl, rfl⟩))
    (fun os started H enc _ => PlurRead_lifted os started H enc)

theorem PlurRead_holds : Rows.PlurReadCardSaid :=
  Claim7.holds_tied_plain_at .later [] [.data, .data, .data] true (true, "603a443b9f164538e0739a3ea5e8106252434e29fdafd7d40ff0f4cd6fa4a95a") false
    PlurRead_row (fun _ h => by cases h) (by kernel_rfl) (fun _ h => by cases h) plurRead_row_tie rfl ⟨rfl, rfl⟩ (by kernel_rfl) rfl
    (fun f fn hf hfn => by
      obtain rfl : f = 5 := Option.some.inj ((show Tryd.prog.funcNamed "exergue/exerguelaw12.PlurRead" = some 5 by kernel_rfl).symm.trans hf) |>.symm
      obtain rfl : fn = Tryd.f5 := (Option.some.inj (Tryd.func5.symm.trans hfn)).symm
      exact ⟨by kernel_rfl, fun j t ht => by
        rw [Tryd.params5] at ht
        have hm : t ∈ [22, 42] := by simpa using Array.mem_of_getElem? ht
        have hall : ([22, 42].all fun u => !Tryd.prog.wantsStandIn u) = true := by kernel_rfl
        exact (show Tryd.prog.wantsStandIn t = false by simpa using List.all_eq_true.1 hall t hm)⟩)
    (by kernel_rfl)

end Go.Proofs.YteaokhdkocddcaaDoor
