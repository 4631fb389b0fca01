/-
  What the functions of this program come to, as functions of natives, each with the proof that it does. No conditions.
-/
import Derived.Test.YtpofnipphhljeaaProg
import Derived.Test.YtpofnipphhljeaaSyV
import Derived.Test.YtpofnipphhljeaaGa
namespace Go.Proofs.Ytpofnipphhljeaa
open Go Go.Sy Go.RowKit
set_option linter.unusedVariables false
set_option linter.unusedSimpArgs false
set_option maxRecDepth 100000

def exergueref05_Number : Nat → Int → Option (List UInt8)
  | 0, _ => none
  | n + 1, x0 => (bif (decide (x0 < 0)) then (Option.bind (exergueref05_Number n (IntKind.wrap .i64 (0 - x0))) fun y4 => (bif room (([45] : List UInt8).length + y4.length) then (some (([45] : List UInt8) ++ y4)) else none)) else (Option.bind (loopN (fun (s34 : Int × (List UInt8)) => (bif (decide (s34.1 ≥ 10)) then (bif room (((bytesS (([(IntKind.wrap .u8 ((IntKind.wrap .i64 (48 + ((Int.tmod (IntKind.wrap .i64 (Int.tdiv s34.1 10)) 10))))))] : List Int)))).length + s34.2.length) then (some (.inl ((IntKind.wrap .i64 (Int.tdiv s34.1 10)), (((bytesS (([(IntKind.wrap .u8 ((IntKind.wrap .i64 (48 + ((Int.tmod (IntKind.wrap .i64 (Int.tdiv s34.1 10)) 10))))))] : List Int)))) ++ s34.2)))) else none) else (some (.inr s34.2)))) big (x0, (bytesS (([(IntKind.wrap .u8 ((IntKind.wrap .i64 (48 + (Int.tmod x0 10)))))] : List Int))))) fun (s29 : (List UInt8)) => (some s29)))
theorem exergueref05_Number_ok : ∀ (n : Nat) {x0 : Int} {r : List UInt8} (h : exergueref05_Number n x0 = some r), SC Try.prog 36 [.int .i64 x0] [] (.str r) [] := by
  intro n
  induction n with
  | zero => intro x0 r h; cases h
  | succ n ih =>
  intro x0 r h
  refine K.fn (fn := Try.f36) (by kernel_rfl) (by kernel_rfl) (by kernel_rfl) (by kernel_rfl) (by kernel_rfl) (fun F hFn hFH hFD => ?_)
  rw [exergueref05_Number.eq_2] at h
  refine K.seq (by kernel_rfl) ?_
  refine K.region (by kernel_rfl) ?_
  refine RJ.seg 1 [0, 2] (L2 := [(0, .int .i64 x0), (2, .str ([] : List UInt8))]) (H2 := []) (by kernel_rfl) ?_
  refine RJ.end (by kernel_rfl) ?_
  refine PJ.next ?_
  refine K.seq (by kernel_rfl) ?_
  refine K.seq (by kernel_rfl) ?_
  refine K.region (by kernel_rfl) ?_
  refine RJ.seg 2 [0, 2, 5] (L2 := [(0, .int .i64 x0), (2, .str ([] : List UInt8)), (5, .bool (decide (x0 < 0)))]) (H2 := []) (by kernel_rfl) ?_
  refine RJ.end (by kernel_rfl) ?_
  refine PJ.next ?_
  refine J.caseB 5 (b := (decide (x0 < 0))) (by kernel_rfl) (fun hb1 => ?_) (fun hb1 => ?_)
  · have h2 := condT hb1 h
    refine K.condT (by kernel_rfl) ?_
    refine K.seq (by kernel_rfl) ?_
    refine K.region (by kernel_rfl) ?_
    refine RJ.seg 2 [0, 2, 7] (L2 := [(0, .int .i64 x0), (2, .str ([] : List UInt8)), (7, .int .i64 (IntKind.wrap .i64 (0 - x0)))]) (H2 := []) (by kernel_rfl) ?_
    obtain ⟨y4, hy5, h6⟩ := bindS h2
    refine RJ.call0 (d := (some 8)) (f := 36) (args := [.int .i64 (IntKind.wrap .i64 (0 - x0))]) (v := .str y4) (tr2 := []) (by kernel_rfl) (by kernel_rfl) (.cons (Le.refl _) .nil) (ih hy5) (by kernel_rfl) ?_
    obtain ⟨hm, h7⟩ := asrt h6
    refine RJ.rel (d := (some 9)) (ef := ⟨.str (([45] : List UInt8) ++ y4), [], []⟩) (ef' := ⟨.str (([45] : List UInt8) ++ y4), [], []⟩) (c := room (([45] : List UInt8).length + y4.length)) (tr2 := []) (H2 := []) (by kernel_rfl) hm (fun hc => rfl) (by kernel_rfl) ?_
    refine RJ.seg 1 [0, 2] (L2 := [(0, .int .i64 x0), (2, .str (([45] : List UInt8) ++ y4))]) (H2 := []) (by kernel_rfl) ?_
    refine RJ.end (by kernel_rfl) ?_
    refine PJ.next ?_
    refine K.ret (by kernel_rfl) ?_
    refine PJ.passRet ?_
    obtain rfl := Option.some.inj h7
    exact K.ret0 (.inr rfl) hFn hFH hFD (by kernel_rfl) (by kernel_rfl) (by kernel_rfl)
  · have h3 := condF hb1 h
    refine K.condF (by kernel_rfl) ?_
    refine K.skip (by kernel_rfl) ?_
    refine PJ.next ?_
    refine K.seq (by kernel_rfl) ?_
    refine K.region (by kernel_rfl) ?_
    refine RJ.seg 5 [0, 2, 14] (L2 := [(0, .int .i64 x0), (2, .str ([] : List UInt8)), (14, .vc 0)]) (H2 := [vecL (encI .u8) 1 5 (([(IntKind.wrap .u8 ((IntKind.wrap .i64 (48 + (Int.tmod x0 10)))))] : List Int))]) (by kernel_rfl) ?_
    refine RJ.rel (d := (some 15)) (ef := ⟨.str (((([(IntKind.wrap .u8 ((IntKind.wrap .i64 (48 + (Int.tmod x0 10)))))] : List Int)).flatMap (encI .u8)).map Go.Sy.byteOf), [0], []⟩) (ef' := ⟨.str (bytesS (([(IntKind.wrap .u8 ((IntKind.wrap .i64 (48 + (Int.tmod x0 10)))))] : List Int))), [0], []⟩) (c := ((([(IntKind.wrap .u8 ((IntKind.wrap .i64 (48 + (Int.tmod x0 10)))))] : List Int)).flatMap (encI .u8)).all isByte) (tr2 := []) (H2 := [vecL (encI .u8) 1 5 (([(IntKind.wrap .u8 ((IntKind.wrap .i64 (48 + (Int.tmod x0 10)))))] : List Int))]) (by kernel_rfl) (allByte (([(IntKind.wrap .u8 ((IntKind.wrap .i64 (48 + (Int.tmod x0 10)))))] : List Int))) (fun hc => N.toStr) (by kernel_rfl) ?_
    refine RJ.seg 1 [0, 2, 3] (L2 := [(0, .int .i64 x0), (2, .str ([] : List UInt8)), (3, .str ((bytesS (([(IntKind.wrap .u8 ((IntKind.wrap .i64 (48 + (Int.tmod x0 10)))))] : List Int)))))]) (H2 := [vecL (encI .u8) 1 5 (([(IntKind.wrap .u8 ((IntKind.wrap .i64 (48 + (Int.tmod x0 10)))))] : List Int))]) (by kernel_rfl) ?_
    refine RJ.end (by kernel_rfl) ?_
    refine PJ.next ?_
    obtain ⟨s29, hy31, h33⟩ := bindS h3
    refine K.cutN (by kernel_rfl) (fun (s29 : (List UInt8)) => ([(2, .str ([] : List UInt8)), (3, .str s29)], [])) s29 ?_ ?_
    · refine K.block 0 (by kernel_rfl) ?_
      refine J.wk (Wk.sel (L2 := [(0, .int .i64 x0), (2, .str ([] : List UInt8)), (3, .str ((bytesS (([(IntKind.wrap .u8 ((IntKind.wrap .i64 (48 + (Int.tmod x0 10)))))] : List Int)))))]) (H2 := []) 0 (by rw [hFH]; rfl) hFD [] (by kernel_rfl) (by kernel_rfl) (by decide) (by kernel_rfl) (by kernel_rfl) (by kernel_rfl) (by kernel_rfl)) ?_
      refine K.loop (by kernel_rfl) (fun (s34 : Int × (List UInt8)) => ([(0, .int .i64 s34.1), (2, .str ([] : List UInt8)), (3, .str s34.2)], [])) hy31 [0, 2, 3] (by kernel_rfl) (by kernel_rfl) (fun s34 x48 hs47 => ?_)
      refine K.seq (by kernel_rfl) ?_
      refine K.seq (by kernel_rfl) ?_
      refine K.region (by kernel_rfl) ?_
      refine RJ.seg 2 [0, 2, 3, 17] (L2 := [(0, .int .i64 s34.1), (2, .str ([] : List UInt8)), (3, .str s34.2), (17, .bool (decide (s34.1 ≥ 10)))]) (H2 := []) (by kernel_rfl) ?_
      refine RJ.end (by kernel_rfl) ?_
      refine PJ.next ?_
      refine J.caseB 17 (b := (decide (s34.1 ≥ 10))) (by kernel_rfl) (fun hb49 => ?_) (fun hb49 => ?_)
      · have h50 := condT hb49 hs47
        refine K.condT (by kernel_rfl) ?_
        refine K.skip (by kernel_rfl) ?_
        refine PJ.next ?_
        refine K.block 1 (by kernel_rfl) ?_
        refine K.seq (by kernel_rfl) ?_
        refine K.region (by kernel_rfl) ?_
        refine RJ.seg 3 [0, 2, 3] (L2 := [(0, .int .i64 (IntKind.wrap .i64 (Int.tdiv s34.1 10))), (2, .str ([] : List UInt8)), (3, .str s34.2)]) (H2 := []) (by kernel_rfl) ?_
        refine RJ.end (by kernel_rfl) ?_
        refine PJ.next ?_
        refine K.region (by kernel_rfl) ?_
        refine RJ.seg 5 [0, 2, 3, 24] (L2 := [(0, .int .i64 (IntKind.wrap .i64 (Int.tdiv s34.1 10))), (2, .str ([] : List UInt8)), (3, .str s34.2), (24, .vc 0)]) (H2 := [vecL (encI .u8) 1 5 (([(IntKind.wrap .u8 ((IntKind.wrap .i64 (48 + ((Int.tmod (IntKind.wrap .i64 (Int.tdiv s34.1 10)) 10))))))] : List Int))]) (by kernel_rfl) ?_
        refine RJ.rel (d := (some 25)) (ef := ⟨.str (((([(IntKind.wrap .u8 ((IntKind.wrap .i64 (48 + ((Int.tmod (IntKind.wrap .i64 (Int.tdiv s34.1 10)) 10))))))] : List Int)).flatMap (encI .u8)).map Go.Sy.byteOf), [0], []⟩) (ef' := ⟨.str (bytesS (([(IntKind.wrap .u8 ((IntKind.wrap .i64 (48 + ((Int.tmod (IntKind.wrap .i64 (Int.tdiv s34.1 10)) 10))))))] : List Int))), [0], []⟩) (c := ((([(IntKind.wrap .u8 ((IntKind.wrap .i64 (48 + ((Int.tmod (IntKind.wrap .i64 (Int.tdiv s34.1 10)) 10))))))] : List Int)).flatMap (encI .u8)).all isByte) (tr2 := []) (H2 := [vecL (encI .u8) 1 5 (([(IntKind.wrap .u8 ((IntKind.wrap .i64 (48 + ((Int.tmod (IntKind.wrap .i64 (Int.tdiv s34.1 10)) 10))))))] : List Int))]) (by kernel_rfl) (allByte (([(IntKind.wrap .u8 ((IntKind.wrap .i64 (48 + ((Int.tmod (IntKind.wrap .i64 (Int.tdiv s34.1 10)) 10))))))] : List Int))) (fun hc => N.toStr) (by kernel_rfl) ?_
        refine RJ.seg 1 [0, 2, 3, 25, 26] (L2 := [(0, .int .i64 (IntKind.wrap .i64 (Int.tdiv s34.1 10))), (2, .str ([] : List UInt8)), (3, .str s34.2), (25, .str ((bytesS (([(IntKind.wrap .u8 ((IntKind.wrap .i64 (48 + ((Int.tmod (IntKind.wrap .i64 (Int.tdiv s34.1 10)) 10))))))] : List Int))))), (26, .str s34.2)]) (H2 := [vecL (encI .u8) 1 5 (([(IntKind.wrap .u8 ((IntKind.wrap .i64 (48 + ((Int.tmod (IntKind.wrap .i64 (Int.tdiv s34.1 10)) 10))))))] : List Int))]) (by kernel_rfl) ?_
        obtain ⟨hm, h52⟩ := asrt h50
        refine RJ.rel (d := (some 27)) (ef := ⟨.str (((bytesS (([(IntKind.wrap .u8 ((IntKind.wrap .i64 (48 + ((Int.tmod (IntKind.wrap .i64 (Int.tdiv s34.1 10)) 10))))))] : List Int)))) ++ s34.2), [], []⟩) (ef' := ⟨.str (((bytesS (([(IntKind.wrap .u8 ((IntKind.wrap .i64 (48 + ((Int.tmod (IntKind.wrap .i64 (Int.tdiv s34.1 10)) 10))))))] : List Int)))) ++ s34.2), [], []⟩) (c := room (((bytesS (([(IntKind.wrap .u8 ((IntKind.wrap .i64 (48 + ((Int.tmod (IntKind.wrap .i64 (Int.tdiv s34.1 10)) 10))))))] : List Int)))).length + s34.2.length)) (tr2 := []) (H2 := [vecL (encI .u8) 1 5 (([(IntKind.wrap .u8 ((IntKind.wrap .i64 (48 + ((Int.tmod (IntKind.wrap .i64 (Int.tdiv s34.1 10)) 10))))))] : List Int))]) (by kernel_rfl) hm (fun hc => rfl) (by kernel_rfl) ?_
        refine RJ.seg 1 [0, 2, 3] (L2 := [(0, .int .i64 (IntKind.wrap .i64 (Int.tdiv s34.1 10))), (2, .str ([] : List UInt8)), (3, .str ((((bytesS (([(IntKind.wrap .u8 ((IntKind.wrap .i64 (48 + ((Int.tmod (IntKind.wrap .i64 (Int.tdiv s34.1 10)) 10))))))] : List Int)))) ++ s34.2)))]) (H2 := [vecL (encI .u8) 1 5 (([(IntKind.wrap .u8 ((IntKind.wrap .i64 (48 + ((Int.tmod (IntKind.wrap .i64 (Int.tdiv s34.1 10)) 10))))))] : List Int))]) (by kernel_rfl) ?_
        refine RJ.end (by kernel_rfl) ?_
        refine PJ.blockNormal ?_
        obtain rfl := Option.some.inj h52
        refine PJ.wk (Wk.sel (L2 := [(0, .int .i64 (IntKind.wrap .i64 (Int.tdiv s34.1 10))), (2, .str ([] : List UInt8)), (3, .str ((((bytesS (([(IntKind.wrap .u8 ((IntKind.wrap .i64 (48 + ((Int.tmod (IntKind.wrap .i64 (Int.tdiv s34.1 10)) 10))))))] : List Int)))) ++ s34.2)))]) (H2 := []) 0 (by rw [hFH]; rfl) hFD [] (by kernel_rfl) (by kernel_rfl) (by decide) (by kernel_rfl) (by kernel_rfl) (by kernel_rfl) (by kernel_rfl)) ?_
        exact PJ.loopNext [0, 2, 3] (by kernel_rfl) (by kernel_rfl)
      · have h51 := condF hb49 hs47
        refine K.condF (by kernel_rfl) ?_
        refine K.exit 0 (by kernel_rfl) ?_
        refine PJ.passExit ?_
        obtain rfl := Option.some.inj h51
        refine PJ.loopOut (fun e => nomatch e) (fun he54 => ?_)
        have h53 := congrArg some he54
        refine PJ.blockOut ?_
        obtain rfl := Option.some.inj h53
        exact PJ.cutN [2, 3] (by kernel_rfl) (by kernel_rfl)
    · refine K.seq (by kernel_rfl) ?_
      refine K.region (by kernel_rfl) ?_
      refine RJ.seg 2 [2] (L2 := [(2, .str s29)]) (H2 := []) (by kernel_rfl) ?_
      refine RJ.end (by kernel_rfl) ?_
      refine PJ.next ?_
      refine K.ret (by kernel_rfl) ?_
      obtain rfl := Option.some.inj h33
      exact K.ret0 (.inr rfl) hFn hFH hFD (by kernel_rfl) (by kernel_rfl) (by kernel_rfl)

def exergueref05_Text (x0 : St23) : Option (List UInt8) :=
  (Option.bind (bif x0.Neg_ then (some ([45] : List UInt8)) else (some ([] : List UInt8))) fun (s4 : (List UInt8)) => (Option.bind (loopN (fun (s41 : (List UInt8) × Int) => (bif (decide (s41.2 < (x0.D_.length : Int))) then (bif inR s41.2 x0.D_.length then (bif room (s41.1.length + ((bytesS (([(IntKind.wrap .u8 (48 + (nth x0.D_ s41.2)))] : List Int)))).length) then (some (.inl ((s41.1 ++ ((bytesS (([(IntKind.wrap .u8 (48 + (nth x0.D_ s41.2)))] : List Int))))), (IntKind.wrap .i64 (s41.2 + 1))))) else none) else none) else (some (.inr s41.1)))) big (s4, 0)) fun (s36 : (List UInt8)) => (Option.bind (bif (decide ((x0.D_.length : Int) = 0)) then (bif room (s36.length + ([48] : List UInt8).length) then (some (s36 ++ ([48] : List UInt8))) else none) else (some s36)) fun (s69 : (List UInt8)) => (bif room (s69.length + ([101] : List UInt8).length) then (Option.bind (exergueref05_Number big x0.E_) fun y79 => (bif room ((s69 ++ ([101] : List UInt8)).length + y79.length) then (some ((s69 ++ ([101] : List UInt8)) ++ y79)) else none)) else none))))
theorem exergueref05_Text_ok {x0 : St23} {r : List UInt8} (h : exergueref05_Text x0 = some r) : SC Try.prog 22 [.agg [.bool x0.Neg_, lsv (encI .u8) 1 x0.D_, .int .i64 x0.E_]] [] (.str r) [] := by
  refine K.fn (fn := Try.f22) (by kernel_rfl) (by kernel_rfl) (by kernel_rfl) (by kernel_rfl) (by kernel_rfl) (fun F hFn hFH hFD => ?_)
  unfold exergueref05_Text at h
  refine K.seq (by kernel_rfl) ?_
  refine K.region (by kernel_rfl) ?_
  refine RJ.seg 2 [1, 2] (L2 := [(1, .ptr 0 0), (2, .str ([] : List UInt8))]) (H2 := [.box [.bool x0.Neg_, lsv (encI .u8) 1 x0.D_, .int .i64 x0.E_]]) (by kernel_rfl) ?_
  refine RJ.end (by kernel_rfl) ?_
  refine PJ.next ?_
  refine K.seq (by kernel_rfl) ?_
  refine K.region (by kernel_rfl) ?_
  refine RJ.seg 1 [1, 2, 3] (L2 := [(1, .ptr 0 0), (2, .str ([] : List UInt8)), (3, .str ([] : List UInt8))]) (H2 := [.box [.bool x0.Neg_, lsv (encI .u8) 1 x0.D_, .int .i64 x0.E_]]) (by kernel_rfl) ?_
  refine RJ.end (by kernel_rfl) ?_
  refine PJ.next ?_
  obtain ⟨s4, hy6, h8⟩ := bindS h
  refine K.cutN (by kernel_rfl) (fun (s4 : (List UInt8)) => ([(1, .ptr 0 0), (2, .str ([] : List UInt8)), (3, .str s4)], [.box [.bool x0.Neg_, lsv (encI .u8) 1 x0.D_, .int .i64 x0.E_]])) s4 ?_ ?_
  · refine K.seq (by kernel_rfl) ?_
    refine K.region (by kernel_rfl) ?_
    refine RJ.seg 2 [1, 2, 3, 6] (L2 := [(1, .ptr 0 0), (2, .str ([] : List UInt8)), (3, .str ([] : List UInt8)), (6, .bool x0.Neg_)]) (H2 := [.box [.bool x0.Neg_, lsv (encI .u8) 1 x0.D_, .int .i64 x0.E_]]) (by kernel_rfl) ?_
    refine RJ.end (by kernel_rfl) ?_
    refine PJ.next ?_
    refine J.caseB 6 (b := x0.Neg_) (by kernel_rfl) (fun hb9 => ?_) (fun hb9 => ?_)
    · have h10 := condT hb9 hy6
      refine K.condT (by kernel_rfl) ?_
      refine K.region (by kernel_rfl) ?_
      refine RJ.seg 1 [1, 2, 3] (L2 := [(1, .ptr 0 0), (2, .str ([] : List UInt8)), (3, .str ([45] : List UInt8))]) (H2 := [.box [.bool x0.Neg_, lsv (encI .u8) 1 x0.D_, .int .i64 x0.E_]]) (by kernel_rfl) ?_
      refine RJ.end (by kernel_rfl) ?_
      obtain rfl := Option.some.inj h10
      exact PJ.cutN [1, 2, 3] (by kernel_rfl) (by kernel_rfl)
    · have h11 := condF hb9 hy6
      refine K.condF (by kernel_rfl) ?_
      refine K.skip (by kernel_rfl) ?_
      obtain rfl := Option.some.inj h11
      exact PJ.cutN [1, 2, 3] (by kernel_rfl) (by kernel_rfl)
  · obtain ⟨s36, hy38, h40⟩ := bindS h8
    refine K.cutN (by kernel_rfl) (fun (s36 : (List UInt8)) => ([(1, .ptr 0 0), (2, .str ([] : List UInt8)), (3, .str s36)], [.box [.bool x0.Neg_, lsv (encI .u8) 1 x0.D_, .int .i64 x0.E_]])) s36 ?_ ?_
    · refine K.seq (by kernel_rfl) ?_
      refine K.region (by kernel_rfl) ?_
      refine RJ.seg 1 [1, 2, 3, 4] (L2 := [(1, .ptr 0 0), (2, .str ([] : List UInt8)), (3, .str s4), (4, .int .i64 0)]) (H2 := [.box [.bool x0.Neg_, lsv (encI .u8) 1 x0.D_, .int .i64 x0.E_]]) (by kernel_rfl) ?_
      refine RJ.end (by kernel_rfl) ?_
      refine PJ.next ?_
      refine K.block 0 (by kernel_rfl) ?_
      refine K.loop (by kernel_rfl) (fun (s41 : (List UInt8) × Int) => ([(1, .ptr 0 0), (2, .str ([] : List UInt8)), (3, .str s41.1), (4, .int .i64 s41.2)], [.box [.bool x0.Neg_, lsv (encI .u8) 1 x0.D_, .int .i64 x0.E_]])) hy38 [1, 2, 3, 4] (by kernel_rfl) (by kernel_rfl) (fun s41 x57 hs56 => ?_)
      refine K.seq (by kernel_rfl) ?_
      refine K.seq (by kernel_rfl) ?_
      refine K.region (by kernel_rfl) ?_
      refine RJ.seg 5 [1, 2, 3, 4, 11] (L2 := [(1, .ptr 0 0), (2, .str ([] : List UInt8)), (3, .str s41.1), (4, .int .i64 s41.2), (11, .bool ((decide (s41.2 < (x0.D_.length : Int)))))]) (H2 := [.box [.bool x0.Neg_, lsv (encI .u8) 1 x0.D_, .int .i64 x0.E_]]) (by kernel_rfl) ?_
      refine RJ.end (by kernel_rfl) ?_
      refine PJ.next ?_
      refine J.caseB 11 (b := (decide (s41.2 < (x0.D_.length : Int)))) (by kernel_rfl) (fun hb58 => ?_) (fun hb58 => ?_)
      · have h59 := condT hb58 hs56
        refine K.condT (by kernel_rfl) ?_
        refine K.skip (by kernel_rfl) ?_
        refine PJ.next ?_
        refine K.seq (by kernel_rfl) ?_
        refine K.block 1 (by kernel_rfl) ?_
        refine K.region (by kernel_rfl) ?_
        refine RJ.seg 4 [1, 2, 3, 4, 14, 16, 17] (L2 := [(1, .ptr 0 0), (2, .str ([] : List UInt8)), (3, .str s41.1), (4, .int .i64 s41.2), (14, .str s41.1), (16, lsv (encI .u8) 1 x0.D_), (17, .int .i64 s41.2)]) (H2 := [.box [.bool x0.Neg_, lsv (encI .u8) 1 x0.D_, .int .i64 x0.E_]]) (by kernel_rfl) ?_
        obtain ⟨hm, h61⟩ := asrt h59
        refine RJ.rel (d := (some 18)) (ef := ⟨.ep (((x0.D_.flatMap (encI .u8)).drop ((s41.2 : Int).toNat * 1)).take 1), [], []⟩) (ef' := ⟨.ep ((encI .u8) (nth x0.D_ s41.2)), [], []⟩) (c := inR s41.2 x0.D_.length) (tr2 := []) (H2 := [.box [.bool x0.Neg_, lsv (encI .u8) 1 x0.D_, .int .i64 x0.E_]]) (by kernel_rfl) hm (fun hc => N.idx (encI_len .u8) hc) (by kernel_rfl) ?_
        refine RJ.seg 3 [1, 2, 3, 4, 14, 21] (L2 := [(1, .ptr 0 0), (2, .str ([] : List UInt8)), (3, .str s41.1), (4, .int .i64 s41.2), (14, .str s41.1), (21, .vc 1)]) (H2 := [.box [.bool x0.Neg_, lsv (encI .u8) 1 x0.D_, .int .i64 x0.E_], vecL (encI .u8) 1 5 (([(IntKind.wrap .u8 (48 + (nth x0.D_ s41.2)))] : List Int))]) (by kernel_rfl) ?_
        refine RJ.rel (d := (some 22)) (ef := ⟨.str (((([(IntKind.wrap .u8 (48 + (nth x0.D_ s41.2)))] : List Int)).flatMap (encI .u8)).map Go.Sy.byteOf), [1], []⟩) (ef' := ⟨.str (bytesS (([(IntKind.wrap .u8 (48 + (nth x0.D_ s41.2)))] : List Int))), [1], []⟩) (c := ((([(IntKind.wrap .u8 (48 + (nth x0.D_ s41.2)))] : List Int)).flatMap (encI .u8)).all isByte) (tr2 := []) (H2 := [.box [.bool x0.Neg_, lsv (encI .u8) 1 x0.D_, .int .i64 x0.E_], vecL (encI .u8) 1 5 (([(IntKind.wrap .u8 (48 + (nth x0.D_ s41.2)))] : List Int))]) (by kernel_rfl) (allByte (([(IntKind.wrap .u8 (48 + (nth x0.D_ s41.2)))] : List Int))) (fun hc => N.toStr) (by kernel_rfl) ?_
        obtain ⟨hm, h62⟩ := asrt h61
        refine RJ.rel (d := (some 23)) (ef := ⟨.str (s41.1 ++ ((bytesS (([(IntKind.wrap .u8 (48 + (nth x0.D_ s41.2)))] : List Int))))), [], []⟩) (ef' := ⟨.str (s41.1 ++ ((bytesS (([(IntKind.wrap .u8 (48 + (nth x0.D_ s41.2)))] : List Int))))), [], []⟩) (c := room (s41.1.length + ((bytesS (([(IntKind.wrap .u8 (48 + (nth x0.D_ s41.2)))] : List Int)))).length)) (tr2 := []) (H2 := [.box [.bool x0.Neg_, lsv (encI .u8) 1 x0.D_, .int .i64 x0.E_], vecL (encI .u8) 1 5 (([(IntKind.wrap .u8 (48 + (nth x0.D_ s41.2)))] : List Int))]) (by kernel_rfl) hm (fun hc => rfl) (by kernel_rfl) ?_
        refine RJ.seg 1 [1, 2, 3, 4] (L2 := [(1, .ptr 0 0), (2, .str ([] : List UInt8)), (3, .str ((s41.1 ++ ((bytesS (([(IntKind.wrap .u8 (48 + (nth x0.D_ s41.2)))] : List Int))))))), (4, .int .i64 s41.2)]) (H2 := [.box [.bool x0.Neg_, lsv (encI .u8) 1 x0.D_, .int .i64 x0.E_], vecL (encI .u8) 1 5 (([(IntKind.wrap .u8 (48 + (nth x0.D_ s41.2)))] : List Int))]) (by kernel_rfl) ?_
        refine RJ.end (by kernel_rfl) ?_
        refine PJ.blockNormal ?_
        refine PJ.next ?_
        refine K.region (by kernel_rfl) ?_
        refine RJ.seg 3 [1, 2, 3, 4] (L2 := [(1, .ptr 0 0), (2, .str ([] : List UInt8)), (3, .str ((s41.1 ++ ((bytesS (([(IntKind.wrap .u8 (48 + (nth x0.D_ s41.2)))] : List Int))))))), (4, .int .i64 (IntKind.wrap .i64 (s41.2 + 1)))]) (H2 := [.box [.bool x0.Neg_, lsv (encI .u8) 1 x0.D_, .int .i64 x0.E_], vecL (encI .u8) 1 5 (([(IntKind.wrap .u8 (48 + (nth x0.D_ s41.2)))] : List Int))]) (by kernel_rfl) ?_
        refine RJ.end (by kernel_rfl) ?_
        obtain rfl := Option.some.inj h62
        refine PJ.wk (Wk.sel (L2 := [(1, .ptr 0 0), (2, .str ([] : List UInt8)), (3, .str ((s41.1 ++ ((bytesS (([(IntKind.wrap .u8 (48 + (nth x0.D_ s41.2)))] : List Int))))))), (4, .int .i64 (IntKind.wrap .i64 (s41.2 + 1)))]) (H2 := [.box [.bool x0.Neg_, lsv (encI .u8) 1 x0.D_, .int .i64 x0.E_]]) 0 (by rw [hFH]; rfl) hFD [0] (by kernel_rfl) (by kernel_rfl) (by decide) (by kernel_rfl) (by kernel_rfl) (by kernel_rfl) (by kernel_rfl)) ?_
        exact PJ.loopNext [1, 2, 3, 4] (by kernel_rfl) (by kernel_rfl)
      · have h60 := condF hb58 hs56
        refine K.condF (by kernel_rfl) ?_
        refine K.exit 0 (by kernel_rfl) ?_
        refine PJ.passExit ?_
        obtain rfl := Option.some.inj h60
        refine PJ.loopOut (fun e => nomatch e) (fun he64 => ?_)
        have h63 := congrArg some he64
        refine PJ.blockOut ?_
        obtain rfl := Option.some.inj h63
        exact PJ.cutN [1, 2, 3] (by kernel_rfl) (by kernel_rfl)
    · obtain ⟨s69, hy71, h73⟩ := bindS h40
      refine K.cutN (by kernel_rfl) (fun (s69 : (List UInt8)) => ([(1, .ptr 0 0), (2, .str ([] : List UInt8)), (3, .str s69)], [.box [.bool x0.Neg_, lsv (encI .u8) 1 x0.D_, .int .i64 x0.E_]])) s69 ?_ ?_
      · refine K.seq (by kernel_rfl) ?_
        refine K.region (by kernel_rfl) ?_
        refine RJ.seg 4 [1, 2, 3, 27] (L2 := [(1, .ptr 0 0), (2, .str ([] : List UInt8)), (3, .str s36), (27, .bool ((decide ((x0.D_.length : Int) = 0))))]) (H2 := [.box [.bool x0.Neg_, lsv (encI .u8) 1 x0.D_, .int .i64 x0.E_]]) (by kernel_rfl) ?_
        refine RJ.end (by kernel_rfl) ?_
        refine PJ.next ?_
        refine J.caseB 27 (b := (decide ((x0.D_.length : Int) = 0))) (by kernel_rfl) (fun hb74 => ?_) (fun hb74 => ?_)
        · have h75 := condT hb74 hy71
          refine K.condT (by kernel_rfl) ?_
          refine K.region (by kernel_rfl) ?_
          refine RJ.seg 1 [1, 2, 3, 28] (L2 := [(1, .ptr 0 0), (2, .str ([] : List UInt8)), (3, .str s36), (28, .str s36)]) (H2 := [.box [.bool x0.Neg_, lsv (encI .u8) 1 x0.D_, .int .i64 x0.E_]]) (by kernel_rfl) ?_
          obtain ⟨hm, h77⟩ := asrt h75
          refine RJ.rel (d := (some 29)) (ef := ⟨.str (s36 ++ ([48] : List UInt8)), [], []⟩) (ef' := ⟨.str (s36 ++ ([48] : List UInt8)), [], []⟩) (c := room (s36.length + ([48] : List UInt8).length)) (tr2 := []) (H2 := [.box [.bool x0.Neg_, lsv (encI .u8) 1 x0.D_, .int .i64 x0.E_]]) (by kernel_rfl) hm (fun hc => rfl) (by kernel_rfl) ?_
          refine RJ.seg 1 [1, 2, 3] (L2 := [(1, .ptr 0 0), (2, .str ([] : List UInt8)), (3, .str (s36 ++ ([48] : List UInt8)))]) (H2 := [.box [.bool x0.Neg_, lsv (encI .u8) 1 x0.D_, .int .i64 x0.E_]]) (by kernel_rfl) ?_
          refine RJ.end (by kernel_rfl) ?_
          obtain rfl := Option.some.inj h77
          exact PJ.cutN [1, 2, 3] (by kernel_rfl) (by kernel_rfl)
        · have h76 := condF hb74 hy71
          refine K.condF (by kernel_rfl) ?_
          refine K.skip (by kernel_rfl) ?_
          obtain rfl := Option.some.inj h76
          exact PJ.cutN [1, 2, 3] (by kernel_rfl) (by kernel_rfl)
      · refine K.seq (by kernel_rfl) ?_
        refine K.region (by kernel_rfl) ?_
        refine RJ.seg 1 [1, 2, 30] (L2 := [(1, .ptr 0 0), (2, .str ([] : List UInt8)), (30, .str s69)]) (H2 := [.box [.bool x0.Neg_, lsv (encI .u8) 1 x0.D_, .int .i64 x0.E_]]) (by kernel_rfl) ?_
        obtain ⟨hm, h78⟩ := asrt h73
        refine RJ.rel (d := (some 31)) (ef := ⟨.str (s69 ++ ([101] : List UInt8)), [], []⟩) (ef' := ⟨.str (s69 ++ ([101] : List UInt8)), [], []⟩) (c := room (s69.length + ([101] : List UInt8).length)) (tr2 := []) (H2 := [.box [.bool x0.Neg_, lsv (encI .u8) 1 x0.D_, .int .i64 x0.E_]]) (by kernel_rfl) hm (fun hc => rfl) (by kernel_rfl) ?_
        refine RJ.seg 2 [2, 31, 33] (L2 := [(2, .str ([] : List UInt8)), (31, .str (s69 ++ ([101] : List UInt8))), (33, .int .i64 x0.E_)]) (H2 := [.box [.bool x0.Neg_, lsv (encI .u8) 1 x0.D_, .int .i64 x0.E_]]) (by kernel_rfl) ?_
        obtain ⟨y79, hy80, h81⟩ := bindS h78
        refine RJ.call0 (d := (some 34)) (f := 36) (args := [.int .i64 x0.E_]) (v := .str y79) (tr2 := []) (by kernel_rfl) (by kernel_rfl) (.cons (Le.refl _) .nil) (exergueref05_Number_ok big hy80) (by kernel_rfl) ?_
        obtain ⟨hm, h82⟩ := asrt h81
        refine RJ.rel (d := (some 35)) (ef := ⟨.str ((s69 ++ ([101] : List UInt8)) ++ y79), [], []⟩) (ef' := ⟨.str ((s69 ++ ([101] : List UInt8)) ++ y79), [], []⟩) (c := room ((s69 ++ ([101] : List UInt8)).length + y79.length)) (tr2 := []) (H2 := [.box [.bool x0.Neg_, lsv (encI .u8) 1 x0.D_, .int .i64 x0.E_]]) (by kernel_rfl) hm (fun hc => rfl) (by kernel_rfl) ?_
        refine RJ.seg 1 [2] (L2 := [(2, .str (((s69 ++ ([101] : List UInt8)) ++ y79)))]) (H2 := [.box [.bool x0.Neg_, lsv (encI .u8) 1 x0.D_, .int .i64 x0.E_]]) (by kernel_rfl) ?_
        refine RJ.end (by kernel_rfl) ?_
        refine PJ.next ?_
        refine K.ret (by kernel_rfl) ?_
        obtain rfl := Option.some.inj h82
        exact K.ret0 (.inr rfl) hFn hFH hFD (by kernel_rfl) (by kernel_rfl) (by kernel_rfl)

def round_Fits (x0 : St23) (x1 : Int) (x2 : Int) : Option (Bool) :=
  (Option.bind (Option.bind (Option.bind (round_unit x1 x2) fun y47 => (bif (!y47) then (some true) else (Option.bind (dec_Right x0) fun y53 => (some (!y53))))) fun (s42 : Bool) => (bif s42 then (some (.inr false)) else (some (.inl ())))) (joinX fun (s28 : Unit) => (Option.bind (round_split x0 x1 x2) fun y60 => (Option.bind (bif (decide (y60.2 = 0)) then (Option.bind (round_below x0 x2) fun y77 => (some (!y77))) else (some false)) fun (s69 : Bool) => (some s69)))))
theorem round_Fits_ok {x0 : St23} {x1 : Int} {x2 : Int} {r : Bool} (h : round_Fits x0 x1 x2 = some r) : SC Try.prog 14 [.agg [.bool x0.Neg_, lsv (encI .u8) 1 x0.D_, .int .i64 x0.E_], .int .i64 x1, .int .i64 x2] [] (.bool r) [] := by
  refine K.fn (fn := Try.f14) (by kernel_rfl) (by kernel_rfl) (by kernel_rfl) (by kernel_rfl) (by kernel_rfl) (fun F hFn hFH hFD => ?_)
  unfold round_Fits at h
  refine K.seq (by kernel_rfl) ?_
  refine K.region (by kernel_rfl) ?_
  refine RJ.seg 2 [1, 2, 3, 6] (L2 := [(1, .int .i64 x1), (2, .int .i64 x2), (3, .ptr 0 0), (6, .bool false)]) (H2 := [.box [.bool x0.Neg_, lsv (encI .u8) 1 x0.D_, .int .i64 x0.E_]]) (by kernel_rfl) ?_
  refine RJ.end (by kernel_rfl) ?_
  refine PJ.next ?_
  obtain ⟨y29, hy30, h31⟩ := bindS h
  refine K.cutX (by kernel_rfl) (fun (s28 : Unit) => ([(1, .int .i64 x1), (2, .int .i64 x2), (3, .ptr 0 0), (6, .bool false)], [.box [.bool x0.Neg_, lsv (encI .u8) 1 x0.D_, .int .i64 x0.E_]])) y29 ?_ (fun s28 hs => ?_)
  · obtain ⟨s42, hy44, h46⟩ := bindS hy30
    refine K.cutN (by kernel_rfl) (fun (s42 : Bool) => ([(1, .int .i64 x1), (2, .int .i64 x2), (3, .ptr 0 0), (6, .bool false), (17, .bool s42)], [.box [.bool x0.Neg_, lsv (encI .u8) 1 x0.D_, .int .i64 x0.E_]])) s42 ?_ ?_
    · refine K.region (by kernel_rfl) ?_
      refine RJ.seg 2 [1, 2, 3, 6, 9, 10] (L2 := [(1, .int .i64 x1), (2, .int .i64 x2), (3, .ptr 0 0), (6, .bool false), (9, .int .i64 x1), (10, .int .i64 x2)]) (H2 := [.box [.bool x0.Neg_, lsv (encI .u8) 1 x0.D_, .int .i64 x0.E_]]) (by kernel_rfl) ?_
      obtain ⟨y47, hy48, h49⟩ := bindS hy44
      refine RJ.call0 (d := (some 11)) (f := 24) (args := [.int .i64 x1, .int .i64 x2]) (v := .bool y47) (tr2 := []) (by kernel_rfl) (by kernel_rfl) (.cons (Le.refl _) (.cons (Le.refl _) .nil)) (round_unit_ok hy48) (by kernel_rfl) ?_
      refine RJ.seg 2 [1, 2, 3, 6, 13] (L2 := [(1, .int .i64 x1), (2, .int .i64 x2), (3, .ptr 0 0), (6, .bool false), (13, .bool (!y47))]) (H2 := [.box [.bool x0.Neg_, lsv (encI .u8) 1 x0.D_, .int .i64 x0.E_]]) (by kernel_rfl) ?_
      refine RJ.caseB 13 (b := (!y47)) (by kernel_rfl) (fun hb50 => ?_) (fun hb50 => ?_)
      · have h51 := condT hb50 h49
        refine RJ.seg 4 [1, 2, 3, 6, 17] (L2 := [(1, .int .i64 x1), (2, .int .i64 x2), (3, .ptr 0 0), (6, .bool false), (17, .bool true)]) (H2 := [.box [.bool x0.Neg_, lsv (encI .u8) 1 x0.D_, .int .i64 x0.E_]]) (by kernel_rfl) ?_
        refine RJ.end (by kernel_rfl) ?_
        obtain rfl := Option.some.inj h51
        exact PJ.cutN [1, 2, 3, 6, 17] (by kernel_rfl) (by kernel_rfl)
      · have h52 := condF hb50 h49
        refine RJ.seg 1 [1, 2, 3, 6, 13, 14] (L2 := [(1, .int .i64 x1), (2, .int .i64 x2), (3, .ptr 0 0), (6, .bool false), (13, .bool false), (14, .agg [.bool x0.Neg_, lsv (encI .u8) 1 x0.D_, .int .i64 x0.E_])]) (H2 := [.box [.bool x0.Neg_, lsv (encI .u8) 1 x0.D_, .int .i64 x0.E_]]) (by kernel_rfl) ?_
        obtain ⟨y53, hy54, h55⟩ := bindS h52
        refine RJ.call0 (d := (some 15)) (f := 25) (args := [.agg [.bool x0.Neg_, lsv (encI .u8) 1 x0.D_, .int .i64 x0.E_]]) (v := .bool y53) (tr2 := []) (by kernel_rfl) (by kernel_rfl) (.cons (Le.refl _) .nil) (dec_Right_ok hy54) (by kernel_rfl) ?_
        refine RJ.seg 2 [1, 2, 3, 6, 17] (L2 := [(1, .int .i64 x1), (2, .int .i64 x2), (3, .ptr 0 0), (6, .bool false), (17, .bool (!y53))]) (H2 := [.box [.bool x0.Neg_, lsv (encI .u8) 1 x0.D_, .int .i64 x0.E_]]) (by kernel_rfl) ?_
        refine RJ.end (by kernel_rfl) ?_
        obtain rfl := Option.some.inj h55
        exact PJ.cutN [1, 2, 3, 6, 17] (by kernel_rfl) (by kernel_rfl)
    · refine J.caseB 17 (b := s42) (by kernel_rfl) (fun hb56 => ?_) (fun hb56 => ?_)
      · have h57 := condT hb56 h46
        refine K.condT (by kernel_rfl) ?_
        refine K.seq (by kernel_rfl) ?_
        refine K.region (by kernel_rfl) ?_
        refine RJ.seg 1 [1, 2, 3, 6] (L2 := [(1, .int .i64 x1), (2, .int .i64 x2), (3, .ptr 0 0), (6, .bool false)]) (H2 := [.box [.bool x0.Neg_, lsv (encI .u8) 1 x0.D_, .int .i64 x0.E_]]) (by kernel_rfl) ?_
        refine RJ.end (by kernel_rfl) ?_
        refine PJ.next ?_
        refine K.ret (by kernel_rfl) ?_
        obtain rfl := Option.some.inj h57
        have h59 := joinX_inr h31
        refine PJ.cutXr (fun e => nomatch e) ?_
        obtain rfl := Option.some.inj h59
        exact K.ret0 (.inr rfl) hFn hFH hFD (by kernel_rfl) (by kernel_rfl) (by kernel_rfl)
      · have h58 := condF hb56 h46
        refine K.condF (by kernel_rfl) ?_
        refine K.skip (by kernel_rfl) ?_
        obtain rfl := Option.some.inj h58
        exact PJ.cutXl [1, 2, 3, 6] (by kernel_rfl) (by kernel_rfl)
  · subst hs
    have h32 := joinX_inl h31
    refine K.seq (by kernel_rfl) ?_
    refine K.region (by kernel_rfl) ?_
    refine RJ.seg 3 [2, 3, 6, 19, 20, 21] (L2 := [(2, .int .i64 x2), (3, .ptr 0 0), (6, .bool false), (19, .agg [.bool x0.Neg_, lsv (encI .u8) 1 x0.D_, .int .i64 x0.E_]), (20, .int .i64 x1), (21, .int .i64 x2)]) (H2 := [.box [.bool x0.Neg_, lsv (encI .u8) 1 x0.D_, .int .i64 x0.E_]]) (by kernel_rfl) ?_
    obtain ⟨y60, hy61, h62⟩ := bindS h32
    refine RJ.callG (d := (some 22)) (f := 26) (args := [.agg [.bool x0.Neg_, lsv (encI .u8) 1 x0.D_, .int .i64 x0.E_], .int .i64 x1, .int .i64 x2]) (args0 := [.agg [.bool x0.Neg_, lsv (encI .u8) 1 x0.D_, .int .i64 x0.E_], .int .i64 x1, .int .i64 x2]) (v0 := .tup [.vc 0, .int .i64 y60.2]) (v := .tup [.vc 1, .int .i64 y60.2]) (tr2 := []) (H0 := []) (H0' := [vecL (encI .u8) 1 5 y60.1]) (H2 := [.box [.bool x0.Neg_, lsv (encI .u8) 1 x0.D_, .int .i64 x0.E_], vecL (encI .u8) 1 5 y60.1]) [] (by kernel_rfl) (by kernel_rfl) (by kernel_rfl) (by kernel_rfl) (by decide) (by kernel_rfl) (by kernel_rfl) (by kernel_rfl) (.cons (Le.refl _) (.cons (Le.refl _) (.cons (Le.refl _) .nil))) (round_split_ok_o hy61) (by kernel_rfl) (by kernel_rfl) (by kernel_rfl) ?_
    refine RJ.seg 5 [2, 3, 6, 8] (L2 := [(2, .int .i64 x2), (3, .ptr 0 0), (6, .bool false), (8, .int .i64 y60.2)]) (H2 := [.box [.bool x0.Neg_, lsv (encI .u8) 1 x0.D_, .int .i64 x0.E_], vecL (encI .u8) 1 5 y60.1]) (by kernel_rfl) ?_
    refine RJ.end (by kernel_rfl) ?_
    refine PJ.next ?_
    obtain ⟨s69, hy71, h73⟩ := bindS h62
    refine K.cutN (by kernel_rfl) (fun (s69 : Bool) => ([(6, .bool s69)], [])) s69 ?_ ?_
    · refine K.region (by kernel_rfl) ?_
      refine RJ.seg 3 [2, 3, 6, 27] (L2 := [(2, .int .i64 x2), (3, .ptr 0 0), (6, .bool false), (27, .bool (decide (y60.2 = 0)))]) (H2 := [.box [.bool x0.Neg_, lsv (encI .u8) 1 x0.D_, .int .i64 x0.E_], vecL (encI .u8) 1 5 y60.1]) (by kernel_rfl) ?_
      refine RJ.caseB 27 (b := (decide (y60.2 = 0))) (by kernel_rfl) (fun hb74 => ?_) (fun hb74 => ?_)
      · have h75 := condT hb74 hy71
        refine RJ.seg 2 [6, 27, 28, 29] (L2 := [(6, .bool false), (27, .bool true), (28, .agg [.bool x0.Neg_, lsv (encI .u8) 1 x0.D_, .int .i64 x0.E_]), (29, .int .i64 x2)]) (H2 := [.box [.bool x0.Neg_, lsv (encI .u8) 1 x0.D_, .int .i64 x0.E_], vecL (encI .u8) 1 5 y60.1]) (by kernel_rfl) ?_
        obtain ⟨y77, hy78, h79⟩ := bindS h75
        refine RJ.call0 (d := (some 30)) (f := 27) (args := [.agg [.bool x0.Neg_, lsv (encI .u8) 1 x0.D_, .int .i64 x0.E_], .int .i64 x2]) (v := .bool y77) (tr2 := []) (by kernel_rfl) (by kernel_rfl) (.cons (Le.refl _) (.cons (Le.refl _) .nil)) (round_below_ok hy78) (by kernel_rfl) ?_
        refine RJ.seg 3 [6] (L2 := [(6, .bool (!y77))]) (H2 := [.box [.bool x0.Neg_, lsv (encI .u8) 1 x0.D_, .int .i64 x0.E_], vecL (encI .u8) 1 5 y60.1]) (by kernel_rfl) ?_
        refine RJ.end (by kernel_rfl) ?_
        obtain rfl := Option.some.inj h79
        refine PJ.wk (Wk.sel (L2 := [(6, .bool (!y77))]) (H2 := []) 0 (by rw [hFH]; rfl) hFD [] (by kernel_rfl) (by kernel_rfl) (by decide) (by kernel_rfl) (by kernel_rfl) (by kernel_rfl) (by kernel_rfl)) ?_
        exact PJ.cutN [6] (by kernel_rfl) (by kernel_rfl)
      · have h76 := condF hb74 hy71
        refine RJ.seg 6 [6] (L2 := [(6, .bool false)]) (H2 := [.box [.bool x0.Neg_, lsv (encI .u8) 1 x0.D_, .int .i64 x0.E_], vecL (encI .u8) 1 5 y60.1]) (by kernel_rfl) ?_
        refine RJ.end (by kernel_rfl) ?_
        obtain rfl := Option.some.inj h76
        refine PJ.wk (Wk.sel (L2 := [(6, .bool false)]) (H2 := []) 0 (by rw [hFH]; rfl) hFD [] (by kernel_rfl) (by kernel_rfl) (by decide) (by kernel_rfl) (by kernel_rfl) (by kernel_rfl) (by kernel_rfl)) ?_
        exact PJ.cutN [6] (by kernel_rfl) (by kernel_rfl)
    · refine K.ret (by kernel_rfl) ?_
      obtain rfl := Option.some.inj h73
      exact K.ret0 (.inr rfl) hFn hFH hFD (by kernel_rfl) (by kernel_rfl) (by kernel_rfl)

def exerguelaw06_shown  : Option (Bool) :=
  (Option.bind (round_To (⟨false, ([2, 5] : List Int), (-1)⟩ : St23) 0 6) fun y1 => (Option.bind (round_To (⟨false, ([2, 5] : List Int), (-1)⟩ : St23) 0 4) fun y4 => (Option.bind (round_Sig (⟨false, ([2, 5] : List Int), (-1)⟩ : St23) 1 1) fun y7 => (Option.bind (bif (decide (y1.2 = 0)) then (bif (decide (y4.2 = 0)) then (bif (decide (y7.2 = 0)) then (Option.bind (exergueref05_Text y1.1) fun y60 => (bif (y60 == ([50, 101, 48] : List UInt8)) then (Option.bind (exergueref05_Text y4.1) fun y66 => (bif (y66 == ([51, 101, 48] : List UInt8)) then (Option.bind (exergueref05_Text y7.1) fun y72 => (bif (y72 == ([50, 101, 48] : List UInt8)) then (Option.bind (round_Is 0) fun y78 => (bif y78 then (Option.bind (round_Fits y1.1 2 0) fun y84 => (some y84)) else (some false))) else (some false))) else (some false))) else (some false))) else (some false)) else (some false)) else (some false)) fun (s46 : Bool) => (some s46)))))
theorem exerguelaw06_shown_ok  {r : Bool} (h : exerguelaw06_shown = some r) : SC Try.prog 9 [] [] (.bool r) [] := by
  refine K.fn (fn := Try.f9) (by kernel_rfl) (by kernel_rfl) (by kernel_rfl) (by kernel_rfl) (by kernel_rfl) (fun F hFn hFH hFD => ?_)
  unfold exerguelaw06_shown at h
  refine K.seq (by kernel_rfl) ?_
  refine K.region (by kernel_rfl) ?_
  refine RJ.seg 1 [0] (L2 := [(0, .bool false)]) (H2 := []) (by kernel_rfl) ?_
  refine RJ.end (by kernel_rfl) ?_
  refine PJ.next ?_
  refine K.seq (by kernel_rfl) ?_
  refine K.region (by kernel_rfl) ?_
  refine RJ.seg 4 [0, 1] (L2 := [(0, .bool false), (1, .ptr 1 0)]) (H2 := [vecL (encI .u8) 1 5 ([2, 5] : List Int), .box [.bool false, .vc 0, .int .i64 (-1)]]) (by kernel_rfl) ?_
  refine RJ.end (by kernel_rfl) ?_
  refine PJ.next ?_
  refine K.seq (by kernel_rfl) ?_
  refine K.region (by kernel_rfl) ?_
  refine RJ.seg 1 [0, 1, 11] (L2 := [(0, .bool false), (1, .ptr 1 0), (11, .agg [.bool false, .vc 0, .int .i64 (-1)])]) (H2 := [vecL (encI .u8) 1 5 ([2, 5] : List Int), .box [.bool false, .vc 0, .int .i64 (-1)]]) (by kernel_rfl) ?_
  obtain ⟨y1, hy2, h3⟩ := bindS h
  refine RJ.wk (Wk.freeze 0 (n := ([2, 5] : List Int).length) (k := 1) (e := 5) (cs := ([2, 5] : List Int).flatMap (encI .u8)) (by kernel_rfl)) ?_
  refine RJ.call0 (d := (some 12)) (f := 19) (args := [.agg [.bool false, lsv (encI .u8) 1 ([2, 5] : List Int), .int .i64 (-1)], .int .i64 0, .int .i64 6]) (v := .tup [.agg [.bool y1.1.Neg_, lsv (encI .u8) 1 y1.1.D_, .int .i64 y1.1.E_], .int .i64 y1.2]) (tr2 := []) (by kernel_rfl) (by kernel_rfl) (.cons (Le.refl _) (.cons (Le.refl _) (.cons (Le.refl _) .nil))) (round_To_ok hy2) (by kernel_rfl) ?_
  refine RJ.seg 6 [0, 1, 2, 3] (L2 := [(0, .bool false), (1, .ptr 1 0), (2, .ptr 2 0), (3, .int .i64 y1.2)]) (H2 := [.gone, .box [.bool false, lsv (encI .u8) 1 ([2, 5] : List Int), .int .i64 (-1)], .box [.bool y1.1.Neg_, lsv (encI .u8) 1 y1.1.D_, .int .i64 y1.1.E_]]) (by kernel_rfl) ?_
  refine RJ.end (by kernel_rfl) ?_
  refine PJ.next ?_
  refine K.seq (by kernel_rfl) ?_
  refine K.region (by kernel_rfl) ?_
  refine RJ.seg 1 [0, 1, 2, 3, 16] (L2 := [(0, .bool false), (1, .ptr 1 0), (2, .ptr 2 0), (3, .int .i64 y1.2), (16, .agg [.bool false, lsv (encI .u8) 1 ([2, 5] : List Int), .int .i64 (-1)])]) (H2 := [.gone, .box [.bool false, lsv (encI .u8) 1 ([2, 5] : List Int), .int .i64 (-1)], .box [.bool y1.1.Neg_, lsv (encI .u8) 1 y1.1.D_, .int .i64 y1.1.E_]]) (by kernel_rfl) ?_
  obtain ⟨y4, hy5, h6⟩ := bindS h3
  refine RJ.call0 (d := (some 17)) (f := 19) (args := [.agg [.bool false, lsv (encI .u8) 1 ([2, 5] : List Int), .int .i64 (-1)], .int .i64 0, .int .i64 4]) (v := .tup [.agg [.bool y4.1.Neg_, lsv (encI .u8) 1 y4.1.D_, .int .i64 y4.1.E_], .int .i64 y4.2]) (tr2 := []) (by kernel_rfl) (by kernel_rfl) (.cons (Le.refl _) (.cons (Le.refl _) (.cons (Le.refl _) .nil))) (round_To_ok hy5) (by kernel_rfl) ?_
  refine RJ.seg 6 [0, 1, 2, 3, 4, 5] (L2 := [(0, .bool false), (1, .ptr 1 0), (2, .ptr 2 0), (3, .int .i64 y1.2), (4, .ptr 3 0), (5, .int .i64 y4.2)]) (H2 := [.gone, .box [.bool false, lsv (encI .u8) 1 ([2, 5] : List Int), .int .i64 (-1)], .box [.bool y1.1.Neg_, lsv (encI .u8) 1 y1.1.D_, .int .i64 y1.1.E_], .box [.bool y4.1.Neg_, lsv (encI .u8) 1 y4.1.D_, .int .i64 y4.1.E_]]) (by kernel_rfl) ?_
  refine RJ.end (by kernel_rfl) ?_
  refine PJ.next ?_
  refine K.seq (by kernel_rfl) ?_
  refine K.region (by kernel_rfl) ?_
  refine RJ.seg 1 [0, 2, 3, 4, 5, 21] (L2 := [(0, .bool false), (2, .ptr 2 0), (3, .int .i64 y1.2), (4, .ptr 3 0), (5, .int .i64 y4.2), (21, .agg [.bool false, lsv (encI .u8) 1 ([2, 5] : List Int), .int .i64 (-1)])]) (H2 := [.gone, .box [.bool false, lsv (encI .u8) 1 ([2, 5] : List Int), .int .i64 (-1)], .box [.bool y1.1.Neg_, lsv (encI .u8) 1 y1.1.D_, .int .i64 y1.1.E_], .box [.bool y4.1.Neg_, lsv (encI .u8) 1 y4.1.D_, .int .i64 y4.1.E_]]) (by kernel_rfl) ?_
  obtain ⟨y7, hy8, h9⟩ := bindS h6
  refine RJ.call0 (d := (some 22)) (f := 18) (args := [.agg [.bool false, lsv (encI .u8) 1 ([2, 5] : List Int), .int .i64 (-1)], .int .i64 1, .int .i64 1]) (v := .tup [.agg [.bool y7.1.Neg_, lsv (encI .u8) 1 y7.1.D_, .int .i64 y7.1.E_], .int .i64 y7.2]) (tr2 := []) (by kernel_rfl) (by kernel_rfl) (.cons (Le.refl _) (.cons (Le.refl _) (.cons (Le.refl _) .nil))) (round_Sig_ok hy8) (by kernel_rfl) ?_
  refine RJ.seg 6 [0, 2, 3, 4, 5, 6, 7] (L2 := [(0, .bool false), (2, .ptr 2 0), (3, .int .i64 y1.2), (4, .ptr 3 0), (5, .int .i64 y4.2), (6, .ptr 4 0), (7, .int .i64 y7.2)]) (H2 := [.gone, .box [.bool false, lsv (encI .u8) 1 ([2, 5] : List Int), .int .i64 (-1)], .box [.bool y1.1.Neg_, lsv (encI .u8) 1 y1.1.D_, .int .i64 y1.1.E_], .box [.bool y4.1.Neg_, lsv (encI .u8) 1 y4.1.D_, .int .i64 y4.1.E_], .box [.bool y7.1.Neg_, lsv (encI .u8) 1 y7.1.D_, .int .i64 y7.1.E_]]) (by kernel_rfl) ?_
  refine RJ.end (by kernel_rfl) ?_
  refine PJ.next ?_
  obtain ⟨s46, hy48, h50⟩ := bindS h9
  refine K.cutN (by kernel_rfl) (fun (s46 : Bool) => ([(0, .bool s46)], [])) s46 ?_ ?_
  · refine K.region (by kernel_rfl) ?_
    refine RJ.seg 3 [0, 2, 4, 5, 6, 7, 27] (L2 := [(0, .bool false), (2, .ptr 2 0), (4, .ptr 3 0), (5, .int .i64 y4.2), (6, .ptr 4 0), (7, .int .i64 y7.2), (27, .bool (decide (y1.2 = 0)))]) (H2 := [.gone, .box [.bool false, lsv (encI .u8) 1 ([2, 5] : List Int), .int .i64 (-1)], .box [.bool y1.1.Neg_, lsv (encI .u8) 1 y1.1.D_, .int .i64 y1.1.E_], .box [.bool y4.1.Neg_, lsv (encI .u8) 1 y4.1.D_, .int .i64 y4.1.E_], .box [.bool y7.1.Neg_, lsv (encI .u8) 1 y7.1.D_, .int .i64 y7.1.E_]]) (by kernel_rfl) ?_
    refine RJ.caseB 27 (b := (decide (y1.2 = 0))) (by kernel_rfl) (fun hb51 => ?_) (fun hb51 => ?_)
    · have h52 := condT hb51 hy48
      refine RJ.seg 4 [0, 2, 4, 6, 7, 31] (L2 := [(0, .bool false), (2, .ptr 2 0), (4, .ptr 3 0), (6, .ptr 4 0), (7, .int .i64 y7.2), (31, .bool (decide (y4.2 = 0)))]) (H2 := [.gone, .box [.bool false, lsv (encI .u8) 1 ([2, 5] : List Int), .int .i64 (-1)], .box [.bool y1.1.Neg_, lsv (encI .u8) 1 y1.1.D_, .int .i64 y1.1.E_], .box [.bool y4.1.Neg_, lsv (encI .u8) 1 y4.1.D_, .int .i64 y4.1.E_], .box [.bool y7.1.Neg_, lsv (encI .u8) 1 y7.1.D_, .int .i64 y7.1.E_]]) (by kernel_rfl) ?_
      refine RJ.caseB 31 (b := (decide (y4.2 = 0))) (by kernel_rfl) (fun hb54 => ?_) (fun hb54 => ?_)
      · have h55 := condT hb54 h52
        refine RJ.seg 4 [0, 2, 4, 6, 35] (L2 := [(0, .bool false), (2, .ptr 2 0), (4, .ptr 3 0), (6, .ptr 4 0), (35, .bool (decide (y7.2 = 0)))]) (H2 := [.gone, .box [.bool false, lsv (encI .u8) 1 ([2, 5] : List Int), .int .i64 (-1)], .box [.bool y1.1.Neg_, lsv (encI .u8) 1 y1.1.D_, .int .i64 y1.1.E_], .box [.bool y4.1.Neg_, lsv (encI .u8) 1 y4.1.D_, .int .i64 y4.1.E_], .box [.bool y7.1.Neg_, lsv (encI .u8) 1 y7.1.D_, .int .i64 y7.1.E_]]) (by kernel_rfl) ?_
        refine RJ.caseB 35 (b := (decide (y7.2 = 0))) (by kernel_rfl) (fun hb57 => ?_) (fun hb57 => ?_)
        · have h58 := condT hb57 h55
          refine RJ.seg 1 [0, 2, 4, 6, 35, 36] (L2 := [(0, .bool false), (2, .ptr 2 0), (4, .ptr 3 0), (6, .ptr 4 0), (35, .bool true), (36, .agg [.bool y1.1.Neg_, lsv (encI .u8) 1 y1.1.D_, .int .i64 y1.1.E_])]) (H2 := [.gone, .box [.bool false, lsv (encI .u8) 1 ([2, 5] : List Int), .int .i64 (-1)], .box [.bool y1.1.Neg_, lsv (encI .u8) 1 y1.1.D_, .int .i64 y1.1.E_], .box [.bool y4.1.Neg_, lsv (encI .u8) 1 y4.1.D_, .int .i64 y4.1.E_], .box [.bool y7.1.Neg_, lsv (encI .u8) 1 y7.1.D_, .int .i64 y7.1.E_]]) (by kernel_rfl) ?_
          obtain ⟨y60, hy61, h62⟩ := bindS h58
          refine RJ.call0 (d := (some 37)) (f := 22) (args := [.agg [.bool y1.1.Neg_, lsv (encI .u8) 1 y1.1.D_, .int .i64 y1.1.E_]]) (v := .str y60) (tr2 := []) (by kernel_rfl) (by kernel_rfl) (.cons (Le.refl _) .nil) (exergueref05_Text_ok hy61) (by kernel_rfl) ?_
          refine RJ.seg 3 [0, 2, 4, 6, 40] (L2 := [(0, .bool false), (2, .ptr 2 0), (4, .ptr 3 0), (6, .ptr 4 0), (40, .bool (y60 == ([50, 101, 48] : List UInt8)))]) (H2 := [.gone, .box [.bool false, lsv (encI .u8) 1 ([2, 5] : List Int), .int .i64 (-1)], .box [.bool y1.1.Neg_, lsv (encI .u8) 1 y1.1.D_, .int .i64 y1.1.E_], .box [.bool y4.1.Neg_, lsv (encI .u8) 1 y4.1.D_, .int .i64 y4.1.E_], .box [.bool y7.1.Neg_, lsv (encI .u8) 1 y7.1.D_, .int .i64 y7.1.E_]]) (by kernel_rfl) ?_
          refine RJ.caseB 40 (b := (y60 == ([50, 101, 48] : List UInt8))) (by kernel_rfl) (fun hb63 => ?_) (fun hb63 => ?_)
          · have h64 := condT hb63 h62
            refine RJ.seg 1 [0, 2, 6, 40, 41] (L2 := [(0, .bool false), (2, .ptr 2 0), (6, .ptr 4 0), (40, .bool true), (41, .agg [.bool y4.1.Neg_, lsv (encI .u8) 1 y4.1.D_, .int .i64 y4.1.E_])]) (H2 := [.gone, .box [.bool false, lsv (encI .u8) 1 ([2, 5] : List Int), .int .i64 (-1)], .box [.bool y1.1.Neg_, lsv (encI .u8) 1 y1.1.D_, .int .i64 y1.1.E_], .box [.bool y4.1.Neg_, lsv (encI .u8) 1 y4.1.D_, .int .i64 y4.1.E_], .box [.bool y7.1.Neg_, lsv (encI .u8) 1 y7.1.D_, .int .i64 y7.1.E_]]) (by kernel_rfl) ?_
            obtain ⟨y66, hy67, h68⟩ := bindS h64
            refine RJ.call0 (d := (some 42)) (f := 22) (args := [.agg [.bool y4.1.Neg_, lsv (encI .u8) 1 y4.1.D_, .int .i64 y4.1.E_]]) (v := .str y66) (tr2 := []) (by kernel_rfl) (by kernel_rfl) (.cons (Le.refl _) .nil) (exergueref05_Text_ok hy67) (by kernel_rfl) ?_
            refine RJ.seg 3 [0, 2, 6, 45] (L2 := [(0, .bool false), (2, .ptr 2 0), (6, .ptr 4 0), (45, .bool (y66 == ([51, 101, 48] : List UInt8)))]) (H2 := [.gone, .box [.bool false, lsv (encI .u8) 1 ([2, 5] : List Int), .int .i64 (-1)], .box [.bool y1.1.Neg_, lsv (encI .u8) 1 y1.1.D_, .int .i64 y1.1.E_], .box [.bool y4.1.Neg_, lsv (encI .u8) 1 y4.1.D_, .int .i64 y4.1.E_], .box [.bool y7.1.Neg_, lsv (encI .u8) 1 y7.1.D_, .int .i64 y7.1.E_]]) (by kernel_rfl) ?_
            refine RJ.caseB 45 (b := (y66 == ([51, 101, 48] : List UInt8))) (by kernel_rfl) (fun hb69 => ?_) (fun hb69 => ?_)
            · have h70 := condT hb69 h68
              refine RJ.seg 1 [0, 2, 45, 46] (L2 := [(0, .bool false), (2, .ptr 2 0), (45, .bool true), (46, .agg [.bool y7.1.Neg_, lsv (encI .u8) 1 y7.1.D_, .int .i64 y7.1.E_])]) (H2 := [.gone, .box [.bool false, lsv (encI .u8) 1 ([2, 5] : List Int), .int .i64 (-1)], .box [.bool y1.1.Neg_, lsv (encI .u8) 1 y1.1.D_, .int .i64 y1.1.E_], .box [.bool y4.1.Neg_, lsv (encI .u8) 1 y4.1.D_, .int .i64 y4.1.E_], .box [.bool y7.1.Neg_, lsv (encI .u8) 1 y7.1.D_, .int .i64 y7.1.E_]]) (by kernel_rfl) ?_
              obtain ⟨y72, hy73, h74⟩ := bindS h70
              refine RJ.call0 (d := (some 47)) (f := 22) (args := [.agg [.bool y7.1.Neg_, lsv (encI .u8) 1 y7.1.D_, .int .i64 y7.1.E_]]) (v := .str y72) (tr2 := []) (by kernel_rfl) (by kernel_rfl) (.cons (Le.refl _) .nil) (exergueref05_Text_ok hy73) (by kernel_rfl) ?_
              refine RJ.seg 3 [0, 2, 50] (L2 := [(0, .bool false), (2, .ptr 2 0), (50, .bool (y72 == ([50, 101, 48] : List UInt8)))]) (H2 := [.gone, .box [.bool false, lsv (encI .u8) 1 ([2, 5] : List Int), .int .i64 (-1)], .box [.bool y1.1.Neg_, lsv (encI .u8) 1 y1.1.D_, .int .i64 y1.1.E_], .box [.bool y4.1.Neg_, lsv (encI .u8) 1 y4.1.D_, .int .i64 y4.1.E_], .box [.bool y7.1.Neg_, lsv (encI .u8) 1 y7.1.D_, .int .i64 y7.1.E_]]) (by kernel_rfl) ?_
              refine RJ.caseB 50 (b := (y72 == ([50, 101, 48] : List UInt8))) (by kernel_rfl) (fun hb75 => ?_) (fun hb75 => ?_)
              · have h76 := condT hb75 h74
                obtain ⟨y78, hy79, h80⟩ := bindS h76
                refine RJ.call0 (d := (some 51)) (f := 23) (args := [.int .i64 0]) (v := .bool y78) (tr2 := []) (by kernel_rfl) (by kernel_rfl) (.cons (Le.refl _) .nil) (round_Is_ok hy79) (by kernel_rfl) ?_
                refine RJ.seg 2 [0, 2, 53] (L2 := [(0, .bool false), (2, .ptr 2 0), (53, .bool y78)]) (H2 := [.gone, .box [.bool false, lsv (encI .u8) 1 ([2, 5] : List Int), .int .i64 (-1)], .box [.bool y1.1.Neg_, lsv (encI .u8) 1 y1.1.D_, .int .i64 y1.1.E_], .box [.bool y4.1.Neg_, lsv (encI .u8) 1 y4.1.D_, .int .i64 y4.1.E_], .box [.bool y7.1.Neg_, lsv (encI .u8) 1 y7.1.D_, .int .i64 y7.1.E_]]) (by kernel_rfl) ?_
                refine RJ.caseB 53 (b := y78) (by kernel_rfl) (fun hb81 => ?_) (fun hb81 => ?_)
                · have h82 := condT hb81 h80
                  refine RJ.seg 1 [0, 53, 54] (L2 := [(0, .bool false), (53, .bool true), (54, .agg [.bool y1.1.Neg_, lsv (encI .u8) 1 y1.1.D_, .int .i64 y1.1.E_])]) (H2 := [.gone, .box [.bool false, lsv (encI .u8) 1 ([2, 5] : List Int), .int .i64 (-1)], .box [.bool y1.1.Neg_, lsv (encI .u8) 1 y1.1.D_, .int .i64 y1.1.E_], .box [.bool y4.1.Neg_, lsv (encI .u8) 1 y4.1.D_, .int .i64 y4.1.E_], .box [.bool y7.1.Neg_, lsv (encI .u8) 1 y7.1.D_, .int .i64 y7.1.E_]]) (by kernel_rfl) ?_
                  obtain ⟨y84, hy85, h86⟩ := bindS h82
                  refine RJ.call0 (d := (some 55)) (f := 14) (args := [.agg [.bool y1.1.Neg_, lsv (encI .u8) 1 y1.1.D_, .int .i64 y1.1.E_], .int .i64 2, .int .i64 0]) (v := .bool y84) (tr2 := []) (by kernel_rfl) (by kernel_rfl) (.cons (Le.refl _) (.cons (Le.refl _) (.cons (Le.refl _) .nil))) (round_Fits_ok hy85) (by kernel_rfl) ?_
                  refine RJ.seg 2 [0] (L2 := [(0, .bool y84)]) (H2 := [.gone, .box [.bool false, lsv (encI .u8) 1 ([2, 5] : List Int), .int .i64 (-1)], .box [.bool y1.1.Neg_, lsv (encI .u8) 1 y1.1.D_, .int .i64 y1.1.E_], .box [.bool y4.1.Neg_, lsv (encI .u8) 1 y4.1.D_, .int .i64 y4.1.E_], .box [.bool y7.1.Neg_, lsv (encI .u8) 1 y7.1.D_, .int .i64 y7.1.E_]]) (by kernel_rfl) ?_
                  refine RJ.end (by kernel_rfl) ?_
                  obtain rfl := Option.some.inj h86
                  refine PJ.wk (Wk.sel (L2 := [(0, .bool y84)]) (H2 := []) 0 (by rw [hFH]; rfl) hFD [] (by kernel_rfl) (by kernel_rfl) (by decide) (by kernel_rfl) (by kernel_rfl) (by kernel_rfl) (by kernel_rfl)) ?_
                  exact PJ.cutN [0] (by kernel_rfl) (by kernel_rfl)
                · have h83 := condF hb81 h80
                  refine RJ.seg 4 [0] (L2 := [(0, .bool false)]) (H2 := [.gone, .box [.bool false, lsv (encI .u8) 1 ([2, 5] : List Int), .int .i64 (-1)], .box [.bool y1.1.Neg_, lsv (encI .u8) 1 y1.1.D_, .int .i64 y1.1.E_], .box [.bool y4.1.Neg_, lsv (encI .u8) 1 y4.1.D_, .int .i64 y4.1.E_], .box [.bool y7.1.Neg_, lsv (encI .u8) 1 y7.1.D_, .int .i64 y7.1.E_]]) (by kernel_rfl) ?_
                  refine RJ.end (by kernel_rfl) ?_
                  obtain rfl := Option.some.inj h83
                  refine PJ.wk (Wk.sel (L2 := [(0, .bool false)]) (H2 := []) 0 (by rw [hFH]; rfl) hFD [] (by kernel_rfl) (by kernel_rfl) (by decide) (by kernel_rfl) (by kernel_rfl) (by kernel_rfl) (by kernel_rfl)) ?_
                  exact PJ.cutN [0] (by kernel_rfl) (by kernel_rfl)
              · have h77 := condF hb75 h74
                refine RJ.seg 7 [0] (L2 := [(0, .bool false)]) (H2 := [.gone, .box [.bool false, lsv (encI .u8) 1 ([2, 5] : List Int), .int .i64 (-1)], .box [.bool y1.1.Neg_, lsv (encI .u8) 1 y1.1.D_, .int .i64 y1.1.E_], .box [.bool y4.1.Neg_, lsv (encI .u8) 1 y4.1.D_, .int .i64 y4.1.E_], .box [.bool y7.1.Neg_, lsv (encI .u8) 1 y7.1.D_, .int .i64 y7.1.E_]]) (by kernel_rfl) ?_
                refine RJ.end (by kernel_rfl) ?_
                obtain rfl := Option.some.inj h77
                refine PJ.wk (Wk.sel (L2 := [(0, .bool false)]) (H2 := []) 0 (by rw [hFH]; rfl) hFD [] (by kernel_rfl) (by kernel_rfl) (by decide) (by kernel_rfl) (by kernel_rfl) (by kernel_rfl) (by kernel_rfl)) ?_
                exact PJ.cutN [0] (by kernel_rfl) (by kernel_rfl)
            · have h71 := condF hb69 h68
              refine RJ.seg 12 [0] (L2 := [(0, .bool false)]) (H2 := [.gone, .box [.bool false, lsv (encI .u8) 1 ([2, 5] : List Int), .int .i64 (-1)], .box [.bool y1.1.Neg_, lsv (encI .u8) 1 y1.1.D_, .int .i64 y1.1.E_], .box [.bool y4.1.Neg_, lsv (encI .u8) 1 y4.1.D_, .int .i64 y4.1.E_], .box [.bool y7.1.Neg_, lsv (encI .u8) 1 y7.1.D_, .int .i64 y7.1.E_]]) (by kernel_rfl) ?_
              refine RJ.end (by kernel_rfl) ?_
              obtain rfl := Option.some.inj h71
              refine PJ.wk (Wk.sel (L2 := [(0, .bool false)]) (H2 := []) 0 (by rw [hFH]; rfl) hFD [] (by kernel_rfl) (by kernel_rfl) (by decide) (by kernel_rfl) (by kernel_rfl) (by kernel_rfl) (by kernel_rfl)) ?_
              exact PJ.cutN [0] (by kernel_rfl) (by kernel_rfl)
          · have h65 := condF hb63 h62
            refine RJ.seg 17 [0] (L2 := [(0, .bool false)]) (H2 := [.gone, .box [.bool false, lsv (encI .u8) 1 ([2, 5] : List Int), .int .i64 (-1)], .box [.bool y1.1.Neg_, lsv (encI .u8) 1 y1.1.D_, .int .i64 y1.1.E_], .box [.bool y4.1.Neg_, lsv (encI .u8) 1 y4.1.D_, .int .i64 y4.1.E_], .box [.bool y7.1.Neg_, lsv (encI .u8) 1 y7.1.D_, .int .i64 y7.1.E_]]) (by kernel_rfl) ?_
            refine RJ.end (by kernel_rfl) ?_
            obtain rfl := Option.some.inj h65
            refine PJ.wk (Wk.sel (L2 := [(0, .bool false)]) (H2 := []) 0 (by rw [hFH]; rfl) hFD [] (by kernel_rfl) (by kernel_rfl) (by decide) (by kernel_rfl) (by kernel_rfl) (by kernel_rfl) (by kernel_rfl)) ?_
            exact PJ.cutN [0] (by kernel_rfl) (by kernel_rfl)
        · have h59 := condF hb57 h55
          refine RJ.seg 22 [0] (L2 := [(0, .bool false)]) (H2 := [.gone, .box [.bool false, lsv (encI .u8) 1 ([2, 5] : List Int), .int .i64 (-1)], .box [.bool y1.1.Neg_, lsv (encI .u8) 1 y1.1.D_, .int .i64 y1.1.E_], .box [.bool y4.1.Neg_, lsv (encI .u8) 1 y4.1.D_, .int .i64 y4.1.E_], .box [.bool y7.1.Neg_, lsv (encI .u8) 1 y7.1.D_, .int .i64 y7.1.E_]]) (by kernel_rfl) ?_
          refine RJ.end (by kernel_rfl) ?_
          obtain rfl := Option.some.inj h59
          refine PJ.wk (Wk.sel (L2 := [(0, .bool false)]) (H2 := []) 0 (by rw [hFH]; rfl) hFD [] (by kernel_rfl) (by kernel_rfl) (by decide) (by kernel_rfl) (by kernel_rfl) (by kernel_rfl) (by kernel_rfl)) ?_
          exact PJ.cutN [0] (by kernel_rfl) (by kernel_rfl)
      · have h56 := condF hb54 h52
        refine RJ.seg 26 [0] (L2 := [(0, .bool false)]) (H2 := [.gone, .box [.bool false, lsv (encI .u8) 1 ([2, 5] : List Int), .int .i64 (-1)], .box [.bool y1.1.Neg_, lsv (encI .u8) 1 y1.1.D_, .int .i64 y1.1.E_], .box [.bool y4.1.Neg_, lsv (encI .u8) 1 y4.1.D_, .int .i64 y4.1.E_], .box [.bool y7.1.Neg_, lsv (encI .u8) 1 y7.1.D_, .int .i64 y7.1.E_]]) (by kernel_rfl) ?_
        refine RJ.end (by kernel_rfl) ?_
        obtain rfl := Option.some.inj h56
        refine PJ.wk (Wk.sel (L2 := [(0, .bool false)]) (H2 := []) 0 (by rw [hFH]; rfl) hFD [] (by kernel_rfl) (by kernel_rfl) (by decide) (by kernel_rfl) (by kernel_rfl) (by kernel_rfl) (by kernel_rfl)) ?_
        exact PJ.cutN [0] (by kernel_rfl) (by kernel_rfl)
    · have h53 := condF hb51 hy48
      refine RJ.seg 30 [0] (L2 := [(0, .bool false)]) (H2 := [.gone, .box [.bool false, lsv (encI .u8) 1 ([2, 5] : List Int), .int .i64 (-1)], .box [.bool y1.1.Neg_, lsv (encI .u8) 1 y1.1.D_, .int .i64 y1.1.E_], .box [.bool y4.1.Neg_, lsv (encI .u8) 1 y4.1.D_, .int .i64 y4.1.E_], .box [.bool y7.1.Neg_, lsv (encI .u8) 1 y7.1.D_, .int .i64 y7.1.E_]]) (by kernel_rfl) ?_
      refine RJ.end (by kernel_rfl) ?_
      obtain rfl := Option.some.inj h53
      refine PJ.wk (Wk.sel (L2 := [(0, .bool false)]) (H2 := []) 0 (by rw [hFH]; rfl) hFD [] (by kernel_rfl) (by kernel_rfl) (by decide) (by kernel_rfl) (by kernel_rfl) (by kernel_rfl) (by kernel_rfl)) ?_
      exact PJ.cutN [0] (by kernel_rfl) (by kernel_rfl)
  · refine K.ret (by kernel_rfl) ?_
    obtain rfl := Option.some.inj h50
    exact K.ret0 (.inr rfl) hFn hFH hFD (by kernel_rfl) (by kernel_rfl) (by kernel_rfl)

def exergueref05_Right (x0 : St23) : Option (Bool) :=
  (Option.bind (loopN (fun (s45 : Int) => (bif (decide (s45 < (x0.D_.length : Int))) then (bif inR s45 x0.D_.length then (bif (decide ((nth x0.D_ s45) > 9)) then (some (.inr (.inr false))) else (some (.inl (IntKind.wrap .i64 (s45 + 1))))) else none) else (some (.inr (.inl ()))))) big 0) (joinX fun (s40 : Unit) => (bif (decide ((x0.D_.length : Int) = 0)) then (some (decide (x0.E_ = 0))) else (Option.bind (bif (decide ((x0.D_.length : Int) ≤ 1000)) then (bif inR 0 x0.D_.length then (bif (decide ((nth x0.D_ 0) > 0)) then (bif inR ((IntKind.wrap .i64 ((x0.D_.length : Int) - 1))) x0.D_.length then (bif (decide (((nth x0.D_ ((IntKind.wrap .i64 ((x0.D_.length : Int) - 1))))) > 0)) then (bif (decide (x0.E_ ≥ (-1000))) then (some (decide (x0.E_ ≤ 1000))) else (some false)) else (some false)) else none) else (some false)) else none) else (some false)) fun (s101 : Bool) => (some s101)))))
theorem exergueref05_Right_ok {x0 : St23} {r : Bool} (h : exergueref05_Right x0 = some r) : SC Try.prog 13 [.agg [.bool x0.Neg_, lsv (encI .u8) 1 x0.D_, .int .i64 x0.E_]] [] (.bool r) [] := by
  refine K.fn (fn := Try.f13) (by kernel_rfl) (by kernel_rfl) (by kernel_rfl) (by kernel_rfl) (by kernel_rfl) (fun F hFn hFH hFD => ?_)
  unfold exergueref05_Right at h
  refine K.seq (by kernel_rfl) ?_
  refine K.region (by kernel_rfl) ?_
  refine RJ.seg 2 [1, 2] (L2 := [(1, .ptr 0 0), (2, .bool false)]) (H2 := [.box [.bool x0.Neg_, lsv (encI .u8) 1 x0.D_, .int .i64 x0.E_]]) (by kernel_rfl) ?_
  refine RJ.end (by kernel_rfl) ?_
  refine PJ.next ?_
  refine K.seq (by kernel_rfl) ?_
  refine K.region (by kernel_rfl) ?_
  refine RJ.seg 4 [1, 2, 3] (L2 := [(1, .ptr 0 0), (2, .bool false), (3, .int .i64 (x0.D_.length : Int))]) (H2 := [.box [.bool x0.Neg_, lsv (encI .u8) 1 x0.D_, .int .i64 x0.E_]]) (by kernel_rfl) ?_
  refine RJ.end (by kernel_rfl) ?_
  refine PJ.next ?_
  obtain ⟨y41, hy42, h43⟩ := bindS h
  refine K.cutX (by kernel_rfl) (fun (s40 : Unit) => ([(1, .ptr 0 0), (2, .bool false), (3, .int .i64 (x0.D_.length : Int))], [.box [.bool x0.Neg_, lsv (encI .u8) 1 x0.D_, .int .i64 x0.E_]])) y41 ?_ (fun s40 hs => ?_)
  · refine K.seq (by kernel_rfl) ?_
    refine K.region (by kernel_rfl) ?_
    refine RJ.seg 1 [1, 2, 3, 4] (L2 := [(1, .ptr 0 0), (2, .bool false), (3, .int .i64 (x0.D_.length : Int)), (4, .int .i64 0)]) (H2 := [.box [.bool x0.Neg_, lsv (encI .u8) 1 x0.D_, .int .i64 x0.E_]]) (by kernel_rfl) ?_
    refine RJ.end (by kernel_rfl) ?_
    refine PJ.next ?_
    refine K.block 0 (by kernel_rfl) ?_
    refine K.loop (by kernel_rfl) (fun (s45 : Int) => ([(1, .ptr 0 0), (2, .bool false), (3, .int .i64 (x0.D_.length : Int)), (4, .int .i64 s45)], [.box [.bool x0.Neg_, lsv (encI .u8) 1 x0.D_, .int .i64 x0.E_]])) hy42 [1, 2, 3, 4] (by kernel_rfl) (by kernel_rfl) (fun s45 x71 hs70 => ?_)
    refine K.seq (by kernel_rfl) ?_
    refine K.seq (by kernel_rfl) ?_
    refine K.region (by kernel_rfl) ?_
    refine RJ.seg 3 [1, 2, 3, 4, 10] (L2 := [(1, .ptr 0 0), (2, .bool false), (3, .int .i64 (x0.D_.length : Int)), (4, .int .i64 s45), (10, .bool ((decide (s45 < (x0.D_.length : Int)))))]) (H2 := [.box [.bool x0.Neg_, lsv (encI .u8) 1 x0.D_, .int .i64 x0.E_]]) (by kernel_rfl) ?_
    refine RJ.end (by kernel_rfl) ?_
    refine PJ.next ?_
    refine J.caseB 10 (b := (decide (s45 < (x0.D_.length : Int)))) (by kernel_rfl) (fun hb72 => ?_) (fun hb72 => ?_)
    · have h73 := condT hb72 hs70
      refine K.condT (by kernel_rfl) ?_
      refine K.skip (by kernel_rfl) ?_
      refine PJ.next ?_
      refine K.seq (by kernel_rfl) ?_
      refine K.block 1 (by kernel_rfl) ?_
      refine K.seq (by kernel_rfl) ?_
      refine K.region (by kernel_rfl) ?_
      refine RJ.seg 3 [1, 2, 3, 4, 14, 15] (L2 := [(1, .ptr 0 0), (2, .bool false), (3, .int .i64 (x0.D_.length : Int)), (4, .int .i64 s45), (14, lsv (encI .u8) 1 x0.D_), (15, .int .i64 s45)]) (H2 := [.box [.bool x0.Neg_, lsv (encI .u8) 1 x0.D_, .int .i64 x0.E_]]) (by kernel_rfl) ?_
      obtain ⟨hm, h75⟩ := asrt h73
      refine RJ.rel (d := (some 16)) (ef := ⟨.ep (((x0.D_.flatMap (encI .u8)).drop ((s45 : Int).toNat * 1)).take 1), [], []⟩) (ef' := ⟨.ep ((encI .u8) (nth x0.D_ s45)), [], []⟩) (c := inR s45 x0.D_.length) (tr2 := []) (H2 := [.box [.bool x0.Neg_, lsv (encI .u8) 1 x0.D_, .int .i64 x0.E_]]) (by kernel_rfl) hm (fun hc => N.idx (encI_len .u8) hc) (by kernel_rfl) ?_
      refine RJ.seg 2 [1, 2, 3, 4, 18] (L2 := [(1, .ptr 0 0), (2, .bool false), (3, .int .i64 (x0.D_.length : Int)), (4, .int .i64 s45), (18, .bool ((decide ((nth x0.D_ s45) > 9))))]) (H2 := [.box [.bool x0.Neg_, lsv (encI .u8) 1 x0.D_, .int .i64 x0.E_]]) (by kernel_rfl) ?_
      refine RJ.end (by kernel_rfl) ?_
      refine PJ.next ?_
      refine J.caseB 18 (b := (decide ((nth x0.D_ s45) > 9))) (by kernel_rfl) (fun hb76 => ?_) (fun hb76 => ?_)
      · have h77 := condT hb76 h75
        refine K.condT (by kernel_rfl) ?_
        refine K.seq (by kernel_rfl) ?_
        refine K.region (by kernel_rfl) ?_
        refine RJ.seg 1 [1, 2, 3, 4] (L2 := [(1, .ptr 0 0), (2, .bool false), (3, .int .i64 (x0.D_.length : Int)), (4, .int .i64 s45)]) (H2 := [.box [.bool x0.Neg_, lsv (encI .u8) 1 x0.D_, .int .i64 x0.E_]]) (by kernel_rfl) ?_
        refine RJ.end (by kernel_rfl) ?_
        refine PJ.next ?_
        refine K.ret (by kernel_rfl) ?_
        refine PJ.blockRet ?_
        refine PJ.passRet ?_
        obtain rfl := Option.some.inj h77
        refine PJ.loopOut (fun e => nomatch e) (fun he81 => ?_)
        have h79 := congrArg some he81
        refine PJ.blockRet ?_
        obtain rfl := Option.some.inj h79
        have h80 := joinX_inr h43
        refine PJ.cutXr (fun e => nomatch e) ?_
        obtain rfl := Option.some.inj h80
        exact K.ret0 (.inr rfl) hFn hFH hFD (by kernel_rfl) (by kernel_rfl) (by kernel_rfl)
      · have h78 := condF hb76 h75
        refine K.condF (by kernel_rfl) ?_
        refine K.skip (by kernel_rfl) ?_
        refine PJ.blockNormal ?_
        refine PJ.next ?_
        refine K.region (by kernel_rfl) ?_
        refine RJ.seg 3 [1, 2, 3, 4] (L2 := [(1, .ptr 0 0), (2, .bool false), (3, .int .i64 (x0.D_.length : Int)), (4, .int .i64 (IntKind.wrap .i64 (s45 + 1)))]) (H2 := [.box [.bool x0.Neg_, lsv (encI .u8) 1 x0.D_, .int .i64 x0.E_]]) (by kernel_rfl) ?_
        refine RJ.end (by kernel_rfl) ?_
        obtain rfl := Option.some.inj h78
        exact PJ.loopNext [1, 2, 3, 4] (by kernel_rfl) (by kernel_rfl)
    · have h74 := condF hb72 hs70
      refine K.condF (by kernel_rfl) ?_
      refine K.exit 0 (by kernel_rfl) ?_
      refine PJ.passExit ?_
      obtain rfl := Option.some.inj h74
      refine PJ.loopOut (fun e => nomatch e) (fun he83 => ?_)
      have h82 := congrArg some he83
      refine PJ.blockOut ?_
      obtain rfl := Option.some.inj h82
      exact PJ.cutXl [1, 2, 3] (by kernel_rfl) (by kernel_rfl)
  · subst hs
    have h44 := joinX_inl h43
    refine K.seq (by kernel_rfl) ?_
    refine K.seq (by kernel_rfl) ?_
    refine K.region (by kernel_rfl) ?_
    refine RJ.seg 2 [1, 2, 3, 20] (L2 := [(1, .ptr 0 0), (2, .bool false), (3, .int .i64 (x0.D_.length : Int)), (20, .bool ((decide ((x0.D_.length : Int) = 0))))]) (H2 := [.box [.bool x0.Neg_, lsv (encI .u8) 1 x0.D_, .int .i64 x0.E_]]) (by kernel_rfl) ?_
    refine RJ.end (by kernel_rfl) ?_
    refine PJ.next ?_
    refine J.caseB 20 (b := (decide ((x0.D_.length : Int) = 0))) (by kernel_rfl) (fun hb84 => ?_) (fun hb84 => ?_)
    · have h85 := condT hb84 h44
      refine K.condT (by kernel_rfl) ?_
      refine K.seq (by kernel_rfl) ?_
      refine K.region (by kernel_rfl) ?_
      refine RJ.seg 4 [1, 2, 3] (L2 := [(1, .ptr 0 0), (2, .bool (decide (x0.E_ = 0))), (3, .int .i64 (x0.D_.length : Int))]) (H2 := [.box [.bool x0.Neg_, lsv (encI .u8) 1 x0.D_, .int .i64 x0.E_]]) (by kernel_rfl) ?_
      refine RJ.end (by kernel_rfl) ?_
      refine PJ.next ?_
      refine K.ret (by kernel_rfl) ?_
      refine PJ.passRet ?_
      obtain rfl := Option.some.inj h85
      exact K.ret0 (.inr rfl) hFn hFH hFD (by kernel_rfl) (by kernel_rfl) (by kernel_rfl)
    · have h86 := condF hb84 h44
      refine K.condF (by kernel_rfl) ?_
      refine K.skip (by kernel_rfl) ?_
      refine PJ.next ?_
      obtain ⟨s101, hy103, h105⟩ := bindS h86
      refine K.cutN (by kernel_rfl) (fun (s101 : Bool) => ([(2, .bool s101)], [])) s101 ?_ ?_
      · refine K.region (by kernel_rfl) ?_
        refine RJ.seg 3 [1, 2, 3, 26] (L2 := [(1, .ptr 0 0), (2, .bool false), (3, .int .i64 (x0.D_.length : Int)), (26, .bool ((decide ((x0.D_.length : Int) ≤ 1000))))]) (H2 := [.box [.bool x0.Neg_, lsv (encI .u8) 1 x0.D_, .int .i64 x0.E_]]) (by kernel_rfl) ?_
        refine RJ.caseB 26 (b := (decide ((x0.D_.length : Int) ≤ 1000))) (by kernel_rfl) (fun hb106 => ?_) (fun hb106 => ?_)
        · have h107 := condT hb106 hy103
          refine RJ.seg 2 [1, 2, 3, 26, 28] (L2 := [(1, .ptr 0 0), (2, .bool false), (3, .int .i64 (x0.D_.length : Int)), (26, .bool true), (28, lsv (encI .u8) 1 x0.D_)]) (H2 := [.box [.bool x0.Neg_, lsv (encI .u8) 1 x0.D_, .int .i64 x0.E_]]) (by kernel_rfl) ?_
          obtain ⟨hm, h109⟩ := asrt h107
          refine RJ.rel (d := (some 29)) (ef := ⟨.ep (((x0.D_.flatMap (encI .u8)).drop ((0 : Int).toNat * 1)).take 1), [], []⟩) (ef' := ⟨.ep ((encI .u8) (nth x0.D_ 0)), [], []⟩) (c := inR 0 x0.D_.length) (tr2 := []) (H2 := [.box [.bool x0.Neg_, lsv (encI .u8) 1 x0.D_, .int .i64 x0.E_]]) (by kernel_rfl) hm (fun hc => N.idx (encI_len .u8) hc) (by kernel_rfl) ?_
          refine RJ.seg 4 [1, 2, 3, 33] (L2 := [(1, .ptr 0 0), (2, .bool false), (3, .int .i64 (x0.D_.length : Int)), (33, .bool ((decide ((nth x0.D_ 0) > 0))))]) (H2 := [.box [.bool x0.Neg_, lsv (encI .u8) 1 x0.D_, .int .i64 x0.E_]]) (by kernel_rfl) ?_
          refine RJ.caseB 33 (b := (decide ((nth x0.D_ 0) > 0))) (by kernel_rfl) (fun hb110 => ?_) (fun hb110 => ?_)
          · have h111 := condT hb110 h109
            refine RJ.seg 4 [1, 2, 33, 35, 37] (L2 := [(1, .ptr 0 0), (2, .bool false), (33, .bool true), (35, lsv (encI .u8) 1 x0.D_), (37, .int .i64 ((IntKind.wrap .i64 ((x0.D_.length : Int) - 1))))]) (H2 := [.box [.bool x0.Neg_, lsv (encI .u8) 1 x0.D_, .int .i64 x0.E_]]) (by kernel_rfl) ?_
            obtain ⟨hm, h113⟩ := asrt h111
            refine RJ.rel (d := (some 38)) (ef := ⟨.ep (((x0.D_.flatMap (encI .u8)).drop (((IntKind.wrap .i64 ((x0.D_.length : Int) - 1)) : Int).toNat * 1)).take 1), [], []⟩) (ef' := ⟨.ep ((encI .u8) (nth x0.D_ ((IntKind.wrap .i64 ((x0.D_.length : Int) - 1))))), [], []⟩) (c := inR ((IntKind.wrap .i64 ((x0.D_.length : Int) - 1))) x0.D_.length) (tr2 := []) (H2 := [.box [.bool x0.Neg_, lsv (encI .u8) 1 x0.D_, .int .i64 x0.E_]]) (by kernel_rfl) hm (fun hc => N.idx (encI_len .u8) hc) (by kernel_rfl) ?_
            refine RJ.seg 4 [1, 2, 42] (L2 := [(1, .ptr 0 0), (2, .bool false), (42, .bool ((decide (((nth x0.D_ ((IntKind.wrap .i64 ((x0.D_.length : Int) - 1))))) > 0))))]) (H2 := [.box [.bool x0.Neg_, lsv (encI .u8) 1 x0.D_, .int .i64 x0.E_]]) (by kernel_rfl) ?_
            refine RJ.caseB 42 (b := (decide (((nth x0.D_ ((IntKind.wrap .i64 ((x0.D_.length : Int) - 1))))) > 0))) (by kernel_rfl) (fun hb114 => ?_) (fun hb114 => ?_)
            · have h115 := condT hb114 h113
              refine RJ.seg 5 [1, 2, 47] (L2 := [(1, .ptr 0 0), (2, .bool false), (47, .bool ((decide (x0.E_ ≥ (-1000)))))]) (H2 := [.box [.bool x0.Neg_, lsv (encI .u8) 1 x0.D_, .int .i64 x0.E_]]) (by kernel_rfl) ?_
              refine RJ.caseB 47 (b := (decide (x0.E_ ≥ (-1000)))) (by kernel_rfl) (fun hb117 => ?_) (fun hb117 => ?_)
              · have h118 := condT hb117 h115
                refine RJ.seg 5 [2] (L2 := [(2, .bool (decide (x0.E_ ≤ 1000)))]) (H2 := [.box [.bool x0.Neg_, lsv (encI .u8) 1 x0.D_, .int .i64 x0.E_]]) (by kernel_rfl) ?_
                refine RJ.end (by kernel_rfl) ?_
                obtain rfl := Option.some.inj h118
                refine PJ.wk (Wk.sel (L2 := [(2, .bool (decide (x0.E_ ≤ 1000)))]) (H2 := []) 0 (by rw [hFH]; rfl) hFD [] (by kernel_rfl) (by kernel_rfl) (by decide) (by kernel_rfl) (by kernel_rfl) (by kernel_rfl) (by kernel_rfl)) ?_
                exact PJ.cutN [2] (by kernel_rfl) (by kernel_rfl)
              · have h119 := condF hb117 h115
                refine RJ.seg 5 [2] (L2 := [(2, .bool false)]) (H2 := [.box [.bool x0.Neg_, lsv (encI .u8) 1 x0.D_, .int .i64 x0.E_]]) (by kernel_rfl) ?_
                refine RJ.end (by kernel_rfl) ?_
                obtain rfl := Option.some.inj h119
                refine PJ.wk (Wk.sel (L2 := [(2, .bool false)]) (H2 := []) 0 (by rw [hFH]; rfl) hFD [] (by kernel_rfl) (by kernel_rfl) (by decide) (by kernel_rfl) (by kernel_rfl) (by kernel_rfl) (by kernel_rfl)) ?_
                exact PJ.cutN [2] (by kernel_rfl) (by kernel_rfl)
            · have h116 := condF hb114 h113
              refine RJ.seg 10 [2] (L2 := [(2, .bool false)]) (H2 := [.box [.bool x0.Neg_, lsv (encI .u8) 1 x0.D_, .int .i64 x0.E_]]) (by kernel_rfl) ?_
              refine RJ.end (by kernel_rfl) ?_
              obtain rfl := Option.some.inj h116
              refine PJ.wk (Wk.sel (L2 := [(2, .bool false)]) (H2 := []) 0 (by rw [hFH]; rfl) hFD [] (by kernel_rfl) (by kernel_rfl) (by decide) (by kernel_rfl) (by kernel_rfl) (by kernel_rfl) (by kernel_rfl)) ?_
              exact PJ.cutN [2] (by kernel_rfl) (by kernel_rfl)
          · have h112 := condF hb110 h109
            refine RJ.seg 19 [2] (L2 := [(2, .bool false)]) (H2 := [.box [.bool x0.Neg_, lsv (encI .u8) 1 x0.D_, .int .i64 x0.E_]]) (by kernel_rfl) ?_
            refine RJ.end (by kernel_rfl) ?_
            obtain rfl := Option.some.inj h112
            refine PJ.wk (Wk.sel (L2 := [(2, .bool false)]) (H2 := []) 0 (by rw [hFH]; rfl) hFD [] (by kernel_rfl) (by kernel_rfl) (by decide) (by kernel_rfl) (by kernel_rfl) (by kernel_rfl) (by kernel_rfl)) ?_
            exact PJ.cutN [2] (by kernel_rfl) (by kernel_rfl)
        · have h108 := condF hb106 hy103
          refine RJ.seg 26 [2] (L2 := [(2, .bool false)]) (H2 := [.box [.bool x0.Neg_, lsv (encI .u8) 1 x0.D_, .int .i64 x0.E_]]) (by kernel_rfl) ?_
          refine RJ.end (by kernel_rfl) ?_
          obtain rfl := Option.some.inj h108
          refine PJ.wk (Wk.sel (L2 := [(2, .bool false)]) (H2 := []) 0 (by rw [hFH]; rfl) hFD [] (by kernel_rfl) (by kernel_rfl) (by decide) (by kernel_rfl) (by kernel_rfl) (by kernel_rfl) (by kernel_rfl)) ?_
          exact PJ.cutN [2] (by kernel_rfl) (by kernel_rfl)
      · refine K.ret (by kernel_rfl) ?_
        obtain rfl := Option.some.inj h105
        exact K.ret0 (.inr rfl) hFn hFH hFD (by kernel_rfl) (by kernel_rfl) (by kernel_rfl)

def exergueref06_Near (x0 : St23) : Option (Bool) :=
  (Option.bind (exergueref05_Right x0) fun y1 => (Option.bind (bif y1 then (bif (decide ((x0.D_.length : Int) ≤ 40)) then (bif (decide (x0.E_ ≥ (-60))) then (some (decide (x0.E_ ≤ 60))) else (some false)) else (some false)) else (some false)) fun (s13 : Bool) => (some s13)))
theorem exergueref06_Near_ok {x0 : St23} {r : Bool} (h : exergueref06_Near x0 = some r) : SC Try.prog 17 [.agg [.bool x0.Neg_, lsv (encI .u8) 1 x0.D_, .int .i64 x0.E_]] [] (.bool r) [] := by
  refine K.fn (fn := Try.f17) (by kernel_rfl) (by kernel_rfl) (by kernel_rfl) (by kernel_rfl) (by kernel_rfl) (fun F hFn hFH hFD => ?_)
  unfold exergueref06_Near at h
  refine K.seq (by kernel_rfl) ?_
  refine K.region (by kernel_rfl) ?_
  refine RJ.seg 2 [1, 2] (L2 := [(1, .ptr 0 0), (2, .bool false)]) (H2 := [.box [.bool x0.Neg_, lsv (encI .u8) 1 x0.D_, .int .i64 x0.E_]]) (by kernel_rfl) ?_
  refine RJ.end (by kernel_rfl) ?_
  refine PJ.next ?_
  refine K.seq (by kernel_rfl) ?_
  refine K.region (by kernel_rfl) ?_
  refine RJ.seg 1 [1, 2, 4] (L2 := [(1, .ptr 0 0), (2, .bool false), (4, .agg [.bool x0.Neg_, lsv (encI .u8) 1 x0.D_, .int .i64 x0.E_])]) (H2 := [.box [.bool x0.Neg_, lsv (encI .u8) 1 x0.D_, .int .i64 x0.E_]]) (by kernel_rfl) ?_
  obtain ⟨y1, hy2, h3⟩ := bindS h
  refine RJ.call0 (d := (some 5)) (f := 13) (args := [.agg [.bool x0.Neg_, lsv (encI .u8) 1 x0.D_, .int .i64 x0.E_]]) (v := .bool y1) (tr2 := []) (by kernel_rfl) (by kernel_rfl) (.cons (Le.refl _) .nil) (exergueref05_Right_ok hy2) (by kernel_rfl) ?_
  refine RJ.seg 1 [1, 2, 3] (L2 := [(1, .ptr 0 0), (2, .bool false), (3, .bool y1)]) (H2 := [.box [.bool x0.Neg_, lsv (encI .u8) 1 x0.D_, .int .i64 x0.E_]]) (by kernel_rfl) ?_
  refine RJ.end (by kernel_rfl) ?_
  refine PJ.next ?_
  obtain ⟨s13, hy15, h17⟩ := bindS h3
  refine K.cutN (by kernel_rfl) (fun (s13 : Bool) => ([(2, .bool s13)], [])) s13 ?_ ?_
  · refine K.region (by kernel_rfl) ?_
    refine RJ.seg 2 [1, 2, 7] (L2 := [(1, .ptr 0 0), (2, .bool false), (7, .bool y1)]) (H2 := [.box [.bool x0.Neg_, lsv (encI .u8) 1 x0.D_, .int .i64 x0.E_]]) (by kernel_rfl) ?_
    refine RJ.caseB 7 (b := y1) (by kernel_rfl) (fun hb18 => ?_) (fun hb18 => ?_)
    · have h19 := condT hb18 hy15
      refine RJ.seg 6 [1, 2, 13] (L2 := [(1, .ptr 0 0), (2, .bool false), (13, .bool ((decide ((x0.D_.length : Int) ≤ 40))))]) (H2 := [.box [.bool x0.Neg_, lsv (encI .u8) 1 x0.D_, .int .i64 x0.E_]]) (by kernel_rfl) ?_
      refine RJ.caseB 13 (b := (decide ((x0.D_.length : Int) ≤ 40))) (by kernel_rfl) (fun hb21 => ?_) (fun hb21 => ?_)
      · have h22 := condT hb21 h19
        refine RJ.seg 5 [1, 2, 18] (L2 := [(1, .ptr 0 0), (2, .bool false), (18, .bool ((decide (x0.E_ ≥ (-60)))))]) (H2 := [.box [.bool x0.Neg_, lsv (encI .u8) 1 x0.D_, .int .i64 x0.E_]]) (by kernel_rfl) ?_
        refine RJ.caseB 18 (b := (decide (x0.E_ ≥ (-60)))) (by kernel_rfl) (fun hb24 => ?_) (fun hb24 => ?_)
        · have h25 := condT hb24 h22
          refine RJ.seg 5 [2] (L2 := [(2, .bool (decide (x0.E_ ≤ 60)))]) (H2 := [.box [.bool x0.Neg_, lsv (encI .u8) 1 x0.D_, .int .i64 x0.E_]]) (by kernel_rfl) ?_
          refine RJ.end (by kernel_rfl) ?_
          obtain rfl := Option.some.inj h25
          refine PJ.wk (Wk.sel (L2 := [(2, .bool (decide (x0.E_ ≤ 60)))]) (H2 := []) 0 (by rw [hFH]; rfl) hFD [] (by kernel_rfl) (by kernel_rfl) (by decide) (by kernel_rfl) (by kernel_rfl) (by kernel_rfl) (by kernel_rfl)) ?_
          exact PJ.cutN [2] (by kernel_rfl) (by kernel_rfl)
        · have h26 := condF hb24 h22
          refine RJ.seg 5 [2] (L2 := [(2, .bool false)]) (H2 := [.box [.bool x0.Neg_, lsv (encI .u8) 1 x0.D_, .int .i64 x0.E_]]) (by kernel_rfl) ?_
          refine RJ.end (by kernel_rfl) ?_
          obtain rfl := Option.some.inj h26
          refine PJ.wk (Wk.sel (L2 := [(2, .bool false)]) (H2 := []) 0 (by rw [hFH]; rfl) hFD [] (by kernel_rfl) (by kernel_rfl) (by decide) (by kernel_rfl) (by kernel_rfl) (by kernel_rfl) (by kernel_rfl)) ?_
          exact PJ.cutN [2] (by kernel_rfl) (by kernel_rfl)
      · have h23 := condF hb21 h19
        refine RJ.seg 10 [2] (L2 := [(2, .bool false)]) (H2 := [.box [.bool x0.Neg_, lsv (encI .u8) 1 x0.D_, .int .i64 x0.E_]]) (by kernel_rfl) ?_
        refine RJ.end (by kernel_rfl) ?_
        obtain rfl := Option.some.inj h23
        refine PJ.wk (Wk.sel (L2 := [(2, .bool false)]) (H2 := []) 0 (by rw [hFH]; rfl) hFD [] (by kernel_rfl) (by kernel_rfl) (by decide) (by kernel_rfl) (by kernel_rfl) (by kernel_rfl) (by kernel_rfl)) ?_
        exact PJ.cutN [2] (by kernel_rfl) (by kernel_rfl)
    · have h20 := condF hb18 hy15
      refine RJ.seg 16 [2] (L2 := [(2, .bool false)]) (H2 := [.box [.bool x0.Neg_, lsv (encI .u8) 1 x0.D_, .int .i64 x0.E_]]) (by kernel_rfl) ?_
      refine RJ.end (by kernel_rfl) ?_
      obtain rfl := Option.some.inj h20
      refine PJ.wk (Wk.sel (L2 := [(2, .bool false)]) (H2 := []) 0 (by rw [hFH]; rfl) hFD [] (by kernel_rfl) (by kernel_rfl) (by decide) (by kernel_rfl) (by kernel_rfl) (by kernel_rfl) (by kernel_rfl)) ?_
      exact PJ.cutN [2] (by kernel_rfl) (by kernel_rfl)
  · refine K.ret (by kernel_rfl) ?_
    obtain rfl := Option.some.inj h17
    exact K.ret0 (.inr rfl) hFn hFH hFD (by kernel_rfl) (by kernel_rfl) (by kernel_rfl)

def exergueref06_Is (x0 : Int) : Option (Bool) :=
  (Option.bind (bif (decide (x0 ≥ 0)) then (some (decide (x0 ≤ 7))) else (some false)) fun (s4 : Bool) => (some s4))
theorem exergueref06_Is_ok {x0 : Int} {r : Bool} (h : exergueref06_Is x0 = some r) : SC Try.prog 11 [.int .i64 x0] [] (.bool r) [] := by
  refine K.fn (fn := Try.f11) (by kernel_rfl) (by kernel_rfl) (by kernel_rfl) (by kernel_rfl) (by kernel_rfl) (fun F hFn hFH hFD => ?_)
  unfold exergueref06_Is at h
  refine K.seq (by kernel_rfl) ?_
  refine K.region (by kernel_rfl) ?_
  refine RJ.seg 1 [0, 2] (L2 := [(0, .int .i64 x0), (2, .bool false)]) (H2 := []) (by kernel_rfl) ?_
  refine RJ.end (by kernel_rfl) ?_
  refine PJ.next ?_
  obtain ⟨s4, hy6, h8⟩ := bindS h
  refine K.cutN (by kernel_rfl) (fun (s4 : Bool) => ([(2, .bool s4)], [])) s4 ?_ ?_
  · refine K.region (by kernel_rfl) ?_
    refine RJ.seg 3 [0, 2, 5] (L2 := [(0, .int .i64 x0), (2, .bool false), (5, .bool (decide (x0 ≥ 0)))]) (H2 := []) (by kernel_rfl) ?_
    refine RJ.caseB 5 (b := (decide (x0 ≥ 0))) (by kernel_rfl) (fun hb9 => ?_) (fun hb9 => ?_)
    · have h10 := condT hb9 hy6
      refine RJ.seg 4 [2] (L2 := [(2, .bool (decide (x0 ≤ 7)))]) (H2 := []) (by kernel_rfl) ?_
      refine RJ.end (by kernel_rfl) ?_
      obtain rfl := Option.some.inj h10
      exact PJ.cutN [2] (by kernel_rfl) (by kernel_rfl)
    · have h11 := condF hb9 hy6
      refine RJ.seg 4 [2] (L2 := [(2, .bool false)]) (H2 := []) (by kernel_rfl) ?_
      refine RJ.end (by kernel_rfl) ?_
      obtain rfl := Option.some.inj h11
      exact PJ.cutN [2] (by kernel_rfl) (by kernel_rfl)
  · refine K.ret (by kernel_rfl) ?_
    obtain rfl := Option.some.inj h8
    exact K.ret0 (.inr rfl) hFn hFH hFD (by kernel_rfl) (by kernel_rfl) (by kernel_rfl)

def exergueref06_Unit (x0 : Int) (x1 : Int) : Option (Bool) :=
  (Option.bind (bif (decide (x0 ≥ 1)) then (bif (decide (x0 ≤ 1000000000)) then (bif (decide (x1 ≥ (-1000))) then (some (decide (x1 ≤ 1000))) else (some false)) else (some false)) else (some false)) fun (s10 : Bool) => (some s10))
theorem exergueref06_Unit_ok {x0 : Int} {x1 : Int} {r : Bool} (h : exergueref06_Unit x0 x1 = some r) : SC Try.prog 21 [.int .i64 x0, .int .i64 x1] [] (.bool r) [] := by
  refine K.fn (fn := Try.f21) (by kernel_rfl) (by kernel_rfl) (by kernel_rfl) (by kernel_rfl) (by kernel_rfl) (fun F hFn hFH hFD => ?_)
  unfold exergueref06_Unit at h
  refine K.seq (by kernel_rfl) ?_
  refine K.region (by kernel_rfl) ?_
  refine RJ.seg 1 [0, 1, 4] (L2 := [(0, .int .i64 x0), (1, .int .i64 x1), (4, .bool false)]) (H2 := []) (by kernel_rfl) ?_
  refine RJ.end (by kernel_rfl) ?_
  refine PJ.next ?_
  obtain ⟨s10, hy12, h14⟩ := bindS h
  refine K.cutN (by kernel_rfl) (fun (s10 : Bool) => ([(4, .bool s10)], [])) s10 ?_ ?_
  · refine K.region (by kernel_rfl) ?_
    refine RJ.seg 3 [0, 1, 4, 7] (L2 := [(0, .int .i64 x0), (1, .int .i64 x1), (4, .bool false), (7, .bool (decide (x0 ≥ 1)))]) (H2 := []) (by kernel_rfl) ?_
    refine RJ.caseB 7 (b := (decide (x0 ≥ 1))) (by kernel_rfl) (fun hb15 => ?_) (fun hb15 => ?_)
    · have h16 := condT hb15 hy12
      refine RJ.seg 4 [1, 4, 11] (L2 := [(1, .int .i64 x1), (4, .bool false), (11, .bool (decide (x0 ≤ 1000000000)))]) (H2 := []) (by kernel_rfl) ?_
      refine RJ.caseB 11 (b := (decide (x0 ≤ 1000000000))) (by kernel_rfl) (fun hb18 => ?_) (fun hb18 => ?_)
      · have h19 := condT hb18 h16
        refine RJ.seg 4 [1, 4, 15] (L2 := [(1, .int .i64 x1), (4, .bool false), (15, .bool ((decide (x1 ≥ (-1000)))))]) (H2 := []) (by kernel_rfl) ?_
        refine RJ.caseB 15 (b := (decide (x1 ≥ (-1000)))) (by kernel_rfl) (fun hb21 => ?_) (fun hb21 => ?_)
        · have h22 := condT hb21 h19
          refine RJ.seg 4 [4] (L2 := [(4, .bool (decide (x1 ≤ 1000)))]) (H2 := []) (by kernel_rfl) ?_
          refine RJ.end (by kernel_rfl) ?_
          obtain rfl := Option.some.inj h22
          exact PJ.cutN [4] (by kernel_rfl) (by kernel_rfl)
        · have h23 := condF hb21 h19
          refine RJ.seg 4 [4] (L2 := [(4, .bool false)]) (H2 := []) (by kernel_rfl) ?_
          refine RJ.end (by kernel_rfl) ?_
          obtain rfl := Option.some.inj h23
          exact PJ.cutN [4] (by kernel_rfl) (by kernel_rfl)
      · have h20 := condF hb18 h16
        refine RJ.seg 8 [4] (L2 := [(4, .bool false)]) (H2 := []) (by kernel_rfl) ?_
        refine RJ.end (by kernel_rfl) ?_
        obtain rfl := Option.some.inj h20
        exact PJ.cutN [4] (by kernel_rfl) (by kernel_rfl)
    · have h17 := condF hb15 hy12
      refine RJ.seg 12 [4] (L2 := [(4, .bool false)]) (H2 := []) (by kernel_rfl) ?_
      refine RJ.end (by kernel_rfl) ?_
      obtain rfl := Option.some.inj h17
      exact PJ.cutN [4] (by kernel_rfl) (by kernel_rfl)
  · refine K.ret (by kernel_rfl) ?_
    obtain rfl := Option.some.inj h14
    exact K.ret0 (.inr rfl) hFn hFH hFD (by kernel_rfl) (by kernel_rfl) (by kernel_rfl)

def exerguelaw06_near (x0 : St23) (x1 : Int) (x2 : Int) (x3 : Int) : Option (Bool) :=
  (Option.bind (Option.bind (exergueref06_Near x0) fun y27 => (bif y27 then (Option.bind (exergueref06_Is x3) fun y33 => (bif y33 then (Option.bind (exergueref06_Unit x1 x2) fun y39 => (bif y39 then (bif (decide (x2 ≥ (-120))) then (some (decide (x2 ≤ 120))) else (some false)) else (some false))) else (some false))) else (some false))) fun (s22 : Bool) => (some s22))
theorem exerguelaw06_near_ok {x0 : St23} {x1 : Int} {x2 : Int} {x3 : Int} {r : Bool} (h : exerguelaw06_near x0 x1 x2 x3 = some r) : SC Try.prog 10 [.agg [.bool x0.Neg_, lsv (encI .u8) 1 x0.D_, .int .i64 x0.E_], .int .i64 x1, .int .i64 x2, .int .i64 x3] [] (.bool r) [] := by
  refine K.fn (fn := Try.f10) (by kernel_rfl) (by kernel_rfl) (by kernel_rfl) (by kernel_rfl) (by kernel_rfl) (fun F hFn hFH hFD => ?_)
  unfold exerguelaw06_near at h
  refine K.seq (by kernel_rfl) ?_
  refine K.region (by kernel_rfl) ?_
  refine RJ.seg 2 [1, 2, 3, 4, 8] (L2 := [(1, .int .i64 x1), (2, .int .i64 x2), (3, .int .i64 x3), (4, .ptr 0 0), (8, .bool false)]) (H2 := [.box [.bool x0.Neg_, lsv (encI .u8) 1 x0.D_, .int .i64 x0.E_]]) (by kernel_rfl) ?_
  refine RJ.end (by kernel_rfl) ?_
  refine PJ.next ?_
  obtain ⟨s22, hy24, h26⟩ := bindS h
  refine K.cutN (by kernel_rfl) (fun (s22 : Bool) => ([(8, .bool s22)], [])) s22 ?_ ?_
  · refine K.region (by kernel_rfl) ?_
    refine RJ.seg 1 [1, 2, 3, 8, 9] (L2 := [(1, .int .i64 x1), (2, .int .i64 x2), (3, .int .i64 x3), (8, .bool false), (9, .agg [.bool x0.Neg_, lsv (encI .u8) 1 x0.D_, .int .i64 x0.E_])]) (H2 := [.box [.bool x0.Neg_, lsv (encI .u8) 1 x0.D_, .int .i64 x0.E_]]) (by kernel_rfl) ?_
    obtain ⟨y27, hy28, h29⟩ := bindS hy24
    refine RJ.call0 (d := (some 10)) (f := 17) (args := [.agg [.bool x0.Neg_, lsv (encI .u8) 1 x0.D_, .int .i64 x0.E_]]) (v := .bool y27) (tr2 := []) (by kernel_rfl) (by kernel_rfl) (.cons (Le.refl _) .nil) (exergueref06_Near_ok hy28) (by kernel_rfl) ?_
    refine RJ.seg 1 [1, 2, 3, 8, 11] (L2 := [(1, .int .i64 x1), (2, .int .i64 x2), (3, .int .i64 x3), (8, .bool false), (11, .bool y27)]) (H2 := [.box [.bool x0.Neg_, lsv (encI .u8) 1 x0.D_, .int .i64 x0.E_]]) (by kernel_rfl) ?_
    refine RJ.caseB 11 (b := y27) (by kernel_rfl) (fun hb30 => ?_) (fun hb30 => ?_)
    · have h31 := condT hb30 h29
      refine RJ.seg 1 [1, 2, 8, 11, 12] (L2 := [(1, .int .i64 x1), (2, .int .i64 x2), (8, .bool false), (11, .bool true), (12, .int .i64 x3)]) (H2 := [.box [.bool x0.Neg_, lsv (encI .u8) 1 x0.D_, .int .i64 x0.E_]]) (by kernel_rfl) ?_
      obtain ⟨y33, hy34, h35⟩ := bindS h31
      refine RJ.call0 (d := (some 13)) (f := 11) (args := [.int .i64 x3]) (v := .bool y33) (tr2 := []) (by kernel_rfl) (by kernel_rfl) (.cons (Le.refl _) .nil) (exergueref06_Is_ok hy34) (by kernel_rfl) ?_
      refine RJ.seg 2 [1, 2, 8, 15] (L2 := [(1, .int .i64 x1), (2, .int .i64 x2), (8, .bool false), (15, .bool y33)]) (H2 := [.box [.bool x0.Neg_, lsv (encI .u8) 1 x0.D_, .int .i64 x0.E_]]) (by kernel_rfl) ?_
      refine RJ.caseB 15 (b := y33) (by kernel_rfl) (fun hb36 => ?_) (fun hb36 => ?_)
      · have h37 := condT hb36 h35
        refine RJ.seg 2 [2, 8, 15, 16, 17] (L2 := [(2, .int .i64 x2), (8, .bool false), (15, .bool true), (16, .int .i64 x1), (17, .int .i64 x2)]) (H2 := [.box [.bool x0.Neg_, lsv (encI .u8) 1 x0.D_, .int .i64 x0.E_]]) (by kernel_rfl) ?_
        obtain ⟨y39, hy40, h41⟩ := bindS h37
        refine RJ.call0 (d := (some 18)) (f := 21) (args := [.int .i64 x1, .int .i64 x2]) (v := .bool y39) (tr2 := []) (by kernel_rfl) (by kernel_rfl) (.cons (Le.refl _) (.cons (Le.refl _) .nil)) (exergueref06_Unit_ok hy40) (by kernel_rfl) ?_
        refine RJ.seg 2 [2, 8, 20] (L2 := [(2, .int .i64 x2), (8, .bool false), (20, .bool y39)]) (H2 := [.box [.bool x0.Neg_, lsv (encI .u8) 1 x0.D_, .int .i64 x0.E_]]) (by kernel_rfl) ?_
        refine RJ.caseB 20 (b := y39) (by kernel_rfl) (fun hb42 => ?_) (fun hb42 => ?_)
        · have h43 := condT hb42 h41
          refine RJ.seg 4 [2, 8, 24] (L2 := [(2, .int .i64 x2), (8, .bool false), (24, .bool ((decide (x2 ≥ (-120)))))]) (H2 := [.box [.bool x0.Neg_, lsv (encI .u8) 1 x0.D_, .int .i64 x0.E_]]) (by kernel_rfl) ?_
          refine RJ.caseB 24 (b := (decide (x2 ≥ (-120)))) (by kernel_rfl) (fun hb45 => ?_) (fun hb45 => ?_)
          · have h46 := condT hb45 h43
            refine RJ.seg 4 [8] (L2 := [(8, .bool (decide (x2 ≤ 120)))]) (H2 := [.box [.bool x0.Neg_, lsv (encI .u8) 1 x0.D_, .int .i64 x0.E_]]) (by kernel_rfl) ?_
            refine RJ.end (by kernel_rfl) ?_
            obtain rfl := Option.some.inj h46
            refine PJ.wk (Wk.sel (L2 := [(8, .bool (decide (x2 ≤ 120)))]) (H2 := []) 0 (by rw [hFH]; rfl) hFD [] (by kernel_rfl) (by kernel_rfl) (by decide) (by kernel_rfl) (by kernel_rfl) (by kernel_rfl) (by kernel_rfl)) ?_
            exact PJ.cutN [8] (by kernel_rfl) (by kernel_rfl)
          · have h47 := condF hb45 h43
            refine RJ.seg 4 [8] (L2 := [(8, .bool false)]) (H2 := [.box [.bool x0.Neg_, lsv (encI .u8) 1 x0.D_, .int .i64 x0.E_]]) (by kernel_rfl) ?_
            refine RJ.end (by kernel_rfl) ?_
            obtain rfl := Option.some.inj h47
            refine PJ.wk (Wk.sel (L2 := [(8, .bool false)]) (H2 := []) 0 (by rw [hFH]; rfl) hFD [] (by kernel_rfl) (by kernel_rfl) (by decide) (by kernel_rfl) (by kernel_rfl) (by kernel_rfl) (by kernel_rfl)) ?_
            exact PJ.cutN [8] (by kernel_rfl) (by kernel_rfl)
        · have h44 := condF hb42 h41
          refine RJ.seg 8 [8] (L2 := [(8, .bool false)]) (H2 := [.box [.bool x0.Neg_, lsv (encI .u8) 1 x0.D_, .int .i64 x0.E_]]) (by kernel_rfl) ?_
          refine RJ.end (by kernel_rfl) ?_
          obtain rfl := Option.some.inj h44
          refine PJ.wk (Wk.sel (L2 := [(8, .bool false)]) (H2 := []) 0 (by rw [hFH]; rfl) hFD [] (by kernel_rfl) (by kernel_rfl) (by decide) (by kernel_rfl) (by kernel_rfl) (by kernel_rfl) (by kernel_rfl)) ?_
          exact PJ.cutN [8] (by kernel_rfl) (by kernel_rfl)
      · have h38 := condF hb36 h35
        refine RJ.seg 13 [8] (L2 := [(8, .bool false)]) (H2 := [.box [.bool x0.Neg_, lsv (encI .u8) 1 x0.D_, .int .i64 x0.E_]]) (by kernel_rfl) ?_
        refine RJ.end (by kernel_rfl) ?_
        obtain rfl := Option.some.inj h38
        refine PJ.wk (Wk.sel (L2 := [(8, .bool false)]) (H2 := []) 0 (by rw [hFH]; rfl) hFD [] (by kernel_rfl) (by kernel_rfl) (by decide) (by kernel_rfl) (by kernel_rfl) (by kernel_rfl) (by kernel_rfl)) ?_
        exact PJ.cutN [8] (by kernel_rfl) (by kernel_rfl)
    · have h32 := condF hb30 h29
      refine RJ.seg 17 [8] (L2 := [(8, .bool false)]) (H2 := [.box [.bool x0.Neg_, lsv (encI .u8) 1 x0.D_, .int .i64 x0.E_]]) (by kernel_rfl) ?_
      refine RJ.end (by kernel_rfl) ?_
      obtain rfl := Option.some.inj h32
      refine PJ.wk (Wk.sel (L2 := [(8, .bool false)]) (H2 := []) 0 (by rw [hFH]; rfl) hFD [] (by kernel_rfl) (by kernel_rfl) (by decide) (by kernel_rfl) (by kernel_rfl) (by kernel_rfl) (by kernel_rfl)) ?_
      exact PJ.cutN [8] (by kernel_rfl) (by kernel_rfl)
  · refine K.ret (by kernel_rfl) ?_
    obtain rfl := Option.some.inj h26
    exact K.ret0 (.inr rfl) hFn hFH hFD (by kernel_rfl) (by kernel_rfl) (by kernel_rfl)

def exergueref01_Row (x0 : List Int) (x1 : List Int) : Option (Bool) :=
  (bif (decide (¬ (x0.length : Int) = (x1.length : Int))) then (some false) else (Option.bind (loopN (fun (s51 : Int) => (bif (decide (s51 < (x0.length : Int))) then (bif inR s51 x0.length then (bif inR s51 x1.length then (bif (decide (¬ (nth x0 s51) = (nth x1 s51))) then (some (.inr (.inr false))) else (some (.inl (IntKind.wrap .i64 (s51 + 1))))) else none) else none) else (some (.inr (.inl ()))))) big 0) (joinX fun (s46 : Unit) => (some true))))
theorem exergueref01_Row_ok {x0 : List Int} {x1 : List Int} {r : Bool} (h : exergueref01_Row x0 x1 = some r) : SC Try.prog 33 [lsv (encI .u8) 1 x0, lsv (encI .u8) 1 x1] [] (.bool r) [] := by
  refine K.fn (fn := Try.f33) (by kernel_rfl) (by kernel_rfl) (by kernel_rfl) (by kernel_rfl) (by kernel_rfl) (fun F hFn hFH hFD => ?_)
  unfold exergueref01_Row at h
  refine K.seq (by kernel_rfl) ?_
  refine K.region (by kernel_rfl) ?_
  refine RJ.seg 1 [0, 1, 4] (L2 := [(0, lsv (encI .u8) 1 x0), (1, lsv (encI .u8) 1 x1), (4, .bool false)]) (H2 := []) (by kernel_rfl) ?_
  refine RJ.end (by kernel_rfl) ?_
  refine PJ.next ?_
  refine K.seq (by kernel_rfl) ?_
  refine K.seq (by kernel_rfl) ?_
  refine K.region (by kernel_rfl) ?_
  refine RJ.seg 5 [0, 1, 4, 10] (L2 := [(0, lsv (encI .u8) 1 x0), (1, lsv (encI .u8) 1 x1), (4, .bool false), (10, .bool ((decide (¬ (x0.length : Int) = (x1.length : Int)))))]) (H2 := []) (by kernel_rfl) ?_
  refine RJ.end (by kernel_rfl) ?_
  refine PJ.next ?_
  refine J.caseB 10 (b := (decide (¬ (x0.length : Int) = (x1.length : Int)))) (by kernel_rfl) (fun hb1 => ?_) (fun hb1 => ?_)
  · have h2 := condT hb1 h
    refine K.condT (by kernel_rfl) ?_
    refine K.seq (by kernel_rfl) ?_
    refine K.region (by kernel_rfl) ?_
    refine RJ.seg 1 [0, 1, 4] (L2 := [(0, lsv (encI .u8) 1 x0), (1, lsv (encI .u8) 1 x1), (4, .bool false)]) (H2 := []) (by kernel_rfl) ?_
    refine RJ.end (by kernel_rfl) ?_
    refine PJ.next ?_
    refine K.ret (by kernel_rfl) ?_
    refine PJ.passRet ?_
    obtain rfl := Option.some.inj h2
    exact K.ret0 (.inr rfl) hFn hFH hFD (by kernel_rfl) (by kernel_rfl) (by kernel_rfl)
  · have h3 := condF hb1 h
    refine K.condF (by kernel_rfl) ?_
    refine K.skip (by kernel_rfl) ?_
    refine PJ.next ?_
    obtain ⟨y47, hy48, h49⟩ := bindS h3
    refine K.cutX (by kernel_rfl) (fun (s46 : Unit) => ([(4, .bool false)], [])) y47 ?_ (fun s46 hs => ?_)
    · refine K.seq (by kernel_rfl) ?_
      refine K.region (by kernel_rfl) ?_
      refine RJ.seg 1 [0, 1, 4, 5] (L2 := [(0, lsv (encI .u8) 1 x0), (1, lsv (encI .u8) 1 x1), (4, .bool false), (5, .int .i64 0)]) (H2 := []) (by kernel_rfl) ?_
      refine RJ.end (by kernel_rfl) ?_
      refine PJ.next ?_
      refine K.block 0 (by kernel_rfl) ?_
      refine K.loop (by kernel_rfl) (fun (s51 : Int) => ([(0, lsv (encI .u8) 1 x0), (1, lsv (encI .u8) 1 x1), (4, .bool false), (5, .int .i64 s51)], [])) hy48 [0, 1, 4, 5] (by kernel_rfl) (by kernel_rfl) (fun s51 x79 hs78 => ?_)
      refine K.seq (by kernel_rfl) ?_
      refine K.seq (by kernel_rfl) ?_
      refine K.region (by kernel_rfl) ?_
      refine RJ.seg 4 [0, 1, 4, 5, 14] (L2 := [(0, lsv (encI .u8) 1 x0), (1, lsv (encI .u8) 1 x1), (4, .bool false), (5, .int .i64 s51), (14, .bool ((decide (s51 < (x0.length : Int)))))]) (H2 := []) (by kernel_rfl) ?_
      refine RJ.end (by kernel_rfl) ?_
      refine PJ.next ?_
      refine J.caseB 14 (b := (decide (s51 < (x0.length : Int)))) (by kernel_rfl) (fun hb80 => ?_) (fun hb80 => ?_)
      · have h81 := condT hb80 hs78
        refine K.condT (by kernel_rfl) ?_
        refine K.skip (by kernel_rfl) ?_
        refine PJ.next ?_
        refine K.seq (by kernel_rfl) ?_
        refine K.block 1 (by kernel_rfl) ?_
        refine K.seq (by kernel_rfl) ?_
        refine J.keep [0, 1, 4, 5] (L2 := [(0, lsv (encI .u8) 1 x0), (1, lsv (encI .u8) 1 x1), (4, .bool false), (5, .int .i64 s51)]) (by kernel_rfl) ?_
        refine K.draw (by kernel_rfl) (by kernel_rfl) (by kernel_rfl) (H2 := []) (by kernel_rfl) (n := 0) (by kernel_rfl) ?_
        refine RJ.segD 2 (tr2 := [([], []), ([], [])]) (L2 := [(18, .int .i64 s51), (17, lsv (encI .u8) 1 x0), (0, lsv (encI .u8) 1 x0), (1, lsv (encI .u8) 1 x1), (4, .bool false), (5, .int .i64 s51)]) (H2 := []) (by kernel_rfl) ?_
        obtain ⟨hm, h83⟩ := asrt h81
        refine RJ.rel (d := (some 19)) (ef := ⟨.ep (((x0.flatMap (encI .u8)).drop ((s51 : Int).toNat * 1)).take 1), [], []⟩) (ef' := ⟨.ep ((encI .u8) (nth x0 s51)), [], []⟩) (c := inR s51 x0.length) (tr2 := [([], []), ([], []), ([], [])]) (H2 := []) (by kernel_rfl) hm (fun hc => N.idx (encI_len .u8) hc) (by kernel_rfl) ?_
        refine RJ.segD 3 (tr2 := [([], []), ([], []), ([], []), ([], []), ([], []), ([], [])]) (L2 := [(22, .int .i64 s51), (21, lsv (encI .u8) 1 x1), (20, .int .u8 (nth x0 s51)), (19, .ep [.int .u8 (nth x0 s51)]), (18, .int .i64 s51), (17, lsv (encI .u8) 1 x0), (0, lsv (encI .u8) 1 x0), (1, lsv (encI .u8) 1 x1), (4, .bool false), (5, .int .i64 s51)]) (H2 := []) (by kernel_rfl) ?_
        obtain ⟨hm, h84⟩ := asrt h83
        refine RJ.rel (d := (some 23)) (ef := ⟨.ep (((x1.flatMap (encI .u8)).drop ((s51 : Int).toNat * 1)).take 1), [], []⟩) (ef' := ⟨.ep ((encI .u8) (nth x1 s51)), [], []⟩) (c := inR s51 x1.length) (tr2 := [([], []), ([], []), ([], []), ([], []), ([], []), ([], []), ([], [])]) (H2 := []) (by kernel_rfl) hm (fun hc => N.idx (encI_len .u8) hc) (by kernel_rfl) ?_
        refine RJ.segD 2 (tr2 := [([], []), ([], []), ([], []), ([], []), ([], []), ([], []), ([], []), ([], []), ([], [])]) (L2 := [(25, .bool ((decide (¬ (nth x0 s51) = (nth x1 s51))))), (24, .int .u8 (nth x1 s51)), (23, .ep [.int .u8 (nth x1 s51)]), (22, .int .i64 s51), (21, lsv (encI .u8) 1 x1), (20, .int .u8 (nth x0 s51)), (19, .ep [.int .u8 (nth x0 s51)]), (18, .int .i64 s51), (17, lsv (encI .u8) 1 x0), (0, lsv (encI .u8) 1 x0), (1, lsv (encI .u8) 1 x1), (4, .bool false), (5, .int .i64 s51)]) (H2 := []) (by kernel_rfl) ?_
        refine RJ.end (by kernel_rfl) ?_
        refine PJ.next ?_
        refine J.caseB 25 (b := (decide (¬ (nth x0 s51) = (nth x1 s51)))) (by kernel_rfl) (fun hb85 => ?_) (fun hb85 => ?_)
        · have h86 := condT hb85 h84
          refine K.condT (by kernel_rfl) ?_
          refine K.seq (by kernel_rfl) ?_
          refine K.region (by kernel_rfl) ?_
          refine RJ.seg 1 [0, 1, 4, 5] (L2 := [(0, lsv (encI .u8) 1 x0), (1, lsv (encI .u8) 1 x1), (4, .bool false), (5, .int .i64 s51)]) (H2 := []) (by kernel_rfl) ?_
          refine RJ.end (by kernel_rfl) ?_
          refine PJ.next ?_
          refine K.ret (by kernel_rfl) ?_
          refine PJ.blockRet ?_
          refine PJ.passRet ?_
          obtain rfl := Option.some.inj h86
          refine PJ.loopOut (fun e => nomatch e) (fun he90 => ?_)
          have h88 := congrArg some he90
          refine PJ.blockRet ?_
          obtain rfl := Option.some.inj h88
          have h89 := joinX_inr h49
          refine PJ.cutXr (fun e => nomatch e) ?_
          obtain rfl := Option.some.inj h89
          exact K.ret0 (.inr rfl) hFn hFH hFD (by kernel_rfl) (by kernel_rfl) (by kernel_rfl)
        · have h87 := condF hb85 h84
          refine K.condF (by kernel_rfl) ?_
          refine K.skip (by kernel_rfl) ?_
          refine PJ.blockNormal ?_
          refine PJ.next ?_
          refine K.region (by kernel_rfl) ?_
          refine RJ.seg 3 [0, 1, 4, 5] (L2 := [(0, lsv (encI .u8) 1 x0), (1, lsv (encI .u8) 1 x1), (4, .bool false), (5, .int .i64 (IntKind.wrap .i64 (s51 + 1)))]) (H2 := []) (by kernel_rfl) ?_
          refine RJ.end (by kernel_rfl) ?_
          obtain rfl := Option.some.inj h87
          exact PJ.loopNext [0, 1, 4, 5] (by kernel_rfl) (by kernel_rfl)
      · have h82 := condF hb80 hs78
        refine K.condF (by kernel_rfl) ?_
        refine K.exit 0 (by kernel_rfl) ?_
        refine PJ.passExit ?_
        obtain rfl := Option.some.inj h82
        refine PJ.loopOut (fun e => nomatch e) (fun he92 => ?_)
        have h91 := congrArg some he92
        refine PJ.blockOut ?_
        obtain rfl := Option.some.inj h91
        exact PJ.cutXl [4] (by kernel_rfl) (by kernel_rfl)
    · subst hs
      have h50 := joinX_inl h49
      refine K.seq (by kernel_rfl) ?_
      refine K.region (by kernel_rfl) ?_
      refine RJ.seg 1 [4] (L2 := [(4, .bool true)]) (H2 := []) (by kernel_rfl) ?_
      refine RJ.end (by kernel_rfl) ?_
      refine PJ.next ?_
      refine K.ret (by kernel_rfl) ?_
      obtain rfl := Option.some.inj h50
      exact K.ret0 (.inr rfl) hFn hFH hFD (by kernel_rfl) (by kernel_rfl) (by kernel_rfl)

def exergueref05_Same (x0 : St23) (x1 : St23) : Option (Bool) :=
  (Option.bind (exergueref01_Row x0.D_ x1.D_) fun y1 => (Option.bind (bif y1 then (bif (x0.Neg_ == x1.Neg_) then (some (decide (x0.E_ = x1.E_))) else (some false)) else (some false)) fun (s10 : Bool) => (some s10)))
theorem exergueref05_Same_ok {x0 : St23} {x1 : St23} {r : Bool} (h : exergueref05_Same x0 x1 = some r) : SC Try.prog 15 [.agg [.bool x0.Neg_, lsv (encI .u8) 1 x0.D_, .int .i64 x0.E_], .agg [.bool x1.Neg_, lsv (encI .u8) 1 x1.D_, .int .i64 x1.E_]] [] (.bool r) [] := by
  refine K.fn (fn := Try.f15) (by kernel_rfl) (by kernel_rfl) (by kernel_rfl) (by kernel_rfl) (by kernel_rfl) (fun F hFn hFH hFD => ?_)
  unfold exergueref05_Same at h
  refine K.seq (by kernel_rfl) ?_
  refine K.region (by kernel_rfl) ?_
  refine RJ.seg 3 [2, 3, 4] (L2 := [(2, .ptr 0 0), (3, .ptr 1 0), (4, .bool false)]) (H2 := [.box [.bool x0.Neg_, lsv (encI .u8) 1 x0.D_, .int .i64 x0.E_], .box [.bool x1.Neg_, lsv (encI .u8) 1 x1.D_, .int .i64 x1.E_]]) (by kernel_rfl) ?_
  refine RJ.end (by kernel_rfl) ?_
  refine PJ.next ?_
  refine K.seq (by kernel_rfl) ?_
  refine K.region (by kernel_rfl) ?_
  refine RJ.seg 4 [2, 3, 4, 7, 9] (L2 := [(2, .ptr 0 0), (3, .ptr 1 0), (4, .bool false), (7, lsv (encI .u8) 1 x0.D_), (9, lsv (encI .u8) 1 x1.D_)]) (H2 := [.box [.bool x0.Neg_, lsv (encI .u8) 1 x0.D_, .int .i64 x0.E_], .box [.bool x1.Neg_, lsv (encI .u8) 1 x1.D_, .int .i64 x1.E_]]) (by kernel_rfl) ?_
  obtain ⟨y1, hy2, h3⟩ := bindS h
  refine RJ.call0 (d := (some 10)) (f := 33) (args := [lsv (encI .u8) 1 x0.D_, lsv (encI .u8) 1 x1.D_]) (v := .bool y1) (tr2 := []) (by kernel_rfl) (by kernel_rfl) (.cons (Le.refl _) (.cons (Le.refl _) .nil)) (exergueref01_Row_ok hy2) (by kernel_rfl) ?_
  refine RJ.seg 1 [2, 3, 4, 5] (L2 := [(2, .ptr 0 0), (3, .ptr 1 0), (4, .bool false), (5, .bool y1)]) (H2 := [.box [.bool x0.Neg_, lsv (encI .u8) 1 x0.D_, .int .i64 x0.E_], .box [.bool x1.Neg_, lsv (encI .u8) 1 x1.D_, .int .i64 x1.E_]]) (by kernel_rfl) ?_
  refine RJ.end (by kernel_rfl) ?_
  refine PJ.next ?_
  obtain ⟨s10, hy12, h14⟩ := bindS h3
  refine K.cutN (by kernel_rfl) (fun (s10 : Bool) => ([(4, .bool s10)], [])) s10 ?_ ?_
  · refine K.region (by kernel_rfl) ?_
    refine RJ.seg 2 [2, 3, 4, 12] (L2 := [(2, .ptr 0 0), (3, .ptr 1 0), (4, .bool false), (12, .bool y1)]) (H2 := [.box [.bool x0.Neg_, lsv (encI .u8) 1 x0.D_, .int .i64 x0.E_], .box [.bool x1.Neg_, lsv (encI .u8) 1 x1.D_, .int .i64 x1.E_]]) (by kernel_rfl) ?_
    refine RJ.caseB 12 (b := y1) (by kernel_rfl) (fun hb15 => ?_) (fun hb15 => ?_)
    · have h16 := condT hb15 hy12
      refine RJ.seg 7 [2, 3, 4, 19] (L2 := [(2, .ptr 0 0), (3, .ptr 1 0), (4, .bool false), (19, .bool (x0.Neg_ == x1.Neg_))]) (H2 := [.box [.bool x0.Neg_, lsv (encI .u8) 1 x0.D_, .int .i64 x0.E_], .box [.bool x1.Neg_, lsv (encI .u8) 1 x1.D_, .int .i64 x1.E_]]) (by kernel_rfl) ?_
      refine RJ.caseB 19 (b := (x0.Neg_ == x1.Neg_)) (by kernel_rfl) (fun hb18 => ?_) (fun hb18 => ?_)
      · have h19 := condT hb18 h16
        refine RJ.seg 7 [4] (L2 := [(4, .bool (decide (x0.E_ = x1.E_)))]) (H2 := [.box [.bool x0.Neg_, lsv (encI .u8) 1 x0.D_, .int .i64 x0.E_], .box [.bool x1.Neg_, lsv (encI .u8) 1 x1.D_, .int .i64 x1.E_]]) (by kernel_rfl) ?_
        refine RJ.end (by kernel_rfl) ?_
        obtain rfl := Option.some.inj h19
        refine PJ.wk (Wk.sel (L2 := [(4, .bool (decide (x0.E_ = x1.E_)))]) (H2 := []) 0 (by rw [hFH]; rfl) hFD [] (by kernel_rfl) (by kernel_rfl) (by decide) (by kernel_rfl) (by kernel_rfl) (by kernel_rfl) (by kernel_rfl)) ?_
        exact PJ.cutN [4] (by kernel_rfl) (by kernel_rfl)
      · have h20 := condF hb18 h16
        refine RJ.seg 7 [4] (L2 := [(4, .bool false)]) (H2 := [.box [.bool x0.Neg_, lsv (encI .u8) 1 x0.D_, .int .i64 x0.E_], .box [.bool x1.Neg_, lsv (encI .u8) 1 x1.D_, .int .i64 x1.E_]]) (by kernel_rfl) ?_
        refine RJ.end (by kernel_rfl) ?_
        obtain rfl := Option.some.inj h20
        refine PJ.wk (Wk.sel (L2 := [(4, .bool false)]) (H2 := []) 0 (by rw [hFH]; rfl) hFD [] (by kernel_rfl) (by kernel_rfl) (by decide) (by kernel_rfl) (by kernel_rfl) (by kernel_rfl) (by kernel_rfl)) ?_
        exact PJ.cutN [4] (by kernel_rfl) (by kernel_rfl)
    · have h17 := condF hb15 hy12
      refine RJ.seg 14 [4] (L2 := [(4, .bool false)]) (H2 := [.box [.bool x0.Neg_, lsv (encI .u8) 1 x0.D_, .int .i64 x0.E_], .box [.bool x1.Neg_, lsv (encI .u8) 1 x1.D_, .int .i64 x1.E_]]) (by kernel_rfl) ?_
      refine RJ.end (by kernel_rfl) ?_
      obtain rfl := Option.some.inj h17
      refine PJ.wk (Wk.sel (L2 := [(4, .bool false)]) (H2 := []) 0 (by rw [hFH]; rfl) hFD [] (by kernel_rfl) (by kernel_rfl) (by decide) (by kernel_rfl) (by kernel_rfl) (by kernel_rfl) (by kernel_rfl)) ?_
      exact PJ.cutN [4] (by kernel_rfl) (by kernel_rfl)
  · refine K.ret (by kernel_rfl) ?_
    obtain rfl := Option.some.inj h14
    exact K.ret0 (.inr rfl) hFn hFH hFD (by kernel_rfl) (by kernel_rfl) (by kernel_rfl)

def exerguelaw06_RoundStays (x0 : St25) : Option (Bool) :=
  (Option.bind exerguelaw06_shown fun y1 => (Option.bind (Option.bind (Option.bind (exerguelaw06_near x0.D_ x0.K_ x0.Place_ x0.Mode_) fun y50 => (bif (!y50) then (some true) else (Option.bind (exergueref06_Is x0.Other_) fun y56 => (some (!y56))))) fun (s45 : Bool) => (bif s45 then (some (.inr y1)) else (some (.inl ())))) (joinX fun (s31 : Unit) => (Option.bind (round_Inc x0.D_ x0.K_ x0.Place_ x0.Mode_) fun y63 => (Option.bind (round_Inc y63.1 x0.K_ x0.Place_ x0.Other_) fun y66 => (Option.bind (bif y1 then (bif (decide (y63.2 = 0)) then (bif (decide (y66.2 = 0)) then (Option.bind (exergueref05_Right y63.1) fun y122 => (bif y122 then (Option.bind (round_Fits y63.1 x0.K_ x0.Place_) fun y128 => (bif y128 then (bif (y63.1.Neg_ == x0.D_.Neg_) then (Option.bind (exergueref05_Same y63.1 y66.1) fun y137 => (bif y137 then (Option.bind (round_Fits x0.D_ x0.K_ x0.Place_) fun y143 => (bif (!y143) then (some true) else (Option.bind (exergueref05_Same y63.1 x0.D_) fun y149 => (some y149)))) else (some false))) else (some false)) else (some false))) else (some false))) else (some false)) else (some false)) else (some false)) fun (s108 : Bool) => (some s108)))))))
theorem exerguelaw06_RoundStays_ok {x0 : St25} {r : Bool} (h : exerguelaw06_RoundStays x0 = some r) : SC Try.prog 3 [.agg [.bool x0.D_.Neg_, lsv (encI .u8) 1 x0.D_.D_, .int .i64 x0.D_.E_, .int .i64 x0.K_, .int .i64 x0.Place_, .int .i64 x0.Mode_, .int .i64 x0.Other_]] [] (.bool r) [] := by
  refine K.fn (fn := Try.f3) (by kernel_rfl) (by kernel_rfl) (by kernel_rfl) (by kernel_rfl) (by kernel_rfl) (fun F hFn hFH hFD => ?_)
  unfold exerguelaw06_RoundStays at h
  refine K.seq (by kernel_rfl) ?_
  refine K.region (by kernel_rfl) ?_
  refine RJ.seg 2 [1, 2] (L2 := [(1, .ptr 0 0), (2, .bool false)]) (H2 := [.box [.bool x0.D_.Neg_, lsv (encI .u8) 1 x0.D_.D_, .int .i64 x0.D_.E_, .int .i64 x0.K_, .int .i64 x0.Place_, .int .i64 x0.Mode_, .int .i64 x0.Other_]]) (by kernel_rfl) ?_
  refine RJ.end (by kernel_rfl) ?_
  refine PJ.next ?_
  refine K.seq (by kernel_rfl) ?_
  refine K.region (by kernel_rfl) ?_
  refine RJ.seg 4 [1, 2, 3] (L2 := [(1, .ptr 0 0), (2, .bool false), (3, .ptr 1 0)]) (H2 := [.box [.bool x0.D_.Neg_, lsv (encI .u8) 1 x0.D_.D_, .int .i64 x0.D_.E_, .int .i64 x0.K_, .int .i64 x0.Place_, .int .i64 x0.Mode_, .int .i64 x0.Other_], .box [.bool x0.D_.Neg_, lsv (encI .u8) 1 x0.D_.D_, .int .i64 x0.D_.E_]]) (by kernel_rfl) ?_
  refine RJ.end (by kernel_rfl) ?_
  refine PJ.next ?_
  refine K.seq (by kernel_rfl) ?_
  refine K.region (by kernel_rfl) ?_
  refine RJ.seg 3 [1, 2, 3, 4] (L2 := [(1, .ptr 0 0), (2, .bool false), (3, .ptr 1 0), (4, .int .i64 x0.K_)]) (H2 := [.box [.bool x0.D_.Neg_, lsv (encI .u8) 1 x0.D_.D_, .int .i64 x0.D_.E_, .int .i64 x0.K_, .int .i64 x0.Place_, .int .i64 x0.Mode_, .int .i64 x0.Other_], .box [.bool x0.D_.Neg_, lsv (encI .u8) 1 x0.D_.D_, .int .i64 x0.D_.E_]]) (by kernel_rfl) ?_
  refine RJ.end (by kernel_rfl) ?_
  refine PJ.next ?_
  refine K.seq (by kernel_rfl) ?_
  refine K.region (by kernel_rfl) ?_
  refine RJ.seg 3 [1, 2, 3, 4, 5] (L2 := [(1, .ptr 0 0), (2, .bool false), (3, .ptr 1 0), (4, .int .i64 x0.K_), (5, .int .i64 x0.Place_)]) (H2 := [.box [.bool x0.D_.Neg_, lsv (encI .u8) 1 x0.D_.D_, .int .i64 x0.D_.E_, .int .i64 x0.K_, .int .i64 x0.Place_, .int .i64 x0.Mode_, .int .i64 x0.Other_], .box [.bool x0.D_.Neg_, lsv (encI .u8) 1 x0.D_.D_, .int .i64 x0.D_.E_]]) (by kernel_rfl) ?_
  refine RJ.end (by kernel_rfl) ?_
  refine PJ.next ?_
  refine K.seq (by kernel_rfl) ?_
  refine K.region (by kernel_rfl) ?_
  refine RJ.seg 3 [1, 2, 3, 4, 5, 6] (L2 := [(1, .ptr 0 0), (2, .bool false), (3, .ptr 1 0), (4, .int .i64 x0.K_), (5, .int .i64 x0.Place_), (6, .int .i64 x0.Mode_)]) (H2 := [.box [.bool x0.D_.Neg_, lsv (encI .u8) 1 x0.D_.D_, .int .i64 x0.D_.E_, .int .i64 x0.K_, .int .i64 x0.Place_, .int .i64 x0.Mode_, .int .i64 x0.Other_], .box [.bool x0.D_.Neg_, lsv (encI .u8) 1 x0.D_.D_, .int .i64 x0.D_.E_]]) (by kernel_rfl) ?_
  refine RJ.end (by kernel_rfl) ?_
  refine PJ.next ?_
  refine K.seq (by kernel_rfl) ?_
  refine K.region (by kernel_rfl) ?_
  refine RJ.seg 3 [2, 3, 4, 5, 6, 7] (L2 := [(2, .bool false), (3, .ptr 1 0), (4, .int .i64 x0.K_), (5, .int .i64 x0.Place_), (6, .int .i64 x0.Mode_), (7, .int .i64 x0.Other_)]) (H2 := [.box [.bool x0.D_.Neg_, lsv (encI .u8) 1 x0.D_.D_, .int .i64 x0.D_.E_, .int .i64 x0.K_, .int .i64 x0.Place_, .int .i64 x0.Mode_, .int .i64 x0.Other_], .box [.bool x0.D_.Neg_, lsv (encI .u8) 1 x0.D_.D_, .int .i64 x0.D_.E_]]) (by kernel_rfl) ?_
  refine RJ.end (by kernel_rfl) ?_
  refine PJ.next ?_
  refine K.seq (by kernel_rfl) ?_
  refine K.region (by kernel_rfl) ?_
  obtain ⟨y1, hy2, h3⟩ := bindS h
  refine RJ.call0 (d := (some 23)) (f := 9) (args := []) (v := .bool y1) (tr2 := []) (by kernel_rfl) (by kernel_rfl) .nil (exerguelaw06_shown_ok hy2) (by kernel_rfl) ?_
  refine RJ.seg 1 [2, 3, 4, 5, 6, 7, 8] (L2 := [(2, .bool false), (3, .ptr 1 0), (4, .int .i64 x0.K_), (5, .int .i64 x0.Place_), (6, .int .i64 x0.Mode_), (7, .int .i64 x0.Other_), (8, .bool y1)]) (H2 := [.box [.bool x0.D_.Neg_, lsv (encI .u8) 1 x0.D_.D_, .int .i64 x0.D_.E_, .int .i64 x0.K_, .int .i64 x0.Place_, .int .i64 x0.Mode_, .int .i64 x0.Other_], .box [.bool x0.D_.Neg_, lsv (encI .u8) 1 x0.D_.D_, .int .i64 x0.D_.E_]]) (by kernel_rfl) ?_
  refine RJ.end (by kernel_rfl) ?_
  refine PJ.next ?_
  obtain ⟨y32, hy33, h34⟩ := bindS h3
  refine K.cutX (by kernel_rfl) (fun (s31 : Unit) => ([(2, .bool false), (3, .ptr 0 0), (4, .int .i64 x0.K_), (5, .int .i64 x0.Place_), (6, .int .i64 x0.Mode_), (7, .int .i64 x0.Other_), (8, .bool y1)], [.box [.bool x0.D_.Neg_, lsv (encI .u8) 1 x0.D_.D_, .int .i64 x0.D_.E_]])) y32 ?_ (fun s31 hs => ?_)
  · obtain ⟨s45, hy47, h49⟩ := bindS hy33
    refine K.cutN (by kernel_rfl) (fun (s45 : Bool) => ([(2, .bool false), (3, .ptr 0 0), (4, .int .i64 x0.K_), (5, .int .i64 x0.Place_), (6, .int .i64 x0.Mode_), (7, .int .i64 x0.Other_), (8, .bool y1), (34, .bool s45)], [.box [.bool x0.D_.Neg_, lsv (encI .u8) 1 x0.D_.D_, .int .i64 x0.D_.E_]])) s45 ?_ ?_
    · refine K.region (by kernel_rfl) ?_
      refine RJ.seg 4 [2, 3, 4, 5, 6, 7, 8, 24, 25, 26, 27] (L2 := [(2, .bool false), (3, .ptr 1 0), (4, .int .i64 x0.K_), (5, .int .i64 x0.Place_), (6, .int .i64 x0.Mode_), (7, .int .i64 x0.Other_), (8, .bool y1), (24, .agg [.bool x0.D_.Neg_, lsv (encI .u8) 1 x0.D_.D_, .int .i64 x0.D_.E_]), (25, .int .i64 x0.K_), (26, .int .i64 x0.Place_), (27, .int .i64 x0.Mode_)]) (H2 := [.box [.bool x0.D_.Neg_, lsv (encI .u8) 1 x0.D_.D_, .int .i64 x0.D_.E_, .int .i64 x0.K_, .int .i64 x0.Place_, .int .i64 x0.Mode_, .int .i64 x0.Other_], .box [.bool x0.D_.Neg_, lsv (encI .u8) 1 x0.D_.D_, .int .i64 x0.D_.E_]]) (by kernel_rfl) ?_
      obtain ⟨y50, hy51, h52⟩ := bindS hy47
      refine RJ.call0 (d := (some 28)) (f := 10) (args := [.agg [.bool x0.D_.Neg_, lsv (encI .u8) 1 x0.D_.D_, .int .i64 x0.D_.E_], .int .i64 x0.K_, .int .i64 x0.Place_, .int .i64 x0.Mode_]) (v := .bool y50) (tr2 := []) (by kernel_rfl) (by kernel_rfl) (.cons (Le.refl _) (.cons (Le.refl _) (.cons (Le.refl _) (.cons (Le.refl _) .nil)))) (exerguelaw06_near_ok hy51) (by kernel_rfl) ?_
      refine RJ.seg 2 [2, 3, 4, 5, 6, 7, 8, 30] (L2 := [(2, .bool false), (3, .ptr 1 0), (4, .int .i64 x0.K_), (5, .int .i64 x0.Place_), (6, .int .i64 x0.Mode_), (7, .int .i64 x0.Other_), (8, .bool y1), (30, .bool (!y50))]) (H2 := [.box [.bool x0.D_.Neg_, lsv (encI .u8) 1 x0.D_.D_, .int .i64 x0.D_.E_, .int .i64 x0.K_, .int .i64 x0.Place_, .int .i64 x0.Mode_, .int .i64 x0.Other_], .box [.bool x0.D_.Neg_, lsv (encI .u8) 1 x0.D_.D_, .int .i64 x0.D_.E_]]) (by kernel_rfl) ?_
      refine RJ.caseB 30 (b := (!y50)) (by kernel_rfl) (fun hb53 => ?_) (fun hb53 => ?_)
      · have h54 := condT hb53 h52
        refine RJ.seg 4 [2, 3, 4, 5, 6, 7, 8, 34] (L2 := [(2, .bool false), (3, .ptr 1 0), (4, .int .i64 x0.K_), (5, .int .i64 x0.Place_), (6, .int .i64 x0.Mode_), (7, .int .i64 x0.Other_), (8, .bool y1), (34, .bool true)]) (H2 := [.box [.bool x0.D_.Neg_, lsv (encI .u8) 1 x0.D_.D_, .int .i64 x0.D_.E_, .int .i64 x0.K_, .int .i64 x0.Place_, .int .i64 x0.Mode_, .int .i64 x0.Other_], .box [.bool x0.D_.Neg_, lsv (encI .u8) 1 x0.D_.D_, .int .i64 x0.D_.E_]]) (by kernel_rfl) ?_
        refine RJ.end (by kernel_rfl) ?_
        obtain rfl := Option.some.inj h54
        refine PJ.wk (Wk.sel (L2 := [(2, .bool false), (3, .ptr 0 0), (4, .int .i64 x0.K_), (5, .int .i64 x0.Place_), (6, .int .i64 x0.Mode_), (7, .int .i64 x0.Other_), (8, .bool y1), (34, .bool true)]) (H2 := [.box [.bool x0.D_.Neg_, lsv (encI .u8) 1 x0.D_.D_, .int .i64 x0.D_.E_]]) 0 (by rw [hFH]; rfl) hFD [1] (by kernel_rfl) (by kernel_rfl) (by decide) (by kernel_rfl) (by kernel_rfl) (by kernel_rfl) (by kernel_rfl)) ?_
        exact PJ.cutN [2, 3, 4, 5, 6, 7, 8, 34] (by kernel_rfl) (by kernel_rfl)
      · have h55 := condF hb53 h52
        refine RJ.seg 1 [2, 3, 4, 5, 6, 7, 8, 30, 31] (L2 := [(2, .bool false), (3, .ptr 1 0), (4, .int .i64 x0.K_), (5, .int .i64 x0.Place_), (6, .int .i64 x0.Mode_), (7, .int .i64 x0.Other_), (8, .bool y1), (30, .bool false), (31, .int .i64 x0.Other_)]) (H2 := [.box [.bool x0.D_.Neg_, lsv (encI .u8) 1 x0.D_.D_, .int .i64 x0.D_.E_, .int .i64 x0.K_, .int .i64 x0.Place_, .int .i64 x0.Mode_, .int .i64 x0.Other_], .box [.bool x0.D_.Neg_, lsv (encI .u8) 1 x0.D_.D_, .int .i64 x0.D_.E_]]) (by kernel_rfl) ?_
        obtain ⟨y56, hy57, h58⟩ := bindS h55
        refine RJ.call0 (d := (some 32)) (f := 11) (args := [.int .i64 x0.Other_]) (v := .bool y56) (tr2 := []) (by kernel_rfl) (by kernel_rfl) (.cons (Le.refl _) .nil) (exergueref06_Is_ok hy57) (by kernel_rfl) ?_
        refine RJ.seg 2 [2, 3, 4, 5, 6, 7, 8, 34] (L2 := [(2, .bool false), (3, .ptr 1 0), (4, .int .i64 x0.K_), (5, .int .i64 x0.Place_), (6, .int .i64 x0.Mode_), (7, .int .i64 x0.Other_), (8, .bool y1), (34, .bool (!y56))]) (H2 := [.box [.bool x0.D_.Neg_, lsv (encI .u8) 1 x0.D_.D_, .int .i64 x0.D_.E_, .int .i64 x0.K_, .int .i64 x0.Place_, .int .i64 x0.Mode_, .int .i64 x0.Other_], .box [.bool x0.D_.Neg_, lsv (encI .u8) 1 x0.D_.D_, .int .i64 x0.D_.E_]]) (by kernel_rfl) ?_
        refine RJ.end (by kernel_rfl) ?_
        obtain rfl := Option.some.inj h58
        refine PJ.wk (Wk.sel (L2 := [(2, .bool false), (3, .ptr 0 0), (4, .int .i64 x0.K_), (5, .int .i64 x0.Place_), (6, .int .i64 x0.Mode_), (7, .int .i64 x0.Other_), (8, .bool y1), (34, .bool (!y56))]) (H2 := [.box [.bool x0.D_.Neg_, lsv (encI .u8) 1 x0.D_.D_, .int .i64 x0.D_.E_]]) 0 (by rw [hFH]; rfl) hFD [1] (by kernel_rfl) (by kernel_rfl) (by decide) (by kernel_rfl) (by kernel_rfl) (by kernel_rfl) (by kernel_rfl)) ?_
        exact PJ.cutN [2, 3, 4, 5, 6, 7, 8, 34] (by kernel_rfl) (by kernel_rfl)
    · refine J.caseB 34 (b := s45) (by kernel_rfl) (fun hb59 => ?_) (fun hb59 => ?_)
      · have h60 := condT hb59 h49
        refine K.condT (by kernel_rfl) ?_
        refine K.seq (by kernel_rfl) ?_
        refine K.region (by kernel_rfl) ?_
        refine RJ.seg 2 [2, 3, 4, 5, 6, 7, 8] (L2 := [(2, .bool y1), (3, .ptr 0 0), (4, .int .i64 x0.K_), (5, .int .i64 x0.Place_), (6, .int .i64 x0.Mode_), (7, .int .i64 x0.Other_), (8, .bool y1)]) (H2 := [.box [.bool x0.D_.Neg_, lsv (encI .u8) 1 x0.D_.D_, .int .i64 x0.D_.E_]]) (by kernel_rfl) ?_
        refine RJ.end (by kernel_rfl) ?_
        refine PJ.next ?_
        refine K.ret (by kernel_rfl) ?_
        obtain rfl := Option.some.inj h60
        have h62 := joinX_inr h34
        refine PJ.cutXr (fun e => nomatch e) ?_
        obtain rfl := Option.some.inj h62
        exact K.ret0 (.inr rfl) hFn hFH hFD (by kernel_rfl) (by kernel_rfl) (by kernel_rfl)
      · have h61 := condF hb59 h49
        refine K.condF (by kernel_rfl) ?_
        refine K.skip (by kernel_rfl) ?_
        obtain rfl := Option.some.inj h61
        exact PJ.cutXl [2, 3, 4, 5, 6, 7, 8] (by kernel_rfl) (by kernel_rfl)
  · subst hs
    have h35 := joinX_inl h34
    refine K.seq (by kernel_rfl) ?_
    refine K.region (by kernel_rfl) ?_
    refine RJ.seg 4 [2, 3, 4, 5, 7, 8, 37, 38, 39, 40] (L2 := [(2, .bool false), (3, .ptr 0 0), (4, .int .i64 x0.K_), (5, .int .i64 x0.Place_), (7, .int .i64 x0.Other_), (8, .bool y1), (37, .agg [.bool x0.D_.Neg_, lsv (encI .u8) 1 x0.D_.D_, .int .i64 x0.D_.E_]), (38, .int .i64 x0.K_), (39, .int .i64 x0.Place_), (40, .int .i64 x0.Mode_)]) (H2 := [.box [.bool x0.D_.Neg_, lsv (encI .u8) 1 x0.D_.D_, .int .i64 x0.D_.E_]]) (by kernel_rfl) ?_
    obtain ⟨y63, hy64, h65⟩ := bindS h35
    refine RJ.call0 (d := (some 41)) (f := 12) (args := [.agg [.bool x0.D_.Neg_, lsv (encI .u8) 1 x0.D_.D_, .int .i64 x0.D_.E_], .int .i64 x0.K_, .int .i64 x0.Place_, .int .i64 x0.Mode_]) (v := .tup [.agg [.bool y63.1.Neg_, lsv (encI .u8) 1 y63.1.D_, .int .i64 y63.1.E_], .int .i64 y63.2]) (tr2 := []) (by kernel_rfl) (by kernel_rfl) (.cons (Le.refl _) (.cons (Le.refl _) (.cons (Le.refl _) (.cons (Le.refl _) .nil)))) (round_Inc_ok hy64) (by kernel_rfl) ?_
    refine RJ.seg 6 [2, 3, 4, 5, 7, 8, 9, 10] (L2 := [(2, .bool false), (3, .ptr 0 0), (4, .int .i64 x0.K_), (5, .int .i64 x0.Place_), (7, .int .i64 x0.Other_), (8, .bool y1), (9, .ptr 1 0), (10, .int .i64 y63.2)]) (H2 := [.box [.bool x0.D_.Neg_, lsv (encI .u8) 1 x0.D_.D_, .int .i64 x0.D_.E_], .box [.bool y63.1.Neg_, lsv (encI .u8) 1 y63.1.D_, .int .i64 y63.1.E_]]) (by kernel_rfl) ?_
    refine RJ.end (by kernel_rfl) ?_
    refine PJ.next ?_
    refine K.seq (by kernel_rfl) ?_
    refine K.region (by kernel_rfl) ?_
    refine RJ.seg 4 [2, 3, 4, 5, 8, 9, 10, 45, 46, 47, 48] (L2 := [(2, .bool false), (3, .ptr 0 0), (4, .int .i64 x0.K_), (5, .int .i64 x0.Place_), (8, .bool y1), (9, .ptr 1 0), (10, .int .i64 y63.2), (45, .agg [.bool y63.1.Neg_, lsv (encI .u8) 1 y63.1.D_, .int .i64 y63.1.E_]), (46, .int .i64 x0.K_), (47, .int .i64 x0.Place_), (48, .int .i64 x0.Other_)]) (H2 := [.box [.bool x0.D_.Neg_, lsv (encI .u8) 1 x0.D_.D_, .int .i64 x0.D_.E_], .box [.bool y63.1.Neg_, lsv (encI .u8) 1 y63.1.D_, .int .i64 y63.1.E_]]) (by kernel_rfl) ?_
    obtain ⟨y66, hy67, h68⟩ := bindS h65
    refine RJ.call0 (d := (some 49)) (f := 12) (args := [.agg [.bool y63.1.Neg_, lsv (encI .u8) 1 y63.1.D_, .int .i64 y63.1.E_], .int .i64 x0.K_, .int .i64 x0.Place_, .int .i64 x0.Other_]) (v := .tup [.agg [.bool y66.1.Neg_, lsv (encI .u8) 1 y66.1.D_, .int .i64 y66.1.E_], .int .i64 y66.2]) (tr2 := []) (by kernel_rfl) (by kernel_rfl) (.cons (Le.refl _) (.cons (Le.refl _) (.cons (Le.refl _) (.cons (Le.refl _) .nil)))) (round_Inc_ok hy67) (by kernel_rfl) ?_
    refine RJ.seg 6 [2, 3, 4, 5, 8, 9, 10, 11, 12] (L2 := [(2, .bool false), (3, .ptr 0 0), (4, .int .i64 x0.K_), (5, .int .i64 x0.Place_), (8, .bool y1), (9, .ptr 1 0), (10, .int .i64 y63.2), (11, .ptr 2 0), (12, .int .i64 y66.2)]) (H2 := [.box [.bool x0.D_.Neg_, lsv (encI .u8) 1 x0.D_.D_, .int .i64 x0.D_.E_], .box [.bool y63.1.Neg_, lsv (encI .u8) 1 y63.1.D_, .int .i64 y63.1.E_], .box [.bool y66.1.Neg_, lsv (encI .u8) 1 y66.1.D_, .int .i64 y66.1.E_]]) (by kernel_rfl) ?_
    refine RJ.end (by kernel_rfl) ?_
    refine PJ.next ?_
    obtain ⟨s108, hy110, h112⟩ := bindS h68
    refine K.cutN (by kernel_rfl) (fun (s108 : Bool) => ([(2, .bool s108)], [])) s108 ?_ ?_
    · refine K.region (by kernel_rfl) ?_
      refine RJ.seg 2 [2, 3, 4, 5, 9, 10, 11, 12, 53] (L2 := [(2, .bool false), (3, .ptr 0 0), (4, .int .i64 x0.K_), (5, .int .i64 x0.Place_), (9, .ptr 1 0), (10, .int .i64 y63.2), (11, .ptr 2 0), (12, .int .i64 y66.2), (53, .bool y1)]) (H2 := [.box [.bool x0.D_.Neg_, lsv (encI .u8) 1 x0.D_.D_, .int .i64 x0.D_.E_], .box [.bool y63.1.Neg_, lsv (encI .u8) 1 y63.1.D_, .int .i64 y63.1.E_], .box [.bool y66.1.Neg_, lsv (encI .u8) 1 y66.1.D_, .int .i64 y66.1.E_]]) (by kernel_rfl) ?_
      refine RJ.caseB 53 (b := y1) (by kernel_rfl) (fun hb113 => ?_) (fun hb113 => ?_)
      · have h114 := condT hb113 hy110
        refine RJ.seg 4 [2, 3, 4, 5, 9, 11, 12, 57] (L2 := [(2, .bool false), (3, .ptr 0 0), (4, .int .i64 x0.K_), (5, .int .i64 x0.Place_), (9, .ptr 1 0), (11, .ptr 2 0), (12, .int .i64 y66.2), (57, .bool (decide (y63.2 = 0)))]) (H2 := [.box [.bool x0.D_.Neg_, lsv (encI .u8) 1 x0.D_.D_, .int .i64 x0.D_.E_], .box [.bool y63.1.Neg_, lsv (encI .u8) 1 y63.1.D_, .int .i64 y63.1.E_], .box [.bool y66.1.Neg_, lsv (encI .u8) 1 y66.1.D_, .int .i64 y66.1.E_]]) (by kernel_rfl) ?_
        refine RJ.caseB 57 (b := (decide (y63.2 = 0))) (by kernel_rfl) (fun hb116 => ?_) (fun hb116 => ?_)
        · have h117 := condT hb116 h114
          refine RJ.seg 4 [2, 3, 4, 5, 9, 11, 61] (L2 := [(2, .bool false), (3, .ptr 0 0), (4, .int .i64 x0.K_), (5, .int .i64 x0.Place_), (9, .ptr 1 0), (11, .ptr 2 0), (61, .bool (decide (y66.2 = 0)))]) (H2 := [.box [.bool x0.D_.Neg_, lsv (encI .u8) 1 x0.D_.D_, .int .i64 x0.D_.E_], .box [.bool y63.1.Neg_, lsv (encI .u8) 1 y63.1.D_, .int .i64 y63.1.E_], .box [.bool y66.1.Neg_, lsv (encI .u8) 1 y66.1.D_, .int .i64 y66.1.E_]]) (by kernel_rfl) ?_
          refine RJ.caseB 61 (b := (decide (y66.2 = 0))) (by kernel_rfl) (fun hb119 => ?_) (fun hb119 => ?_)
          · have h120 := condT hb119 h117
            refine RJ.seg 1 [2, 3, 4, 5, 9, 11, 61, 62] (L2 := [(2, .bool false), (3, .ptr 0 0), (4, .int .i64 x0.K_), (5, .int .i64 x0.Place_), (9, .ptr 1 0), (11, .ptr 2 0), (61, .bool true), (62, .agg [.bool y63.1.Neg_, lsv (encI .u8) 1 y63.1.D_, .int .i64 y63.1.E_])]) (H2 := [.box [.bool x0.D_.Neg_, lsv (encI .u8) 1 x0.D_.D_, .int .i64 x0.D_.E_], .box [.bool y63.1.Neg_, lsv (encI .u8) 1 y63.1.D_, .int .i64 y63.1.E_], .box [.bool y66.1.Neg_, lsv (encI .u8) 1 y66.1.D_, .int .i64 y66.1.E_]]) (by kernel_rfl) ?_
            obtain ⟨y122, hy123, h124⟩ := bindS h120
            refine RJ.call0 (d := (some 63)) (f := 13) (args := [.agg [.bool y63.1.Neg_, lsv (encI .u8) 1 y63.1.D_, .int .i64 y63.1.E_]]) (v := .bool y122) (tr2 := []) (by kernel_rfl) (by kernel_rfl) (.cons (Le.refl _) .nil) (exergueref05_Right_ok hy123) (by kernel_rfl) ?_
            refine RJ.seg 2 [2, 3, 4, 5, 9, 11, 65] (L2 := [(2, .bool false), (3, .ptr 0 0), (4, .int .i64 x0.K_), (5, .int .i64 x0.Place_), (9, .ptr 1 0), (11, .ptr 2 0), (65, .bool y122)]) (H2 := [.box [.bool x0.D_.Neg_, lsv (encI .u8) 1 x0.D_.D_, .int .i64 x0.D_.E_], .box [.bool y63.1.Neg_, lsv (encI .u8) 1 y63.1.D_, .int .i64 y63.1.E_], .box [.bool y66.1.Neg_, lsv (encI .u8) 1 y66.1.D_, .int .i64 y66.1.E_]]) (by kernel_rfl) ?_
            refine RJ.caseB 65 (b := y122) (by kernel_rfl) (fun hb125 => ?_) (fun hb125 => ?_)
            · have h126 := condT hb125 h124
              refine RJ.seg 3 [2, 3, 4, 5, 9, 11, 65, 66, 67, 68] (L2 := [(2, .bool false), (3, .ptr 0 0), (4, .int .i64 x0.K_), (5, .int .i64 x0.Place_), (9, .ptr 1 0), (11, .ptr 2 0), (65, .bool true), (66, .agg [.bool y63.1.Neg_, lsv (encI .u8) 1 y63.1.D_, .int .i64 y63.1.E_]), (67, .int .i64 x0.K_), (68, .int .i64 x0.Place_)]) (H2 := [.box [.bool x0.D_.Neg_, lsv (encI .u8) 1 x0.D_.D_, .int .i64 x0.D_.E_], .box [.bool y63.1.Neg_, lsv (encI .u8) 1 y63.1.D_, .int .i64 y63.1.E_], .box [.bool y66.1.Neg_, lsv (encI .u8) 1 y66.1.D_, .int .i64 y66.1.E_]]) (by kernel_rfl) ?_
              obtain ⟨y128, hy129, h130⟩ := bindS h126
              refine RJ.call0 (d := (some 69)) (f := 14) (args := [.agg [.bool y63.1.Neg_, lsv (encI .u8) 1 y63.1.D_, .int .i64 y63.1.E_], .int .i64 x0.K_, .int .i64 x0.Place_]) (v := .bool y128) (tr2 := []) (by kernel_rfl) (by kernel_rfl) (.cons (Le.refl _) (.cons (Le.refl _) (.cons (Le.refl _) .nil))) (round_Fits_ok hy129) (by kernel_rfl) ?_
              refine RJ.seg 2 [2, 3, 4, 5, 9, 11, 71] (L2 := [(2, .bool false), (3, .ptr 0 0), (4, .int .i64 x0.K_), (5, .int .i64 x0.Place_), (9, .ptr 1 0), (11, .ptr 2 0), (71, .bool y128)]) (H2 := [.box [.bool x0.D_.Neg_, lsv (encI .u8) 1 x0.D_.D_, .int .i64 x0.D_.E_], .box [.bool y63.1.Neg_, lsv (encI .u8) 1 y63.1.D_, .int .i64 y63.1.E_], .box [.bool y66.1.Neg_, lsv (encI .u8) 1 y66.1.D_, .int .i64 y66.1.E_]]) (by kernel_rfl) ?_
              refine RJ.caseB 71 (b := y128) (by kernel_rfl) (fun hb131 => ?_) (fun hb131 => ?_)
              · have h132 := condT hb131 h130
                refine RJ.seg 7 [2, 3, 4, 5, 9, 11, 78] (L2 := [(2, .bool false), (3, .ptr 0 0), (4, .int .i64 x0.K_), (5, .int .i64 x0.Place_), (9, .ptr 1 0), (11, .ptr 2 0), (78, .bool (y63.1.Neg_ == x0.D_.Neg_))]) (H2 := [.box [.bool x0.D_.Neg_, lsv (encI .u8) 1 x0.D_.D_, .int .i64 x0.D_.E_], .box [.bool y63.1.Neg_, lsv (encI .u8) 1 y63.1.D_, .int .i64 y63.1.E_], .box [.bool y66.1.Neg_, lsv (encI .u8) 1 y66.1.D_, .int .i64 y66.1.E_]]) (by kernel_rfl) ?_
                refine RJ.caseB 78 (b := (y63.1.Neg_ == x0.D_.Neg_)) (by kernel_rfl) (fun hb134 => ?_) (fun hb134 => ?_)
                · have h135 := condT hb134 h132
                  refine RJ.seg 2 [2, 3, 4, 5, 9, 78, 79, 80] (L2 := [(2, .bool false), (3, .ptr 0 0), (4, .int .i64 x0.K_), (5, .int .i64 x0.Place_), (9, .ptr 1 0), (78, .bool true), (79, .agg [.bool y63.1.Neg_, lsv (encI .u8) 1 y63.1.D_, .int .i64 y63.1.E_]), (80, .agg [.bool y66.1.Neg_, lsv (encI .u8) 1 y66.1.D_, .int .i64 y66.1.E_])]) (H2 := [.box [.bool x0.D_.Neg_, lsv (encI .u8) 1 x0.D_.D_, .int .i64 x0.D_.E_], .box [.bool y63.1.Neg_, lsv (encI .u8) 1 y63.1.D_, .int .i64 y63.1.E_], .box [.bool y66.1.Neg_, lsv (encI .u8) 1 y66.1.D_, .int .i64 y66.1.E_]]) (by kernel_rfl) ?_
                  obtain ⟨y137, hy138, h139⟩ := bindS h135
                  refine RJ.call0 (d := (some 81)) (f := 15) (args := [.agg [.bool y63.1.Neg_, lsv (encI .u8) 1 y63.1.D_, .int .i64 y63.1.E_], .agg [.bool y66.1.Neg_, lsv (encI .u8) 1 y66.1.D_, .int .i64 y66.1.E_]]) (v := .bool y137) (tr2 := []) (by kernel_rfl) (by kernel_rfl) (.cons (Le.refl _) (.cons (Le.refl _) .nil)) (exergueref05_Same_ok hy138) (by kernel_rfl) ?_
                  refine RJ.seg 2 [2, 3, 4, 5, 9, 83] (L2 := [(2, .bool false), (3, .ptr 0 0), (4, .int .i64 x0.K_), (5, .int .i64 x0.Place_), (9, .ptr 1 0), (83, .bool y137)]) (H2 := [.box [.bool x0.D_.Neg_, lsv (encI .u8) 1 x0.D_.D_, .int .i64 x0.D_.E_], .box [.bool y63.1.Neg_, lsv (encI .u8) 1 y63.1.D_, .int .i64 y63.1.E_], .box [.bool y66.1.Neg_, lsv (encI .u8) 1 y66.1.D_, .int .i64 y66.1.E_]]) (by kernel_rfl) ?_
                  refine RJ.caseB 83 (b := y137) (by kernel_rfl) (fun hb140 => ?_) (fun hb140 => ?_)
                  · have h141 := condT hb140 h139
                    refine RJ.seg 3 [2, 3, 9, 83, 84, 85, 86] (L2 := [(2, .bool false), (3, .ptr 0 0), (9, .ptr 1 0), (83, .bool true), (84, .agg [.bool x0.D_.Neg_, lsv (encI .u8) 1 x0.D_.D_, .int .i64 x0.D_.E_]), (85, .int .i64 x0.K_), (86, .int .i64 x0.Place_)]) (H2 := [.box [.bool x0.D_.Neg_, lsv (encI .u8) 1 x0.D_.D_, .int .i64 x0.D_.E_], .box [.bool y63.1.Neg_, lsv (encI .u8) 1 y63.1.D_, .int .i64 y63.1.E_], .box [.bool y66.1.Neg_, lsv (encI .u8) 1 y66.1.D_, .int .i64 y66.1.E_]]) (by kernel_rfl) ?_
                    obtain ⟨y143, hy144, h145⟩ := bindS h141
                    refine RJ.call0 (d := (some 87)) (f := 14) (args := [.agg [.bool x0.D_.Neg_, lsv (encI .u8) 1 x0.D_.D_, .int .i64 x0.D_.E_], .int .i64 x0.K_, .int .i64 x0.Place_]) (v := .bool y143) (tr2 := []) (by kernel_rfl) (by kernel_rfl) (.cons (Le.refl _) (.cons (Le.refl _) (.cons (Le.refl _) .nil))) (round_Fits_ok hy144) (by kernel_rfl) ?_
                    refine RJ.seg 2 [2, 3, 9, 83, 89] (L2 := [(2, .bool false), (3, .ptr 0 0), (9, .ptr 1 0), (83, .bool true), (89, .bool (!y143))]) (H2 := [.box [.bool x0.D_.Neg_, lsv (encI .u8) 1 x0.D_.D_, .int .i64 x0.D_.E_], .box [.bool y63.1.Neg_, lsv (encI .u8) 1 y63.1.D_, .int .i64 y63.1.E_], .box [.bool y66.1.Neg_, lsv (encI .u8) 1 y66.1.D_, .int .i64 y66.1.E_]]) (by kernel_rfl) ?_
                    refine RJ.caseB 89 (b := (!y143)) (by kernel_rfl) (fun hb146 => ?_) (fun hb146 => ?_)
                    · have h147 := condT hb146 h145
                      refine RJ.seg 6 [2] (L2 := [(2, .bool true)]) (H2 := [.box [.bool x0.D_.Neg_, lsv (encI .u8) 1 x0.D_.D_, .int .i64 x0.D_.E_], .box [.bool y63.1.Neg_, lsv (encI .u8) 1 y63.1.D_, .int .i64 y63.1.E_], .box [.bool y66.1.Neg_, lsv (encI .u8) 1 y66.1.D_, .int .i64 y66.1.E_]]) (by kernel_rfl) ?_
                      refine RJ.end (by kernel_rfl) ?_
                      obtain rfl := Option.some.inj h147
                      refine PJ.wk (Wk.sel (L2 := [(2, .bool true)]) (H2 := []) 0 (by rw [hFH]; rfl) hFD [] (by kernel_rfl) (by kernel_rfl) (by decide) (by kernel_rfl) (by kernel_rfl) (by kernel_rfl) (by kernel_rfl)) ?_
                      exact PJ.cutN [2] (by kernel_rfl) (by kernel_rfl)
                    · have h148 := condF hb146 h145
                      refine RJ.seg 2 [2, 83, 89, 90, 91] (L2 := [(2, .bool false), (83, .bool true), (89, .bool false), (90, .agg [.bool y63.1.Neg_, lsv (encI .u8) 1 y63.1.D_, .int .i64 y63.1.E_]), (91, .agg [.bool x0.D_.Neg_, lsv (encI .u8) 1 x0.D_.D_, .int .i64 x0.D_.E_])]) (H2 := [.box [.bool x0.D_.Neg_, lsv (encI .u8) 1 x0.D_.D_, .int .i64 x0.D_.E_], .box [.bool y63.1.Neg_, lsv (encI .u8) 1 y63.1.D_, .int .i64 y63.1.E_], .box [.bool y66.1.Neg_, lsv (encI .u8) 1 y66.1.D_, .int .i64 y66.1.E_]]) (by kernel_rfl) ?_
                      obtain ⟨y149, hy150, h151⟩ := bindS h148
                      refine RJ.call0 (d := (some 92)) (f := 15) (args := [.agg [.bool y63.1.Neg_, lsv (encI .u8) 1 y63.1.D_, .int .i64 y63.1.E_], .agg [.bool x0.D_.Neg_, lsv (encI .u8) 1 x0.D_.D_, .int .i64 x0.D_.E_]]) (v := .bool y149) (tr2 := []) (by kernel_rfl) (by kernel_rfl) (.cons (Le.refl _) (.cons (Le.refl _) .nil)) (exergueref05_Same_ok hy150) (by kernel_rfl) ?_
                      refine RJ.seg 3 [2] (L2 := [(2, .bool y149)]) (H2 := [.box [.bool x0.D_.Neg_, lsv (encI .u8) 1 x0.D_.D_, .int .i64 x0.D_.E_], .box [.bool y63.1.Neg_, lsv (encI .u8) 1 y63.1.D_, .int .i64 y63.1.E_], .box [.bool y66.1.Neg_, lsv (encI .u8) 1 y66.1.D_, .int .i64 y66.1.E_]]) (by kernel_rfl) ?_
                      refine RJ.end (by kernel_rfl) ?_
                      obtain rfl := Option.some.inj h151
                      refine PJ.wk (Wk.sel (L2 := [(2, .bool y149)]) (H2 := []) 0 (by rw [hFH]; rfl) hFD [] (by kernel_rfl) (by kernel_rfl) (by decide) (by kernel_rfl) (by kernel_rfl) (by kernel_rfl) (by kernel_rfl)) ?_
                      exact PJ.cutN [2] (by kernel_rfl) (by kernel_rfl)
                  · have h142 := condF hb140 h139
                    refine RJ.seg 12 [2] (L2 := [(2, .bool false)]) (H2 := [.box [.bool x0.D_.Neg_, lsv (encI .u8) 1 x0.D_.D_, .int .i64 x0.D_.E_], .box [.bool y63.1.Neg_, lsv (encI .u8) 1 y63.1.D_, .int .i64 y63.1.E_], .box [.bool y66.1.Neg_, lsv (encI .u8) 1 y66.1.D_, .int .i64 y66.1.E_]]) (by kernel_rfl) ?_
                    refine RJ.end (by kernel_rfl) ?_
                    obtain rfl := Option.some.inj h142
                    refine PJ.wk (Wk.sel (L2 := [(2, .bool false)]) (H2 := []) 0 (by rw [hFH]; rfl) hFD [] (by kernel_rfl) (by kernel_rfl) (by decide) (by kernel_rfl) (by kernel_rfl) (by kernel_rfl) (by kernel_rfl)) ?_
                    exact PJ.cutN [2] (by kernel_rfl) (by kernel_rfl)
                · have h136 := condF hb134 h132
                  refine RJ.seg 17 [2] (L2 := [(2, .bool false)]) (H2 := [.box [.bool x0.D_.Neg_, lsv (encI .u8) 1 x0.D_.D_, .int .i64 x0.D_.E_], .box [.bool y63.1.Neg_, lsv (encI .u8) 1 y63.1.D_, .int .i64 y63.1.E_], .box [.bool y66.1.Neg_, lsv (encI .u8) 1 y66.1.D_, .int .i64 y66.1.E_]]) (by kernel_rfl) ?_
                  refine RJ.end (by kernel_rfl) ?_
                  obtain rfl := Option.some.inj h136
                  refine PJ.wk (Wk.sel (L2 := [(2, .bool false)]) (H2 := []) 0 (by rw [hFH]; rfl) hFD [] (by kernel_rfl) (by kernel_rfl) (by decide) (by kernel_rfl) (by kernel_rfl) (by kernel_rfl) (by kernel_rfl)) ?_
                  exact PJ.cutN [2] (by kernel_rfl) (by kernel_rfl)
              · have h133 := condF hb131 h130
                refine RJ.seg 24 [2] (L2 := [(2, .bool false)]) (H2 := [.box [.bool x0.D_.Neg_, lsv (encI .u8) 1 x0.D_.D_, .int .i64 x0.D_.E_], .box [.bool y63.1.Neg_, lsv (encI .u8) 1 y63.1.D_, .int .i64 y63.1.E_], .box [.bool y66.1.Neg_, lsv (encI .u8) 1 y66.1.D_, .int .i64 y66.1.E_]]) (by kernel_rfl) ?_
                refine RJ.end (by kernel_rfl) ?_
                obtain rfl := Option.some.inj h133
                refine PJ.wk (Wk.sel (L2 := [(2, .bool false)]) (H2 := []) 0 (by rw [hFH]; rfl) hFD [] (by kernel_rfl) (by kernel_rfl) (by decide) (by kernel_rfl) (by kernel_rfl) (by kernel_rfl) (by kernel_rfl)) ?_
                exact PJ.cutN [2] (by kernel_rfl) (by kernel_rfl)
            · have h127 := condF hb125 h124
              refine RJ.seg 30 [2] (L2 := [(2, .bool false)]) (H2 := [.box [.bool x0.D_.Neg_, lsv (encI .u8) 1 x0.D_.D_, .int .i64 x0.D_.E_], .box [.bool y63.1.Neg_, lsv (encI .u8) 1 y63.1.D_, .int .i64 y63.1.E_], .box [.bool y66.1.Neg_, lsv (encI .u8) 1 y66.1.D_, .int .i64 y66.1.E_]]) (by kernel_rfl) ?_
              refine RJ.end (by kernel_rfl) ?_
              obtain rfl := Option.some.inj h127
              refine PJ.wk (Wk.sel (L2 := [(2, .bool false)]) (H2 := []) 0 (by rw [hFH]; rfl) hFD [] (by kernel_rfl) (by kernel_rfl) (by decide) (by kernel_rfl) (by kernel_rfl) (by kernel_rfl) (by kernel_rfl)) ?_
              exact PJ.cutN [2] (by kernel_rfl) (by kernel_rfl)
          · have h121 := condF hb119 h117
            refine RJ.seg 34 [2] (L2 := [(2, .bool false)]) (H2 := [.box [.bool x0.D_.Neg_, lsv (encI .u8) 1 x0.D_.D_, .int .i64 x0.D_.E_], .box [.bool y63.1.Neg_, lsv (encI .u8) 1 y63.1.D_, .int .i64 y63.1.E_], .box [.bool y66.1.Neg_, lsv (encI .u8) 1 y66.1.D_, .int .i64 y66.1.E_]]) (by kernel_rfl) ?_
            refine RJ.end (by kernel_rfl) ?_
            obtain rfl := Option.some.inj h121
            refine PJ.wk (Wk.sel (L2 := [(2, .bool false)]) (H2 := []) 0 (by rw [hFH]; rfl) hFD [] (by kernel_rfl) (by kernel_rfl) (by decide) (by kernel_rfl) (by kernel_rfl) (by kernel_rfl) (by kernel_rfl)) ?_
            exact PJ.cutN [2] (by kernel_rfl) (by kernel_rfl)
        · have h118 := condF hb116 h114
          refine RJ.seg 38 [2] (L2 := [(2, .bool false)]) (H2 := [.box [.bool x0.D_.Neg_, lsv (encI .u8) 1 x0.D_.D_, .int .i64 x0.D_.E_], .box [.bool y63.1.Neg_, lsv (encI .u8) 1 y63.1.D_, .int .i64 y63.1.E_], .box [.bool y66.1.Neg_, lsv (encI .u8) 1 y66.1.D_, .int .i64 y66.1.E_]]) (by kernel_rfl) ?_
          refine RJ.end (by kernel_rfl) ?_
          obtain rfl := Option.some.inj h118
          refine PJ.wk (Wk.sel (L2 := [(2, .bool false)]) (H2 := []) 0 (by rw [hFH]; rfl) hFD [] (by kernel_rfl) (by kernel_rfl) (by decide) (by kernel_rfl) (by kernel_rfl) (by kernel_rfl) (by kernel_rfl)) ?_
          exact PJ.cutN [2] (by kernel_rfl) (by kernel_rfl)
      · have h115 := condF hb113 hy110
        refine RJ.seg 42 [2] (L2 := [(2, .bool false)]) (H2 := [.box [.bool x0.D_.Neg_, lsv (encI .u8) 1 x0.D_.D_, .int .i64 x0.D_.E_], .box [.bool y63.1.Neg_, lsv (encI .u8) 1 y63.1.D_, .int .i64 y63.1.E_], .box [.bool y66.1.Neg_, lsv (encI .u8) 1 y66.1.D_, .int .i64 y66.1.E_]]) (by kernel_rfl) ?_
        refine RJ.end (by kernel_rfl) ?_
        obtain rfl := Option.some.inj h115
        refine PJ.wk (Wk.sel (L2 := [(2, .bool false)]) (H2 := []) 0 (by rw [hFH]; rfl) hFD [] (by kernel_rfl) (by kernel_rfl) (by decide) (by kernel_rfl) (by kernel_rfl) (by kernel_rfl) (by kernel_rfl)) ?_
        exact PJ.cutN [2] (by kernel_rfl) (by kernel_rfl)
    · refine K.ret (by kernel_rfl) ?_
      obtain rfl := Option.some.inj h112
      exact K.ret0 (.inr rfl) hFn hFH hFD (by kernel_rfl) (by kernel_rfl) (by kernel_rfl)

structure St37 where
  D_ : St23
  K_ : Int
  Place_ : Int
  Mode_ : Int
  deriving Inhabited, DecidableEq
def encSt37 (x : St37) : List SV := [.bool x.D_.Neg_, lsv (encI .u8) 1 x.D_.D_, .int .i64 x.D_.E_, .int .i64 x.K_, .int .i64 x.Place_, .int .i64 x.Mode_]
theorem encSt37_len (x : St37) : (encSt37 x).length = 6 := rfl

def exergueref05_Mag (x0 : St23) : Option (Int) :=
  (bif (decide ((x0.D_.length : Int) = 0)) then (some 0) else (some (IntKind.wrap .i64 (((IntKind.wrap .i64 (x0.E_ + (x0.D_.length : Int)))) - 1))))
theorem exergueref05_Mag_ok {x0 : St23} {r : Int} (h : exergueref05_Mag x0 = some r) : SC Try.prog 20 [.agg [.bool x0.Neg_, lsv (encI .u8) 1 x0.D_, .int .i64 x0.E_]] [] (.int .i64 r) [] := by
  refine K.fn (fn := Try.f20) (by kernel_rfl) (by kernel_rfl) (by kernel_rfl) (by kernel_rfl) (by kernel_rfl) (fun F hFn hFH hFD => ?_)
  unfold exergueref05_Mag at h
  refine K.seq (by kernel_rfl) ?_
  refine K.region (by kernel_rfl) ?_
  refine RJ.seg 2 [1, 2] (L2 := [(1, .ptr 0 0), (2, .int .i64 0)]) (H2 := [.box [.bool x0.Neg_, lsv (encI .u8) 1 x0.D_, .int .i64 x0.E_]]) (by kernel_rfl) ?_
  refine RJ.end (by kernel_rfl) ?_
  refine PJ.next ?_
  refine K.seq (by kernel_rfl) ?_
  refine K.seq (by kernel_rfl) ?_
  refine K.region (by kernel_rfl) ?_
  refine RJ.seg 4 [1, 2, 6] (L2 := [(1, .ptr 0 0), (2, .int .i64 0), (6, .bool ((decide ((x0.D_.length : Int) = 0))))]) (H2 := [.box [.bool x0.Neg_, lsv (encI .u8) 1 x0.D_, .int .i64 x0.E_]]) (by kernel_rfl) ?_
  refine RJ.end (by kernel_rfl) ?_
  refine PJ.next ?_
  refine J.caseB 6 (b := (decide ((x0.D_.length : Int) = 0))) (by kernel_rfl) (fun hb1 => ?_) (fun hb1 => ?_)
  · have h2 := condT hb1 h
    refine K.condT (by kernel_rfl) ?_
    refine K.seq (by kernel_rfl) ?_
    refine K.region (by kernel_rfl) ?_
    refine RJ.seg 1 [1, 2] (L2 := [(1, .ptr 0 0), (2, .int .i64 0)]) (H2 := [.box [.bool x0.Neg_, lsv (encI .u8) 1 x0.D_, .int .i64 x0.E_]]) (by kernel_rfl) ?_
    refine RJ.end (by kernel_rfl) ?_
    refine PJ.next ?_
    refine K.ret (by kernel_rfl) ?_
    refine PJ.passRet ?_
    obtain rfl := Option.some.inj h2
    exact K.ret0 (.inr rfl) hFn hFH hFD (by kernel_rfl) (by kernel_rfl) (by kernel_rfl)
  · have h3 := condF hb1 h
    refine K.condF (by kernel_rfl) ?_
    refine K.skip (by kernel_rfl) ?_
    refine PJ.next ?_
    refine K.seq (by kernel_rfl) ?_
    refine K.region (by kernel_rfl) ?_
    refine RJ.seg 8 [2] (L2 := [(2, .int .i64 ((IntKind.wrap .i64 (((IntKind.wrap .i64 (x0.E_ + (x0.D_.length : Int)))) - 1))))]) (H2 := [.box [.bool x0.Neg_, lsv (encI .u8) 1 x0.D_, .int .i64 x0.E_]]) (by kernel_rfl) ?_
    refine RJ.end (by kernel_rfl) ?_
    refine PJ.next ?_
    refine K.ret (by kernel_rfl) ?_
    obtain rfl := Option.some.inj h3
    exact K.ret0 (.inr rfl) hFn hFH hFD (by kernel_rfl) (by kernel_rfl) (by kernel_rfl)

def exergueref05_At (x0 : St23) (x1 : Int) : Option (Int) :=
  (Option.bind (loopN (fun (s45 : Int) => (bif (decide (s45 < (x0.D_.length : Int))) then (bif (decide (((IntKind.wrap .i64 (((IntKind.wrap .i64 (((IntKind.wrap .i64 (x0.E_ + (x0.D_.length : Int)))) - 1))) - s45))) = x1)) then (bif inR s45 x0.D_.length then (some (.inr (.inr (nth x0.D_ s45)))) else none) else (some (.inl (IntKind.wrap .i64 (s45 + 1))))) else (some (.inr (.inl ()))))) big 0) (joinX fun (s40 : Unit) => (some 0)))
theorem exergueref05_At_ok {x0 : St23} {x1 : Int} {r : Int} (h : exergueref05_At x0 x1 = some r) : SC Try.prog 50 [.agg [.bool x0.Neg_, lsv (encI .u8) 1 x0.D_, .int .i64 x0.E_], .int .i64 x1] [] (.int .u8 r) [] := by
  refine K.fn (fn := Try.f50) (by kernel_rfl) (by kernel_rfl) (by kernel_rfl) (by kernel_rfl) (by kernel_rfl) (fun F hFn hFH hFD => ?_)
  unfold exergueref05_At at h
  refine K.seq (by kernel_rfl) ?_
  refine K.region (by kernel_rfl) ?_
  refine RJ.seg 2 [1, 2, 4] (L2 := [(1, .int .i64 x1), (2, .ptr 0 0), (4, .int .u8 0)]) (H2 := [.box [.bool x0.Neg_, lsv (encI .u8) 1 x0.D_, .int .i64 x0.E_]]) (by kernel_rfl) ?_
  refine RJ.end (by kernel_rfl) ?_
  refine PJ.next ?_
  obtain ⟨y41, hy42, h43⟩ := bindS h
  refine K.cutX (by kernel_rfl) (fun (s40 : Unit) => ([(4, .int .u8 0)], [])) y41 ?_ (fun s40 hs => ?_)
  · refine K.seq (by kernel_rfl) ?_
    refine K.region (by kernel_rfl) ?_
    refine RJ.seg 1 [1, 2, 4, 5] (L2 := [(1, .int .i64 x1), (2, .ptr 0 0), (4, .int .u8 0), (5, .int .i64 0)]) (H2 := [.box [.bool x0.Neg_, lsv (encI .u8) 1 x0.D_, .int .i64 x0.E_]]) (by kernel_rfl) ?_
    refine RJ.end (by kernel_rfl) ?_
    refine PJ.next ?_
    refine K.block 0 (by kernel_rfl) ?_
    refine K.loop (by kernel_rfl) (fun (s45 : Int) => ([(1, .int .i64 x1), (2, .ptr 0 0), (4, .int .u8 0), (5, .int .i64 s45)], [.box [.bool x0.Neg_, lsv (encI .u8) 1 x0.D_, .int .i64 x0.E_]])) hy42 [1, 2, 4, 5] (by kernel_rfl) (by kernel_rfl) (fun s45 x71 hs70 => ?_)
    refine K.seq (by kernel_rfl) ?_
    refine K.seq (by kernel_rfl) ?_
    refine K.region (by kernel_rfl) ?_
    refine RJ.seg 5 [1, 2, 4, 5, 10] (L2 := [(1, .int .i64 x1), (2, .ptr 0 0), (4, .int .u8 0), (5, .int .i64 s45), (10, .bool ((decide (s45 < (x0.D_.length : Int)))))]) (H2 := [.box [.bool x0.Neg_, lsv (encI .u8) 1 x0.D_, .int .i64 x0.E_]]) (by kernel_rfl) ?_
    refine RJ.end (by kernel_rfl) ?_
    refine PJ.next ?_
    refine J.caseB 10 (b := (decide (s45 < (x0.D_.length : Int)))) (by kernel_rfl) (fun hb72 => ?_) (fun hb72 => ?_)
    · have h73 := condT hb72 hs70
      refine K.condT (by kernel_rfl) ?_
      refine K.skip (by kernel_rfl) ?_
      refine PJ.next ?_
      refine K.seq (by kernel_rfl) ?_
      refine K.block 1 (by kernel_rfl) ?_
      refine K.seq (by kernel_rfl) ?_
      refine K.region (by kernel_rfl) ?_
      refine RJ.seg 11 [1, 2, 4, 5, 23] (L2 := [(1, .int .i64 x1), (2, .ptr 0 0), (4, .int .u8 0), (5, .int .i64 s45), (23, .bool ((decide (((IntKind.wrap .i64 (((IntKind.wrap .i64 (((IntKind.wrap .i64 (x0.E_ + (x0.D_.length : Int)))) - 1))) - s45))) = x1))))]) (H2 := [.box [.bool x0.Neg_, lsv (encI .u8) 1 x0.D_, .int .i64 x0.E_]]) (by kernel_rfl) ?_
      refine RJ.end (by kernel_rfl) ?_
      refine PJ.next ?_
      refine J.caseB 23 (b := (decide (((IntKind.wrap .i64 (((IntKind.wrap .i64 (((IntKind.wrap .i64 (x0.E_ + (x0.D_.length : Int)))) - 1))) - s45))) = x1))) (by kernel_rfl) (fun hb75 => ?_) (fun hb75 => ?_)
      · have h76 := condT hb75 h73
        refine K.condT (by kernel_rfl) ?_
        refine K.seq (by kernel_rfl) ?_
        refine K.region (by kernel_rfl) ?_
        refine RJ.seg 3 [1, 2, 4, 5, 25, 26] (L2 := [(1, .int .i64 x1), (2, .ptr 0 0), (4, .int .u8 0), (5, .int .i64 s45), (25, lsv (encI .u8) 1 x0.D_), (26, .int .i64 s45)]) (H2 := [.box [.bool x0.Neg_, lsv (encI .u8) 1 x0.D_, .int .i64 x0.E_]]) (by kernel_rfl) ?_
        obtain ⟨hm, h78⟩ := asrt h76
        refine RJ.rel (d := (some 27)) (ef := ⟨.ep (((x0.D_.flatMap (encI .u8)).drop ((s45 : Int).toNat * 1)).take 1), [], []⟩) (ef' := ⟨.ep ((encI .u8) (nth x0.D_ s45)), [], []⟩) (c := inR s45 x0.D_.length) (tr2 := []) (H2 := [.box [.bool x0.Neg_, lsv (encI .u8) 1 x0.D_, .int .i64 x0.E_]]) (by kernel_rfl) hm (fun hc => N.idx (encI_len .u8) hc) (by kernel_rfl) ?_
        refine RJ.seg 2 [1, 2, 4, 5] (L2 := [(1, .int .i64 x1), (2, .ptr 0 0), (4, .int .u8 (nth x0.D_ s45)), (5, .int .i64 s45)]) (H2 := [.box [.bool x0.Neg_, lsv (encI .u8) 1 x0.D_, .int .i64 x0.E_]]) (by kernel_rfl) ?_
        refine RJ.end (by kernel_rfl) ?_
        refine PJ.next ?_
        refine K.ret (by kernel_rfl) ?_
        refine PJ.blockRet ?_
        refine PJ.passRet ?_
        obtain rfl := Option.some.inj h78
        refine PJ.loopOut (fun e => nomatch e) (fun he81 => ?_)
        have h79 := congrArg some he81
        refine PJ.blockRet ?_
        obtain rfl := Option.some.inj h79
        have h80 := joinX_inr h43
        refine PJ.cutXr (fun e => nomatch e) ?_
        obtain rfl := Option.some.inj h80
        exact K.ret0 (.inr rfl) hFn hFH hFD (by kernel_rfl) (by kernel_rfl) (by kernel_rfl)
      · have h77 := condF hb75 h73
        refine K.condF (by kernel_rfl) ?_
        refine K.skip (by kernel_rfl) ?_
        refine PJ.blockNormal ?_
        refine PJ.next ?_
        refine K.region (by kernel_rfl) ?_
        refine RJ.seg 3 [1, 2, 4, 5] (L2 := [(1, .int .i64 x1), (2, .ptr 0 0), (4, .int .u8 0), (5, .int .i64 (IntKind.wrap .i64 (s45 + 1)))]) (H2 := [.box [.bool x0.Neg_, lsv (encI .u8) 1 x0.D_, .int .i64 x0.E_]]) (by kernel_rfl) ?_
        refine RJ.end (by kernel_rfl) ?_
        obtain rfl := Option.some.inj h77
        exact PJ.loopNext [1, 2, 4, 5] (by kernel_rfl) (by kernel_rfl)
    · have h74 := condF hb72 hs70
      refine K.condF (by kernel_rfl) ?_
      refine K.exit 0 (by kernel_rfl) ?_
      refine PJ.passExit ?_
      obtain rfl := Option.some.inj h74
      refine PJ.loopOut (fun e => nomatch e) (fun he83 => ?_)
      have h82 := congrArg some he83
      refine PJ.blockOut ?_
      obtain rfl := Option.some.inj h82
      refine PJ.wk (Wk.sel (L2 := [(4, .int .u8 0)]) (H2 := []) 0 (by rw [hFH]; rfl) hFD [] (by kernel_rfl) (by kernel_rfl) (by decide) (by kernel_rfl) (by kernel_rfl) (by kernel_rfl) (by kernel_rfl)) ?_
      exact PJ.cutXl [4] (by kernel_rfl) (by kernel_rfl)
  · subst hs
    have h44 := joinX_inl h43
    refine K.seq (by kernel_rfl) ?_
    refine K.region (by kernel_rfl) ?_
    refine RJ.seg 1 [4] (L2 := [(4, .int .u8 0)]) (H2 := []) (by kernel_rfl) ?_
    refine RJ.end (by kernel_rfl) ?_
    refine PJ.next ?_
    refine K.ret (by kernel_rfl) ?_
    obtain rfl := Option.some.inj h44
    exact K.ret0 (.inr rfl) hFn hFH hFD (by kernel_rfl) (by kernel_rfl) (by kernel_rfl)

def exergueref05_figures (x0 : St23) (x1 : Int) (x2 : Int) : Option (List Int) :=
  (Option.bind (loopN (fun (s36 : Int × (List Int)) => (bif (decide (s36.1 ≥ x2)) then (Option.bind (exergueref05_At x0 s36.1) fun y60 => (bif room (s36.2.length + ([y60] : List Int).length) then (some (.inl ((IntKind.wrap .i64 (s36.1 - 1)), (s36.2 ++ ([y60] : List Int))))) else none)) else (some (.inr s36.2)))) big (x1, ([] : List Int))) fun (s31 : (List Int)) => (some s31))
theorem exergueref05_figures_ok {x0 : St23} {x1 : Int} {x2 : Int} {r : List Int} (h : exergueref05_figures x0 x1 x2 = some r) : SC Try.prog 34 [.agg [.bool x0.Neg_, lsv (encI .u8) 1 x0.D_, .int .i64 x0.E_], .int .i64 x1, .int .i64 x2] [] (lsv (encI .u8) 1 r) [] := by
  refine K.fn (fn := Try.f34) (by kernel_rfl) (by kernel_rfl) (by kernel_rfl) (by kernel_rfl) (by kernel_rfl) (fun F hFn hFH hFD => ?_)
  unfold exergueref05_figures at h
  refine K.seq (by kernel_rfl) ?_
  refine K.region (by kernel_rfl) ?_
  refine RJ.seg 2 [1, 2, 3, 6] (L2 := [(1, .int .i64 x1), (2, .int .i64 x2), (3, .ptr 0 0), (6, .nl)]) (H2 := [.box [.bool x0.Neg_, lsv (encI .u8) 1 x0.D_, .int .i64 x0.E_]]) (by kernel_rfl) ?_
  refine RJ.end (by kernel_rfl) ?_
  refine PJ.next ?_
  refine K.seq (by kernel_rfl) ?_
  refine K.region (by kernel_rfl) ?_
  refine RJ.seg 1 [1, 2, 3, 6, 7] (L2 := [(1, .int .i64 x1), (2, .int .i64 x2), (3, .ptr 0 0), (6, .nl), (7, .nl)]) (H2 := [.box [.bool x0.Neg_, lsv (encI .u8) 1 x0.D_, .int .i64 x0.E_]]) (by kernel_rfl) ?_
  refine RJ.end (by kernel_rfl) ?_
  refine PJ.next ?_
  obtain ⟨s31, hy33, h35⟩ := bindS h
  refine K.cutN (by kernel_rfl) (fun (s31 : (List Int)) => ([(6, .nl), (7, .vc 0)], [vecL (encI .u8) 1 5 s31])) s31 ?_ ?_
  · refine K.seq (by kernel_rfl) ?_
    refine K.region (by kernel_rfl) ?_
    refine RJ.seg 2 [2, 3, 6, 7, 8] (L2 := [(2, .int .i64 x2), (3, .ptr 0 0), (6, .nl), (7, .nl), (8, .int .i64 x1)]) (H2 := [.box [.bool x0.Neg_, lsv (encI .u8) 1 x0.D_, .int .i64 x0.E_]]) (by kernel_rfl) ?_
    refine RJ.end (by kernel_rfl) ?_
    refine PJ.next ?_
    refine K.block 0 (by kernel_rfl) ?_
    refine J.wk (Wk.viv 7 1 5 (by kernel_rfl)) ?_
    refine K.loop (by kernel_rfl) (fun (s36 : Int × (List Int)) => ([(2, .int .i64 x2), (3, .ptr 0 0), (6, .nl), (7, .vc 1), (8, .int .i64 s36.1)], [.box [.bool x0.Neg_, lsv (encI .u8) 1 x0.D_, .int .i64 x0.E_], vecL (encI .u8) 1 5 s36.2])) hy33 [2, 3, 6, 7, 8] (by kernel_rfl) (by kernel_rfl) (fun s36 x56 hs55 => ?_)
    refine K.seq (by kernel_rfl) ?_
    refine K.seq (by kernel_rfl) ?_
    refine K.region (by kernel_rfl) ?_
    refine RJ.seg 3 [2, 3, 6, 7, 8, 12] (L2 := [(2, .int .i64 x2), (3, .ptr 0 0), (6, .nl), (7, .vc 1), (8, .int .i64 s36.1), (12, .bool (decide (s36.1 ≥ x2)))]) (H2 := [.box [.bool x0.Neg_, lsv (encI .u8) 1 x0.D_, .int .i64 x0.E_], vecL (encI .u8) 1 5 s36.2]) (by kernel_rfl) ?_
    refine RJ.end (by kernel_rfl) ?_
    refine PJ.next ?_
    refine J.caseB 12 (b := (decide (s36.1 ≥ x2))) (by kernel_rfl) (fun hb57 => ?_) (fun hb57 => ?_)
    · have h58 := condT hb57 hs55
      refine K.condT (by kernel_rfl) ?_
      refine K.skip (by kernel_rfl) ?_
      refine PJ.next ?_
      refine K.seq (by kernel_rfl) ?_
      refine K.block 1 (by kernel_rfl) ?_
      refine K.region (by kernel_rfl) ?_
      refine RJ.seg 3 [2, 3, 6, 7, 8, 15, 16, 17] (L2 := [(2, .int .i64 x2), (3, .ptr 0 0), (6, .nl), (7, .vc 1), (8, .int .i64 s36.1), (15, .vc 1), (16, .agg [.bool x0.Neg_, lsv (encI .u8) 1 x0.D_, .int .i64 x0.E_]), (17, .int .i64 s36.1)]) (H2 := [.box [.bool x0.Neg_, lsv (encI .u8) 1 x0.D_, .int .i64 x0.E_], vecL (encI .u8) 1 5 s36.2]) (by kernel_rfl) ?_
      obtain ⟨y60, hy61, h62⟩ := bindS h58
      refine RJ.call0 (d := (some 18)) (f := 50) (args := [.agg [.bool x0.Neg_, lsv (encI .u8) 1 x0.D_, .int .i64 x0.E_], .int .i64 s36.1]) (v := .int .u8 y60) (tr2 := []) (by kernel_rfl) (by kernel_rfl) (.cons (Le.refl _) (.cons (Le.refl _) .nil)) (exergueref05_At_ok hy61) (by kernel_rfl) ?_
      refine RJ.seg 1 [2, 3, 6, 7, 8, 15, 19] (L2 := [(2, .int .i64 x2), (3, .ptr 0 0), (6, .nl), (7, .vc 1), (8, .int .i64 s36.1), (15, .vc 1), (19, .vc 2)]) (H2 := [.box [.bool x0.Neg_, lsv (encI .u8) 1 x0.D_, .int .i64 x0.E_], vecL (encI .u8) 1 5 s36.2, vecL (encI .u8) 1 5 ([y60] : List Int)]) (by kernel_rfl) ?_
      obtain ⟨hm, h63⟩ := asrt h62
      refine RJ.rel (d := (some 20)) (ef := ⟨.vc 3, [1, 2], [(1, .gone), (3, .vec (s36.2.length + ([y60] : List Int).length) 1 5 (s36.2.flatMap (encI .u8) ++ ([y60] : List Int).flatMap (encI .u8)))]⟩) (ef' := ⟨.vc 3, [1, 2], [(1, .gone), (3, vecL (encI .u8) 1 5 (s36.2 ++ ([y60] : List Int)))]⟩) (c := room (s36.2.length + ([y60] : List Int).length)) (tr2 := []) (H2 := [.box [.bool x0.Neg_, lsv (encI .u8) 1 x0.D_, .int .i64 x0.E_], .gone, vecL (encI .u8) 1 5 ([y60] : List Int), vecL (encI .u8) 1 5 (s36.2 ++ ([y60] : List Int))]) (by kernel_rfl) hm (fun hc => N.app) (by kernel_rfl) ?_
      refine RJ.seg 1 [2, 3, 6, 7, 8] (L2 := [(2, .int .i64 x2), (3, .ptr 0 0), (6, .nl), (7, .vc 3), (8, .int .i64 s36.1)]) (H2 := [.box [.bool x0.Neg_, lsv (encI .u8) 1 x0.D_, .int .i64 x0.E_], .gone, vecL (encI .u8) 1 5 ([y60] : List Int), vecL (encI .u8) 1 5 (s36.2 ++ ([y60] : List Int))]) (by kernel_rfl) ?_
      refine RJ.end (by kernel_rfl) ?_
      refine PJ.blockNormal ?_
      refine PJ.next ?_
      refine K.region (by kernel_rfl) ?_
      refine RJ.seg 3 [2, 3, 6, 7, 8] (L2 := [(2, .int .i64 x2), (3, .ptr 0 0), (6, .nl), (7, .vc 3), (8, .int .i64 (IntKind.wrap .i64 (s36.1 - 1)))]) (H2 := [.box [.bool x0.Neg_, lsv (encI .u8) 1 x0.D_, .int .i64 x0.E_], .gone, vecL (encI .u8) 1 5 ([y60] : List Int), vecL (encI .u8) 1 5 (s36.2 ++ ([y60] : List Int))]) (by kernel_rfl) ?_
      refine RJ.end (by kernel_rfl) ?_
      obtain rfl := Option.some.inj h63
      refine PJ.wk (Wk.sel (L2 := [(2, .int .i64 x2), (3, .ptr 0 0), (6, .nl), (7, .vc 1), (8, .int .i64 (IntKind.wrap .i64 (s36.1 - 1)))]) (H2 := [.box [.bool x0.Neg_, lsv (encI .u8) 1 x0.D_, .int .i64 x0.E_], vecL (encI .u8) 1 5 (s36.2 ++ ([y60] : List Int))]) 0 (by rw [hFH]; rfl) hFD [0, 3] (by kernel_rfl) (by kernel_rfl) (by decide) (by kernel_rfl) (by kernel_rfl) (by kernel_rfl) (by kernel_rfl)) ?_
      exact PJ.loopNext [2, 3, 6, 7, 8] (by kernel_rfl) (by kernel_rfl)
    · have h59 := condF hb57 hs55
      refine K.condF (by kernel_rfl) ?_
      refine K.exit 0 (by kernel_rfl) ?_
      refine PJ.passExit ?_
      obtain rfl := Option.some.inj h59
      refine PJ.loopOut (fun e => nomatch e) (fun he65 => ?_)
      have h64 := congrArg some he65
      refine PJ.blockOut ?_
      obtain rfl := Option.some.inj h64
      refine PJ.wk (Wk.sel (L2 := [(6, .nl), (7, .vc 0)]) (H2 := [vecL (encI .u8) 1 5 s36.2]) 0 (by rw [hFH]; rfl) hFD [1] (by kernel_rfl) (by kernel_rfl) (by decide) (by kernel_rfl) (by kernel_rfl) (by kernel_rfl) (by kernel_rfl)) ?_
      exact PJ.cutN [6, 7] (by kernel_rfl) (by kernel_rfl)
  · refine K.seq (by kernel_rfl) ?_
    refine K.region (by kernel_rfl) ?_
    refine RJ.seg 2 [6] (L2 := [(6, .vc 0)]) (H2 := [vecL (encI .u8) 1 5 s31]) (by kernel_rfl) ?_
    refine RJ.end (by kernel_rfl) ?_
    refine PJ.next ?_
    refine K.ret (by kernel_rfl) ?_
    obtain rfl := Option.some.inj h35
    refine PJ.wk (Wk.freeze 0 (n := s31.length) (k := 1) (e := 5) (cs := s31.flatMap (encI .u8)) (by kernel_rfl)) ?_
    exact K.ret0 (.inr rfl) hFn hFH hFD (by kernel_rfl) (by kernel_rfl) (by kernel_rfl)

def exergueref05_Cmp (x0 : St23) (x1 : St23) : Option (Int) :=
  (Option.bind (exergueref05_Mag x0) fun y1 => (Option.bind (exergueref05_Mag x1) fun y4 => (Option.bind (exergueref05_figures x0 (maxI y1 y4) (minI x0.E_ x1.E_)) fun y7 => (Option.bind (exergueref05_figures x1 (maxI y1 y4) (minI x0.E_ x1.E_)) fun y10 => (Option.bind (Option.bind (bif (decide ((x0.D_.length : Int) = 0)) then (some ((decide ((x1.D_.length : Int) = 0)))) else (some false)) fun (s36 : Bool) => (bif s36 then (some (.inr 0)) else (some (.inl ())))) (joinX fun (s28 : Unit) => (bif (x0.Neg_ != x1.Neg_) then (bif x0.Neg_ then (some (-1)) else (some 1)) else (Option.bind (loopN (fun (s125 : Int) => (bif (decide (s125 < (y7.length : Int))) then (bif inR s125 y7.length then (bif inR s125 y10.length then (bif (decide ((nth y7 s125) = (nth y10 s125))) then (some (.inl (IntKind.wrap .i64 (s125 + 1)))) else (bif inR s125 y7.length then (bif inR s125 y10.length then (bif (((decide ((nth y7 s125) < (nth y10 s125)))) != x0.Neg_) then (some (.inr (.inr (-1)))) else (some (.inr (.inr 1)))) else none) else none)) else none) else none) else (some (.inr (.inl ()))))) big 0) (joinX fun (s120 : Unit) => (some 0))))))))))
theorem exergueref05_Cmp_ok {x0 : St23} {x1 : St23} {r : Int} (h : exergueref05_Cmp x0 x1 = some r) : SC Try.prog 16 [.agg [.bool x0.Neg_, lsv (encI .u8) 1 x0.D_, .int .i64 x0.E_], .agg [.bool x1.Neg_, lsv (encI .u8) 1 x1.D_, .int .i64 x1.E_]] [] (.int .i64 r) [] := by
  refine K.fn (fn := Try.f16) (by kernel_rfl) (by kernel_rfl) (by kernel_rfl) (by kernel_rfl) (by kernel_rfl) (fun F hFn hFH hFD => ?_)
  unfold exergueref05_Cmp at h
  refine K.seq (by kernel_rfl) ?_
  refine K.region (by kernel_rfl) ?_
  refine RJ.seg 3 [2, 3, 4] (L2 := [(2, .ptr 0 0), (3, .ptr 1 0), (4, .int .i64 0)]) (H2 := [.box [.bool x0.Neg_, lsv (encI .u8) 1 x0.D_, .int .i64 x0.E_], .box [.bool x1.Neg_, lsv (encI .u8) 1 x1.D_, .int .i64 x1.E_]]) (by kernel_rfl) ?_
  refine RJ.end (by kernel_rfl) ?_
  refine PJ.next ?_
  refine K.seq (by kernel_rfl) ?_
  refine J.keep [2, 3, 4] (L2 := [(2, .ptr 0 0), (3, .ptr 1 0), (4, .int .i64 0)]) (by kernel_rfl) ?_
  refine K.draw (by kernel_rfl) (by kernel_rfl) (by kernel_rfl) (H2 := [.box [.bool x0.Neg_, lsv (encI .u8) 1 x0.D_, .int .i64 x0.E_], .box [.bool x1.Neg_, lsv (encI .u8) 1 x1.D_, .int .i64 x1.E_], .res, .res]) (by kernel_rfl) (n := 2) (by kernel_rfl) ?_
  refine RJ.segD 1 (tr2 := [([0, 1], [])]) (L2 := [(10, .agg [.bool x0.Neg_, lsv (encI .u8) 1 x0.D_, .int .i64 x0.E_]), (2, .ptr 0 0), (3, .ptr 1 0), (4, .int .i64 0)]) (H2 := [.box [.bool x0.Neg_, lsv (encI .u8) 1 x0.D_, .int .i64 x0.E_], .box [.bool x1.Neg_, lsv (encI .u8) 1 x1.D_, .int .i64 x1.E_], .res, .res]) (by kernel_rfl) ?_
  obtain ⟨y1, hy2, h3⟩ := bindS h
  refine RJ.call0 (d := (some 11)) (f := 20) (args := [.agg [.bool x0.Neg_, lsv (encI .u8) 1 x0.D_, .int .i64 x0.E_]]) (v := .int .i64 y1) (tr2 := [([0, 1], []), ([], [4, 5])]) (by kernel_rfl) (by kernel_rfl) (.cons (Le.refl _) .nil) (exergueref05_Mag_ok hy2) (by kernel_rfl) ?_
  refine RJ.segD 1 (tr2 := [([0, 1], []), ([], [4, 5]), ([2, 3], [])]) (L2 := [(12, .agg [.bool x1.Neg_, lsv (encI .u8) 1 x1.D_, .int .i64 x1.E_]), (11, .int .i64 y1), (10, .agg [.bool x0.Neg_, lsv (encI .u8) 1 x0.D_, .int .i64 x0.E_]), (2, .ptr 0 0), (3, .ptr 1 0), (4, .int .i64 0)]) (H2 := [.box [.bool x0.Neg_, lsv (encI .u8) 1 x0.D_, .int .i64 x0.E_], .box [.bool x1.Neg_, lsv (encI .u8) 1 x1.D_, .int .i64 x1.E_], .res, .res]) (by kernel_rfl) ?_
  obtain ⟨y4, hy5, h6⟩ := bindS h3
  refine RJ.call0 (d := (some 13)) (f := 20) (args := [.agg [.bool x1.Neg_, lsv (encI .u8) 1 x1.D_, .int .i64 x1.E_]]) (v := .int .i64 y4) (tr2 := [([0, 1], []), ([], [4, 5]), ([2, 3], []), ([], [6, 7])]) (by kernel_rfl) (by kernel_rfl) (.cons (Le.refl _) .nil) (exergueref05_Mag_ok hy5) (by kernel_rfl) ?_
  refine RJ.segD 2 (tr2 := [([0, 1], []), ([], [4, 5]), ([2, 3], []), ([], [6, 7]), ([], []), ([], [])]) (L2 := [(5, .int .i64 (maxI y1 y4)), (14, .int .i64 (maxI y1 y4)), (13, .int .i64 y4), (12, .agg [.bool x1.Neg_, lsv (encI .u8) 1 x1.D_, .int .i64 x1.E_]), (11, .int .i64 y1), (10, .agg [.bool x0.Neg_, lsv (encI .u8) 1 x0.D_, .int .i64 x0.E_]), (2, .ptr 0 0), (3, .ptr 1 0), (4, .int .i64 0)]) (H2 := [.box [.bool x0.Neg_, lsv (encI .u8) 1 x0.D_, .int .i64 x0.E_], .box [.bool x1.Neg_, lsv (encI .u8) 1 x1.D_, .int .i64 x1.E_], .res, .res]) (by kernel_rfl) ?_
  refine RJ.end (by kernel_rfl) ?_
  refine PJ.next ?_
  refine K.seq (by kernel_rfl) ?_
  refine K.region (by kernel_rfl) ?_
  refine RJ.seg 6 [2, 3, 4, 5, 6] (L2 := [(2, .ptr 0 0), (3, .ptr 1 0), (4, .int .i64 0), (5, .int .i64 (maxI y1 y4)), (6, .int .i64 (minI x0.E_ x1.E_))]) (H2 := [.box [.bool x0.Neg_, lsv (encI .u8) 1 x0.D_, .int .i64 x0.E_], .box [.bool x1.Neg_, lsv (encI .u8) 1 x1.D_, .int .i64 x1.E_], .res, .res]) (by kernel_rfl) ?_
  refine RJ.end (by kernel_rfl) ?_
  refine PJ.next ?_
  refine K.seq (by kernel_rfl) ?_
  refine K.region (by kernel_rfl) ?_
  refine RJ.seg 3 [2, 3, 4, 5, 6, 20, 21, 22] (L2 := [(2, .ptr 0 0), (3, .ptr 1 0), (4, .int .i64 0), (5, .int .i64 (maxI y1 y4)), (6, .int .i64 (minI x0.E_ x1.E_)), (20, .agg [.bool x0.Neg_, lsv (encI .u8) 1 x0.D_, .int .i64 x0.E_]), (21, .int .i64 (maxI y1 y4)), (22, .int .i64 (minI x0.E_ x1.E_))]) (H2 := [.box [.bool x0.Neg_, lsv (encI .u8) 1 x0.D_, .int .i64 x0.E_], .box [.bool x1.Neg_, lsv (encI .u8) 1 x1.D_, .int .i64 x1.E_], .res, .res]) (by kernel_rfl) ?_
  obtain ⟨y7, hy8, h9⟩ := bindS h6
  refine RJ.call0 (d := (some 23)) (f := 34) (args := [.agg [.bool x0.Neg_, lsv (encI .u8) 1 x0.D_, .int .i64 x0.E_], .int .i64 (maxI y1 y4), .int .i64 (minI x0.E_ x1.E_)]) (v := lsv (encI .u8) 1 y7) (tr2 := []) (by kernel_rfl) (by kernel_rfl) (.cons (Le.refl _) (.cons (Le.refl _) (.cons (Le.refl _) .nil))) (exergueref05_figures_ok hy8) (by kernel_rfl) ?_
  refine RJ.seg 1 [2, 3, 4, 5, 6, 7] (L2 := [(2, .ptr 0 0), (3, .ptr 1 0), (4, .int .i64 0), (5, .int .i64 (maxI y1 y4)), (6, .int .i64 (minI x0.E_ x1.E_)), (7, lsv (encI .u8) 1 y7)]) (H2 := [.box [.bool x0.Neg_, lsv (encI .u8) 1 x0.D_, .int .i64 x0.E_], .box [.bool x1.Neg_, lsv (encI .u8) 1 x1.D_, .int .i64 x1.E_], .res, .res]) (by kernel_rfl) ?_
  refine RJ.end (by kernel_rfl) ?_
  refine PJ.next ?_
  refine K.seq (by kernel_rfl) ?_
  refine K.region (by kernel_rfl) ?_
  refine RJ.seg 3 [2, 3, 4, 7, 24, 25, 26] (L2 := [(2, .ptr 0 0), (3, .ptr 1 0), (4, .int .i64 0), (7, lsv (encI .u8) 1 y7), (24, .agg [.bool x1.Neg_, lsv (encI .u8) 1 x1.D_, .int .i64 x1.E_]), (25, .int .i64 (maxI y1 y4)), (26, .int .i64 (minI x0.E_ x1.E_))]) (H2 := [.box [.bool x0.Neg_, lsv (encI .u8) 1 x0.D_, .int .i64 x0.E_], .box [.bool x1.Neg_, lsv (encI .u8) 1 x1.D_, .int .i64 x1.E_], .res, .res]) (by kernel_rfl) ?_
  obtain ⟨y10, hy11, h12⟩ := bindS h9
  refine RJ.call0 (d := (some 27)) (f := 34) (args := [.agg [.bool x1.Neg_, lsv (encI .u8) 1 x1.D_, .int .i64 x1.E_], .int .i64 (maxI y1 y4), .int .i64 (minI x0.E_ x1.E_)]) (v := lsv (encI .u8) 1 y10) (tr2 := []) (by kernel_rfl) (by kernel_rfl) (.cons (Le.refl _) (.cons (Le.refl _) (.cons (Le.refl _) .nil))) (exergueref05_figures_ok hy11) (by kernel_rfl) ?_
  refine RJ.seg 1 [2, 3, 4, 7, 8] (L2 := [(2, .ptr 0 0), (3, .ptr 1 0), (4, .int .i64 0), (7, lsv (encI .u8) 1 y7), (8, lsv (encI .u8) 1 y10)]) (H2 := [.box [.bool x0.Neg_, lsv (encI .u8) 1 x0.D_, .int .i64 x0.E_], .box [.bool x1.Neg_, lsv (encI .u8) 1 x1.D_, .int .i64 x1.E_], .res, .res]) (by kernel_rfl) ?_
  refine RJ.end (by kernel_rfl) ?_
  refine PJ.next ?_
  obtain ⟨y29, hy30, h31⟩ := bindS h12
  refine K.cutX (by kernel_rfl) (fun (s28 : Unit) => ([(2, .ptr 0 0), (3, .ptr 1 0), (4, .int .i64 0), (7, lsv (encI .u8) 1 y7), (8, lsv (encI .u8) 1 y10)], [.box [.bool x0.Neg_, lsv (encI .u8) 1 x0.D_, .int .i64 x0.E_], .box [.bool x1.Neg_, lsv (encI .u8) 1 x1.D_, .int .i64 x1.E_]])) y29 ?_ (fun s28 hs => ?_)
  · obtain ⟨s36, hy38, h40⟩ := bindS hy30
    refine K.cutN (by kernel_rfl) (fun (s36 : Bool) => ([(2, .ptr 0 0), (3, .ptr 1 0), (4, .int .i64 0), (7, lsv (encI .u8) 1 y7), (8, lsv (encI .u8) 1 y10), (37, .bool s36)], [.box [.bool x0.Neg_, lsv (encI .u8) 1 x0.D_, .int .i64 x0.E_], .box [.bool x1.Neg_, lsv (encI .u8) 1 x1.D_, .int .i64 x1.E_]])) s36 ?_ ?_
    · refine K.region (by kernel_rfl) ?_
      refine RJ.seg 5 [2, 3, 4, 7, 8, 32] (L2 := [(2, .ptr 0 0), (3, .ptr 1 0), (4, .int .i64 0), (7, lsv (encI .u8) 1 y7), (8, lsv (encI .u8) 1 y10), (32, .bool ((decide ((x0.D_.length : Int) = 0))))]) (H2 := [.box [.bool x0.Neg_, lsv (encI .u8) 1 x0.D_, .int .i64 x0.E_], .box [.bool x1.Neg_, lsv (encI .u8) 1 x1.D_, .int .i64 x1.E_], .res, .res]) (by kernel_rfl) ?_
      refine RJ.caseB 32 (b := (decide ((x0.D_.length : Int) = 0))) (by kernel_rfl) (fun hb41 => ?_) (fun hb41 => ?_)
      · have h42 := condT hb41 hy38
        refine RJ.seg 5 [2, 3, 4, 7, 8, 37] (L2 := [(2, .ptr 0 0), (3, .ptr 1 0), (4, .int .i64 0), (7, lsv (encI .u8) 1 y7), (8, lsv (encI .u8) 1 y10), (37, .bool ((decide ((x1.D_.length : Int) = 0))))]) (H2 := [.box [.bool x0.Neg_, lsv (encI .u8) 1 x0.D_, .int .i64 x0.E_], .box [.bool x1.Neg_, lsv (encI .u8) 1 x1.D_, .int .i64 x1.E_], .res, .res]) (by kernel_rfl) ?_
        refine RJ.end (by kernel_rfl) ?_
        obtain rfl := Option.some.inj h42
        refine PJ.wk (Wk.sel (L2 := [(2, .ptr 0 0), (3, .ptr 1 0), (4, .int .i64 0), (7, lsv (encI .u8) 1 y7), (8, lsv (encI .u8) 1 y10), (37, .bool ((decide ((x1.D_.length : Int) = 0))))]) (H2 := [.box [.bool x0.Neg_, lsv (encI .u8) 1 x0.D_, .int .i64 x0.E_], .box [.bool x1.Neg_, lsv (encI .u8) 1 x1.D_, .int .i64 x1.E_]]) 0 (by rw [hFH]; rfl) hFD [0, 1] (by kernel_rfl) (by kernel_rfl) (by decide) (by kernel_rfl) (by kernel_rfl) (by kernel_rfl) (by kernel_rfl)) ?_
        exact PJ.cutN [2, 3, 4, 7, 8, 37] (by kernel_rfl) (by kernel_rfl)
      · have h43 := condF hb41 hy38
        refine RJ.seg 5 [2, 3, 4, 7, 8, 37] (L2 := [(2, .ptr 0 0), (3, .ptr 1 0), (4, .int .i64 0), (7, lsv (encI .u8) 1 y7), (8, lsv (encI .u8) 1 y10), (37, .bool false)]) (H2 := [.box [.bool x0.Neg_, lsv (encI .u8) 1 x0.D_, .int .i64 x0.E_], .box [.bool x1.Neg_, lsv (encI .u8) 1 x1.D_, .int .i64 x1.E_], .res, .res]) (by kernel_rfl) ?_
        refine RJ.end (by kernel_rfl) ?_
        obtain rfl := Option.some.inj h43
        refine PJ.wk (Wk.sel (L2 := [(2, .ptr 0 0), (3, .ptr 1 0), (4, .int .i64 0), (7, lsv (encI .u8) 1 y7), (8, lsv (encI .u8) 1 y10), (37, .bool false)]) (H2 := [.box [.bool x0.Neg_, lsv (encI .u8) 1 x0.D_, .int .i64 x0.E_], .box [.bool x1.Neg_, lsv (encI .u8) 1 x1.D_, .int .i64 x1.E_]]) 0 (by rw [hFH]; rfl) hFD [0, 1] (by kernel_rfl) (by kernel_rfl) (by decide) (by kernel_rfl) (by kernel_rfl) (by kernel_rfl) (by kernel_rfl)) ?_
        exact PJ.cutN [2, 3, 4, 7, 8, 37] (by kernel_rfl) (by kernel_rfl)
    · refine J.caseB 37 (b := s36) (by kernel_rfl) (fun hb44 => ?_) (fun hb44 => ?_)
      · have h45 := condT hb44 h40
        refine K.condT (by kernel_rfl) ?_
        refine K.seq (by kernel_rfl) ?_
        refine K.region (by kernel_rfl) ?_
        refine RJ.seg 1 [2, 3, 4, 7, 8] (L2 := [(2, .ptr 0 0), (3, .ptr 1 0), (4, .int .i64 0), (7, lsv (encI .u8) 1 y7), (8, lsv (encI .u8) 1 y10)]) (H2 := [.box [.bool x0.Neg_, lsv (encI .u8) 1 x0.D_, .int .i64 x0.E_], .box [.bool x1.Neg_, lsv (encI .u8) 1 x1.D_, .int .i64 x1.E_]]) (by kernel_rfl) ?_
        refine RJ.end (by kernel_rfl) ?_
        refine PJ.next ?_
        refine K.ret (by kernel_rfl) ?_
        obtain rfl := Option.some.inj h45
        have h47 := joinX_inr h31
        refine PJ.cutXr (fun e => nomatch e) ?_
        obtain rfl := Option.some.inj h47
        exact K.ret0 (.inr rfl) hFn hFH hFD (by kernel_rfl) (by kernel_rfl) (by kernel_rfl)
      · have h46 := condF hb44 h40
        refine K.condF (by kernel_rfl) ?_
        refine K.skip (by kernel_rfl) ?_
        obtain rfl := Option.some.inj h46
        exact PJ.cutXl [2, 3, 4, 7, 8] (by kernel_rfl) (by kernel_rfl)
  · subst hs
    have h32 := joinX_inl h31
    refine K.seq (by kernel_rfl) ?_
    refine K.seq (by kernel_rfl) ?_
    refine K.region (by kernel_rfl) ?_
    refine RJ.seg 5 [2, 4, 7, 8, 42] (L2 := [(2, .ptr 0 0), (4, .int .i64 0), (7, lsv (encI .u8) 1 y7), (8, lsv (encI .u8) 1 y10), (42, .bool (x0.Neg_ != x1.Neg_))]) (H2 := [.box [.bool x0.Neg_, lsv (encI .u8) 1 x0.D_, .int .i64 x0.E_], .box [.bool x1.Neg_, lsv (encI .u8) 1 x1.D_, .int .i64 x1.E_]]) (by kernel_rfl) ?_
    refine RJ.end (by kernel_rfl) ?_
    refine PJ.next ?_
    refine J.caseB 42 (b := (x0.Neg_ != x1.Neg_)) (by kernel_rfl) (fun hb48 => ?_) (fun hb48 => ?_)
    · have h49 := condT hb48 h32
      refine K.condT (by kernel_rfl) ?_
      refine K.seq (by kernel_rfl) ?_
      refine K.seq (by kernel_rfl) ?_
      refine K.region (by kernel_rfl) ?_
      refine RJ.seg 2 [2, 4, 7, 8, 44] (L2 := [(2, .ptr 0 0), (4, .int .i64 0), (7, lsv (encI .u8) 1 y7), (8, lsv (encI .u8) 1 y10), (44, .bool x0.Neg_)]) (H2 := [.box [.bool x0.Neg_, lsv (encI .u8) 1 x0.D_, .int .i64 x0.E_], .box [.bool x1.Neg_, lsv (encI .u8) 1 x1.D_, .int .i64 x1.E_]]) (by kernel_rfl) ?_
      refine RJ.end (by kernel_rfl) ?_
      refine PJ.next ?_
      refine J.caseB 44 (b := x0.Neg_) (by kernel_rfl) (fun hb51 => ?_) (fun hb51 => ?_)
      · have h52 := condT hb51 h49
        refine K.condT (by kernel_rfl) ?_
        refine K.seq (by kernel_rfl) ?_
        refine K.region (by kernel_rfl) ?_
        refine RJ.seg 1 [2, 4, 7, 8] (L2 := [(2, .ptr 0 0), (4, .int .i64 (-1)), (7, lsv (encI .u8) 1 y7), (8, lsv (encI .u8) 1 y10)]) (H2 := [.box [.bool x0.Neg_, lsv (encI .u8) 1 x0.D_, .int .i64 x0.E_], .box [.bool x1.Neg_, lsv (encI .u8) 1 x1.D_, .int .i64 x1.E_]]) (by kernel_rfl) ?_
        refine RJ.end (by kernel_rfl) ?_
        refine PJ.next ?_
        refine K.ret (by kernel_rfl) ?_
        refine PJ.passRet ?_
        refine PJ.passRet ?_
        obtain rfl := Option.some.inj h52
        exact K.ret0 (.inr rfl) hFn hFH hFD (by kernel_rfl) (by kernel_rfl) (by kernel_rfl)
      · have h53 := condF hb51 h49
        refine K.condF (by kernel_rfl) ?_
        refine K.skip (by kernel_rfl) ?_
        refine PJ.next ?_
        refine K.seq (by kernel_rfl) ?_
        refine K.region (by kernel_rfl) ?_
        refine RJ.seg 1 [2, 4, 7, 8] (L2 := [(2, .ptr 0 0), (4, .int .i64 1), (7, lsv (encI .u8) 1 y7), (8, lsv (encI .u8) 1 y10)]) (H2 := [.box [.bool x0.Neg_, lsv (encI .u8) 1 x0.D_, .int .i64 x0.E_], .box [.bool x1.Neg_, lsv (encI .u8) 1 x1.D_, .int .i64 x1.E_]]) (by kernel_rfl) ?_
        refine RJ.end (by kernel_rfl) ?_
        refine PJ.next ?_
        refine K.ret (by kernel_rfl) ?_
        refine PJ.passRet ?_
        obtain rfl := Option.some.inj h53
        exact K.ret0 (.inr rfl) hFn hFH hFD (by kernel_rfl) (by kernel_rfl) (by kernel_rfl)
    · have h50 := condF hb48 h32
      refine K.condF (by kernel_rfl) ?_
      refine K.skip (by kernel_rfl) ?_
      refine PJ.next ?_
      obtain ⟨y121, hy122, h123⟩ := bindS h50
      refine K.cutX (by kernel_rfl) (fun (s120 : Unit) => ([(4, .int .i64 0)], [])) y121 ?_ (fun s120 hs => ?_)
      · refine K.seq (by kernel_rfl) ?_
        refine K.region (by kernel_rfl) ?_
        refine RJ.seg 1 [2, 4, 7, 8, 9] (L2 := [(2, .ptr 0 0), (4, .int .i64 0), (7, lsv (encI .u8) 1 y7), (8, lsv (encI .u8) 1 y10), (9, .int .i64 0)]) (H2 := [.box [.bool x0.Neg_, lsv (encI .u8) 1 x0.D_, .int .i64 x0.E_], .box [.bool x1.Neg_, lsv (encI .u8) 1 x1.D_, .int .i64 x1.E_]]) (by kernel_rfl) ?_
        refine RJ.end (by kernel_rfl) ?_
        refine PJ.next ?_
        refine K.block 0 (by kernel_rfl) ?_
        refine J.wk (Wk.sel (L2 := [(2, .ptr 0 0), (4, .int .i64 0), (7, lsv (encI .u8) 1 y7), (8, lsv (encI .u8) 1 y10), (9, .int .i64 0)]) (H2 := [.box [.bool x0.Neg_, lsv (encI .u8) 1 x0.D_, .int .i64 x0.E_]]) 0 (by rw [hFH]; rfl) hFD [0] (by kernel_rfl) (by kernel_rfl) (by decide) (by kernel_rfl) (by kernel_rfl) (by kernel_rfl) (by kernel_rfl)) ?_
        refine K.loop (by kernel_rfl) (fun (s125 : Int) => ([(2, .ptr 0 0), (4, .int .i64 0), (7, lsv (encI .u8) 1 y7), (8, lsv (encI .u8) 1 y10), (9, .int .i64 s125)], [.box [.bool x0.Neg_, lsv (encI .u8) 1 x0.D_, .int .i64 x0.E_]])) hy122 [2, 4, 7, 8, 9] (by kernel_rfl) (by kernel_rfl) (fun s125 x169 hs168 => ?_)
        refine K.seq (by kernel_rfl) ?_
        refine K.seq (by kernel_rfl) ?_
        refine K.region (by kernel_rfl) ?_
        refine RJ.seg 4 [2, 4, 7, 8, 9, 48] (L2 := [(2, .ptr 0 0), (4, .int .i64 0), (7, lsv (encI .u8) 1 y7), (8, lsv (encI .u8) 1 y10), (9, .int .i64 s125), (48, .bool ((decide (s125 < (y7.length : Int)))))]) (H2 := [.box [.bool x0.Neg_, lsv (encI .u8) 1 x0.D_, .int .i64 x0.E_]]) (by kernel_rfl) ?_
        refine RJ.end (by kernel_rfl) ?_
        refine PJ.next ?_
        refine J.caseB 48 (b := (decide (s125 < (y7.length : Int)))) (by kernel_rfl) (fun hb170 => ?_) (fun hb170 => ?_)
        · have h171 := condT hb170 hs168
          refine K.condT (by kernel_rfl) ?_
          refine K.skip (by kernel_rfl) ?_
          refine PJ.next ?_
          refine K.seq (by kernel_rfl) ?_
          refine K.block 1 (by kernel_rfl) ?_
          refine K.seq (by kernel_rfl) ?_
          refine K.seq (by kernel_rfl) ?_
          refine J.keep [2, 4, 7, 8, 9] (L2 := [(2, .ptr 0 0), (4, .int .i64 0), (7, lsv (encI .u8) 1 y7), (8, lsv (encI .u8) 1 y10), (9, .int .i64 s125)]) (by kernel_rfl) ?_
          refine K.draw (by kernel_rfl) (by kernel_rfl) (by kernel_rfl) (H2 := [.box [.bool x0.Neg_, lsv (encI .u8) 1 x0.D_, .int .i64 x0.E_]]) (by kernel_rfl) (n := 1) (by kernel_rfl) ?_
          refine RJ.segD 2 (tr2 := [([], []), ([], [])]) (L2 := [(52, .int .i64 s125), (51, lsv (encI .u8) 1 y7), (2, .ptr 0 0), (4, .int .i64 0), (7, lsv (encI .u8) 1 y7), (8, lsv (encI .u8) 1 y10), (9, .int .i64 s125)]) (H2 := [.box [.bool x0.Neg_, lsv (encI .u8) 1 x0.D_, .int .i64 x0.E_]]) (by kernel_rfl) ?_
          obtain ⟨hm, h173⟩ := asrt h171
          refine RJ.rel (d := (some 53)) (ef := ⟨.ep (((y7.flatMap (encI .u8)).drop ((s125 : Int).toNat * 1)).take 1), [], []⟩) (ef' := ⟨.ep ((encI .u8) (nth y7 s125)), [], []⟩) (c := inR s125 y7.length) (tr2 := [([], []), ([], []), ([], [])]) (H2 := [.box [.bool x0.Neg_, lsv (encI .u8) 1 x0.D_, .int .i64 x0.E_]]) (by kernel_rfl) hm (fun hc => N.idx (encI_len .u8) hc) (by kernel_rfl) ?_
          refine RJ.segD 3 (tr2 := [([], []), ([], []), ([], []), ([], []), ([], []), ([], [])]) (L2 := [(56, .int .i64 s125), (55, lsv (encI .u8) 1 y10), (54, .int .u8 (nth y7 s125)), (53, .ep [.int .u8 (nth y7 s125)]), (52, .int .i64 s125), (51, lsv (encI .u8) 1 y7), (2, .ptr 0 0), (4, .int .i64 0), (7, lsv (encI .u8) 1 y7), (8, lsv (encI .u8) 1 y10), (9, .int .i64 s125)]) (H2 := [.box [.bool x0.Neg_, lsv (encI .u8) 1 x0.D_, .int .i64 x0.E_]]) (by kernel_rfl) ?_
          obtain ⟨hm, h174⟩ := asrt h173
          refine RJ.rel (d := (some 57)) (ef := ⟨.ep (((y10.flatMap (encI .u8)).drop ((s125 : Int).toNat * 1)).take 1), [], []⟩) (ef' := ⟨.ep ((encI .u8) (nth y10 s125)), [], []⟩) (c := inR s125 y10.length) (tr2 := [([], []), ([], []), ([], []), ([], []), ([], []), ([], []), ([], [])]) (H2 := [.box [.bool x0.Neg_, lsv (encI .u8) 1 x0.D_, .int .i64 x0.E_]]) (by kernel_rfl) hm (fun hc => N.idx (encI_len .u8) hc) (by kernel_rfl) ?_
          refine RJ.segD 2 (tr2 := [([], []), ([], []), ([], []), ([], []), ([], []), ([], []), ([], []), ([], []), ([], [])]) (L2 := [(59, .bool ((decide ((nth y7 s125) = (nth y10 s125))))), (58, .int .u8 (nth y10 s125)), (57, .ep [.int .u8 (nth y10 s125)]), (56, .int .i64 s125), (55, lsv (encI .u8) 1 y10), (54, .int .u8 (nth y7 s125)), (53, .ep [.int .u8 (nth y7 s125)]), (52, .int .i64 s125), (51, lsv (encI .u8) 1 y7), (2, .ptr 0 0), (4, .int .i64 0), (7, lsv (encI .u8) 1 y7), (8, lsv (encI .u8) 1 y10), (9, .int .i64 s125)]) (H2 := [.box [.bool x0.Neg_, lsv (encI .u8) 1 x0.D_, .int .i64 x0.E_]]) (by kernel_rfl) ?_
          refine RJ.end (by kernel_rfl) ?_
          refine PJ.next ?_
          refine J.caseB 59 (b := (decide ((nth y7 s125) = (nth y10 s125)))) (by kernel_rfl) (fun hb175 => ?_) (fun hb175 => ?_)
          · have h176 := condT hb175 h174
            refine K.condT (by kernel_rfl) ?_
            refine K.exit 1 (by kernel_rfl) ?_
            refine PJ.passExit ?_
            refine PJ.blockOut ?_
            refine PJ.next ?_
            refine K.region (by kernel_rfl) ?_
            refine RJ.seg 3 [2, 4, 7, 8, 9] (L2 := [(2, .ptr 0 0), (4, .int .i64 0), (7, lsv (encI .u8) 1 y7), (8, lsv (encI .u8) 1 y10), (9, .int .i64 (IntKind.wrap .i64 (s125 + 1)))]) (H2 := [.box [.bool x0.Neg_, lsv (encI .u8) 1 x0.D_, .int .i64 x0.E_]]) (by kernel_rfl) ?_
            refine RJ.end (by kernel_rfl) ?_
            obtain rfl := Option.some.inj h176
            exact PJ.loopNext [2, 4, 7, 8, 9] (by kernel_rfl) (by kernel_rfl)
          · have h177 := condF hb175 h174
            refine K.condF (by kernel_rfl) ?_
            refine K.skip (by kernel_rfl) ?_
            refine PJ.next ?_
            refine K.seq (by kernel_rfl) ?_
            refine K.seq (by kernel_rfl) ?_
            refine J.keep [2, 4, 7, 8, 9] (L2 := [(2, .ptr 0 0), (4, .int .i64 0), (7, lsv (encI .u8) 1 y7), (8, lsv (encI .u8) 1 y10), (9, .int .i64 s125)]) (by kernel_rfl) ?_
            refine K.draw (by kernel_rfl) (by kernel_rfl) (by kernel_rfl) (H2 := [.box [.bool x0.Neg_, lsv (encI .u8) 1 x0.D_, .int .i64 x0.E_]]) (by kernel_rfl) (n := 1) (by kernel_rfl) ?_
            refine RJ.segD 2 (tr2 := [([], []), ([], [])]) (L2 := [(61, .int .i64 s125), (60, lsv (encI .u8) 1 y7), (2, .ptr 0 0), (4, .int .i64 0), (7, lsv (encI .u8) 1 y7), (8, lsv (encI .u8) 1 y10), (9, .int .i64 s125)]) (H2 := [.box [.bool x0.Neg_, lsv (encI .u8) 1 x0.D_, .int .i64 x0.E_]]) (by kernel_rfl) ?_
            obtain ⟨hm, h178⟩ := asrt h177
            refine RJ.rel (d := (some 62)) (ef := ⟨.ep (((y7.flatMap (encI .u8)).drop ((s125 : Int).toNat * 1)).take 1), [], []⟩) (ef' := ⟨.ep ((encI .u8) (nth y7 s125)), [], []⟩) (c := inR s125 y7.length) (tr2 := [([], []), ([], []), ([], [])]) (H2 := [.box [.bool x0.Neg_, lsv (encI .u8) 1 x0.D_, .int .i64 x0.E_]]) (by kernel_rfl) hm (fun hc => N.idx (encI_len .u8) hc) (by kernel_rfl) ?_
            refine RJ.segD 3 (tr2 := [([], []), ([], []), ([], []), ([], []), ([], []), ([], [])]) (L2 := [(65, .int .i64 s125), (64, lsv (encI .u8) 1 y10), (63, .int .u8 (nth y7 s125)), (62, .ep [.int .u8 (nth y7 s125)]), (61, .int .i64 s125), (60, lsv (encI .u8) 1 y7), (2, .ptr 0 0), (4, .int .i64 0), (7, lsv (encI .u8) 1 y7), (8, lsv (encI .u8) 1 y10), (9, .int .i64 s125)]) (H2 := [.box [.bool x0.Neg_, lsv (encI .u8) 1 x0.D_, .int .i64 x0.E_]]) (by kernel_rfl) ?_
            obtain ⟨hm, h179⟩ := asrt h178
            refine RJ.rel (d := (some 66)) (ef := ⟨.ep (((y10.flatMap (encI .u8)).drop ((s125 : Int).toNat * 1)).take 1), [], []⟩) (ef' := ⟨.ep ((encI .u8) (nth y10 s125)), [], []⟩) (c := inR s125 y10.length) (tr2 := [([], []), ([], []), ([], []), ([], []), ([], []), ([], []), ([], [])]) (H2 := [.box [.bool x0.Neg_, lsv (encI .u8) 1 x0.D_, .int .i64 x0.E_]]) (by kernel_rfl) hm (fun hc => N.idx (encI_len .u8) hc) (by kernel_rfl) ?_
            refine RJ.segD 5 (tr2 := [([], []), ([], []), ([], []), ([], []), ([], []), ([], []), ([], []), ([], []), ([], []), ([], []), ([0, 1], []), ([], [])]) (L2 := [(71, .bool ((((decide ((nth y7 s125) < (nth y10 s125)))) != x0.Neg_))), (70, .bool x0.Neg_), (69, .ptr 0 0), (68, .bool ((decide ((nth y7 s125) < (nth y10 s125))))), (67, .int .u8 (nth y10 s125)), (66, .ep [.int .u8 (nth y10 s125)]), (65, .int .i64 s125), (64, lsv (encI .u8) 1 y10), (63, .int .u8 (nth y7 s125)), (62, .ep [.int .u8 (nth y7 s125)]), (61, .int .i64 s125), (60, lsv (encI .u8) 1 y7), (2, .ptr 0 0), (4, .int .i64 0), (7, lsv (encI .u8) 1 y7), (8, lsv (encI .u8) 1 y10), (9, .int .i64 s125)]) (H2 := [.box [.bool x0.Neg_, lsv (encI .u8) 1 x0.D_, .int .i64 x0.E_]]) (by kernel_rfl) ?_
            refine RJ.end (by kernel_rfl) ?_
            refine PJ.next ?_
            refine J.caseB 71 (b := (((decide ((nth y7 s125) < (nth y10 s125)))) != x0.Neg_)) (by kernel_rfl) (fun hb180 => ?_) (fun hb180 => ?_)
            · have h181 := condT hb180 h179
              refine K.condT (by kernel_rfl) ?_
              refine K.seq (by kernel_rfl) ?_
              refine K.region (by kernel_rfl) ?_
              refine RJ.seg 1 [2, 4, 7, 8, 9] (L2 := [(2, .ptr 0 0), (4, .int .i64 (-1)), (7, lsv (encI .u8) 1 y7), (8, lsv (encI .u8) 1 y10), (9, .int .i64 s125)]) (H2 := [.box [.bool x0.Neg_, lsv (encI .u8) 1 x0.D_, .int .i64 x0.E_]]) (by kernel_rfl) ?_
              refine RJ.end (by kernel_rfl) ?_
              refine PJ.next ?_
              refine K.ret (by kernel_rfl) ?_
              refine PJ.passRet ?_
              refine PJ.blockRet ?_
              refine PJ.passRet ?_
              obtain rfl := Option.some.inj h181
              refine PJ.loopOut (fun e => nomatch e) (fun he185 => ?_)
              have h183 := congrArg some he185
              refine PJ.blockRet ?_
              obtain rfl := Option.some.inj h183
              have h184 := joinX_inr h123
              refine PJ.cutXr (fun e => nomatch e) ?_
              obtain rfl := Option.some.inj h184
              exact K.ret0 (.inr rfl) hFn hFH hFD (by kernel_rfl) (by kernel_rfl) (by kernel_rfl)
            · have h182 := condF hb180 h179
              refine K.condF (by kernel_rfl) ?_
              refine K.skip (by kernel_rfl) ?_
              refine PJ.next ?_
              refine K.seq (by kernel_rfl) ?_
              refine K.region (by kernel_rfl) ?_
              refine RJ.seg 1 [2, 4, 7, 8, 9] (L2 := [(2, .ptr 0 0), (4, .int .i64 1), (7, lsv (encI .u8) 1 y7), (8, lsv (encI .u8) 1 y10), (9, .int .i64 s125)]) (H2 := [.box [.bool x0.Neg_, lsv (encI .u8) 1 x0.D_, .int .i64 x0.E_]]) (by kernel_rfl) ?_
              refine RJ.end (by kernel_rfl) ?_
              refine PJ.next ?_
              refine K.ret (by kernel_rfl) ?_
              refine PJ.blockRet ?_
              refine PJ.passRet ?_
              obtain rfl := Option.some.inj h182
              refine PJ.loopOut (fun e => nomatch e) (fun he188 => ?_)
              have h186 := congrArg some he188
              refine PJ.blockRet ?_
              obtain rfl := Option.some.inj h186
              have h187 := joinX_inr h123
              refine PJ.cutXr (fun e => nomatch e) ?_
              obtain rfl := Option.some.inj h187
              exact K.ret0 (.inr rfl) hFn hFH hFD (by kernel_rfl) (by kernel_rfl) (by kernel_rfl)
        · have h172 := condF hb170 hs168
          refine K.condF (by kernel_rfl) ?_
          refine K.exit 0 (by kernel_rfl) ?_
          refine PJ.passExit ?_
          obtain rfl := Option.some.inj h172
          refine PJ.loopOut (fun e => nomatch e) (fun he190 => ?_)
          have h189 := congrArg some he190
          refine PJ.blockOut ?_
          obtain rfl := Option.some.inj h189
          refine PJ.wk (Wk.sel (L2 := [(4, .int .i64 0)]) (H2 := []) 0 (by rw [hFH]; rfl) hFD [] (by kernel_rfl) (by kernel_rfl) (by decide) (by kernel_rfl) (by kernel_rfl) (by kernel_rfl) (by kernel_rfl)) ?_
          exact PJ.cutXl [4] (by kernel_rfl) (by kernel_rfl)
      · subst hs
        have h124 := joinX_inl h123
        refine K.seq (by kernel_rfl) ?_
        refine K.region (by kernel_rfl) ?_
        refine RJ.seg 1 [4] (L2 := [(4, .int .i64 0)]) (H2 := []) (by kernel_rfl) ?_
        refine RJ.end (by kernel_rfl) ?_
        refine PJ.next ?_
        refine K.ret (by kernel_rfl) ?_
        obtain rfl := Option.some.inj h124
        exact K.ret0 (.inr rfl) hFn hFH hFD (by kernel_rfl) (by kernel_rfl) (by kernel_rfl)

def exerguelaw06_RoundBetween (x0 : St37) : Option (Bool) :=
  (Option.bind exerguelaw06_shown fun y1 => (Option.bind (exerguelaw06_near x0.D_ x0.K_ x0.Place_ x0.Mode_) fun y4 => (bif (!y4) then (some y1) else (Option.bind (round_Inc x0.D_ x0.K_ x0.Place_ 3) fun y10 => (Option.bind (round_Inc x0.D_ x0.K_ x0.Place_ 2) fun y13 => (Option.bind (round_Inc x0.D_ x0.K_ x0.Place_ x0.Mode_) fun y16 => (Option.bind (round_Inc x0.D_ x0.K_ x0.Place_ 0) fun y19 => (Option.bind (round_Inc x0.D_ x0.K_ x0.Place_ 1) fun y22 => (Option.bind (Option.bind (Option.bind (exergueref05_Cmp y10.1 x0.D_) fun y107 => (bif (decide (y107 > 0)) then (some true) else (Option.bind (exergueref05_Cmp x0.D_ y13.1) fun y113 => (bif (decide (y113 > 0)) then (some true) else (Option.bind (exergueref05_Cmp y16.1 y10.1) fun y119 => (bif (decide (¬ y119 = 0)) then (Option.bind (exergueref05_Cmp y16.1 y13.1) fun y125 => (some (decide (¬ y125 = 0)))) else (some false))))))) fun (s102 : Bool) => (bif s102 then (some (.inr false)) else (some (.inl ())))) (joinX fun (s76 : Unit) => (bif x0.D_.Neg_ then (Option.bind (bif y1 then (Option.bind (exergueref05_Cmp y19.1 y10.1) fun y155 => (bif (decide (y155 = 0)) then (Option.bind (exergueref05_Cmp y22.1 y13.1) fun y161 => (some (decide (y161 = 0)))) else (some false))) else (some false)) fun (s147 : Bool) => (some s147)) else (Option.bind (bif y1 then (Option.bind (exergueref05_Cmp y19.1 y13.1) fun y184 => (bif (decide (y184 = 0)) then (Option.bind (exergueref05_Cmp y22.1 y10.1) fun y190 => (some (decide (y190 = 0)))) else (some false))) else (some false)) fun (s176 : Bool) => (some s176)))))))))))))
theorem exerguelaw06_RoundBetween_ok {x0 : St37} {r : Bool} (h : exerguelaw06_RoundBetween x0 = some r) : SC Try.prog 4 [.agg [.bool x0.D_.Neg_, lsv (encI .u8) 1 x0.D_.D_, .int .i64 x0.D_.E_, .int .i64 x0.K_, .int .i64 x0.Place_, .int .i64 x0.Mode_]] [] (.bool r) [] := by
  refine K.fn (fn := Try.f4) (by kernel_rfl) (by kernel_rfl) (by kernel_rfl) (by kernel_rfl) (by kernel_rfl) (fun F hFn hFH hFD => ?_)
  unfold exerguelaw06_RoundBetween at h
  refine K.seq (by kernel_rfl) ?_
  refine K.region (by kernel_rfl) ?_
  refine RJ.seg 2 [1, 2] (L2 := [(1, .ptr 0 0), (2, .bool false)]) (H2 := [.box [.bool x0.D_.Neg_, lsv (encI .u8) 1 x0.D_.D_, .int .i64 x0.D_.E_, .int .i64 x0.K_, .int .i64 x0.Place_, .int .i64 x0.Mode_]]) (by kernel_rfl) ?_
  refine RJ.end (by kernel_rfl) ?_
  refine PJ.next ?_
  refine K.seq (by kernel_rfl) ?_
  refine K.region (by kernel_rfl) ?_
  refine RJ.seg 4 [1, 2, 3] (L2 := [(1, .ptr 0 0), (2, .bool false), (3, .ptr 1 0)]) (H2 := [.box [.bool x0.D_.Neg_, lsv (encI .u8) 1 x0.D_.D_, .int .i64 x0.D_.E_, .int .i64 x0.K_, .int .i64 x0.Place_, .int .i64 x0.Mode_], .box [.bool x0.D_.Neg_, lsv (encI .u8) 1 x0.D_.D_, .int .i64 x0.D_.E_]]) (by kernel_rfl) ?_
  refine RJ.end (by kernel_rfl) ?_
  refine PJ.next ?_
  refine K.seq (by kernel_rfl) ?_
  refine K.region (by kernel_rfl) ?_
  refine RJ.seg 3 [1, 2, 3, 4] (L2 := [(1, .ptr 0 0), (2, .bool false), (3, .ptr 1 0), (4, .int .i64 x0.K_)]) (H2 := [.box [.bool x0.D_.Neg_, lsv (encI .u8) 1 x0.D_.D_, .int .i64 x0.D_.E_, .int .i64 x0.K_, .int .i64 x0.Place_, .int .i64 x0.Mode_], .box [.bool x0.D_.Neg_, lsv (encI .u8) 1 x0.D_.D_, .int .i64 x0.D_.E_]]) (by kernel_rfl) ?_
  refine RJ.end (by kernel_rfl) ?_
  refine PJ.next ?_
  refine K.seq (by kernel_rfl) ?_
  refine K.region (by kernel_rfl) ?_
  refine RJ.seg 3 [1, 2, 3, 4, 5] (L2 := [(1, .ptr 0 0), (2, .bool false), (3, .ptr 1 0), (4, .int .i64 x0.K_), (5, .int .i64 x0.Place_)]) (H2 := [.box [.bool x0.D_.Neg_, lsv (encI .u8) 1 x0.D_.D_, .int .i64 x0.D_.E_, .int .i64 x0.K_, .int .i64 x0.Place_, .int .i64 x0.Mode_], .box [.bool x0.D_.Neg_, lsv (encI .u8) 1 x0.D_.D_, .int .i64 x0.D_.E_]]) (by kernel_rfl) ?_
  refine RJ.end (by kernel_rfl) ?_
  refine PJ.next ?_
  refine K.seq (by kernel_rfl) ?_
  refine K.region (by kernel_rfl) ?_
  refine RJ.seg 3 [2, 3, 4, 5, 6] (L2 := [(2, .bool false), (3, .ptr 1 0), (4, .int .i64 x0.K_), (5, .int .i64 x0.Place_), (6, .int .i64 x0.Mode_)]) (H2 := [.box [.bool x0.D_.Neg_, lsv (encI .u8) 1 x0.D_.D_, .int .i64 x0.D_.E_, .int .i64 x0.K_, .int .i64 x0.Place_, .int .i64 x0.Mode_], .box [.bool x0.D_.Neg_, lsv (encI .u8) 1 x0.D_.D_, .int .i64 x0.D_.E_]]) (by kernel_rfl) ?_
  refine RJ.end (by kernel_rfl) ?_
  refine PJ.next ?_
  refine K.seq (by kernel_rfl) ?_
  refine K.region (by kernel_rfl) ?_
  obtain ⟨y1, hy2, h3⟩ := bindS h
  refine RJ.call0 (d := (some 26)) (f := 9) (args := []) (v := .bool y1) (tr2 := []) (by kernel_rfl) (by kernel_rfl) .nil (exerguelaw06_shown_ok hy2) (by kernel_rfl) ?_
  refine RJ.seg 1 [2, 3, 4, 5, 6, 7] (L2 := [(2, .bool false), (3, .ptr 1 0), (4, .int .i64 x0.K_), (5, .int .i64 x0.Place_), (6, .int .i64 x0.Mode_), (7, .bool y1)]) (H2 := [.box [.bool x0.D_.Neg_, lsv (encI .u8) 1 x0.D_.D_, .int .i64 x0.D_.E_, .int .i64 x0.K_, .int .i64 x0.Place_, .int .i64 x0.Mode_], .box [.bool x0.D_.Neg_, lsv (encI .u8) 1 x0.D_.D_, .int .i64 x0.D_.E_]]) (by kernel_rfl) ?_
  refine RJ.end (by kernel_rfl) ?_
  refine PJ.next ?_
  refine K.seq (by kernel_rfl) ?_
  refine K.seq (by kernel_rfl) ?_
  refine K.region (by kernel_rfl) ?_
  refine RJ.seg 4 [2, 3, 4, 5, 6, 7, 27, 28, 29, 30] (L2 := [(2, .bool false), (3, .ptr 1 0), (4, .int .i64 x0.K_), (5, .int .i64 x0.Place_), (6, .int .i64 x0.Mode_), (7, .bool y1), (27, .agg [.bool x0.D_.Neg_, lsv (encI .u8) 1 x0.D_.D_, .int .i64 x0.D_.E_]), (28, .int .i64 x0.K_), (29, .int .i64 x0.Place_), (30, .int .i64 x0.Mode_)]) (H2 := [.box [.bool x0.D_.Neg_, lsv (encI .u8) 1 x0.D_.D_, .int .i64 x0.D_.E_, .int .i64 x0.K_, .int .i64 x0.Place_, .int .i64 x0.Mode_], .box [.bool x0.D_.Neg_, lsv (encI .u8) 1 x0.D_.D_, .int .i64 x0.D_.E_]]) (by kernel_rfl) ?_
  obtain ⟨y4, hy5, h6⟩ := bindS h3
  refine RJ.call0 (d := (some 31)) (f := 10) (args := [.agg [.bool x0.D_.Neg_, lsv (encI .u8) 1 x0.D_.D_, .int .i64 x0.D_.E_], .int .i64 x0.K_, .int .i64 x0.Place_, .int .i64 x0.Mode_]) (v := .bool y4) (tr2 := []) (by kernel_rfl) (by kernel_rfl) (.cons (Le.refl _) (.cons (Le.refl _) (.cons (Le.refl _) (.cons (Le.refl _) .nil)))) (exerguelaw06_near_ok hy5) (by kernel_rfl) ?_
  refine RJ.seg 1 [2, 3, 4, 5, 6, 7, 32] (L2 := [(2, .bool false), (3, .ptr 1 0), (4, .int .i64 x0.K_), (5, .int .i64 x0.Place_), (6, .int .i64 x0.Mode_), (7, .bool y1), (32, .bool (!y4))]) (H2 := [.box [.bool x0.D_.Neg_, lsv (encI .u8) 1 x0.D_.D_, .int .i64 x0.D_.E_, .int .i64 x0.K_, .int .i64 x0.Place_, .int .i64 x0.Mode_], .box [.bool x0.D_.Neg_, lsv (encI .u8) 1 x0.D_.D_, .int .i64 x0.D_.E_]]) (by kernel_rfl) ?_
  refine RJ.end (by kernel_rfl) ?_
  refine PJ.next ?_
  refine J.caseB 32 (b := (!y4)) (by kernel_rfl) (fun hb7 => ?_) (fun hb7 => ?_)
  · have h8 := condT hb7 h6
    refine K.condT (by kernel_rfl) ?_
    refine K.seq (by kernel_rfl) ?_
    refine K.region (by kernel_rfl) ?_
    refine RJ.seg 2 [2, 3, 4, 5, 6, 7] (L2 := [(2, .bool y1), (3, .ptr 1 0), (4, .int .i64 x0.K_), (5, .int .i64 x0.Place_), (6, .int .i64 x0.Mode_), (7, .bool y1)]) (H2 := [.box [.bool x0.D_.Neg_, lsv (encI .u8) 1 x0.D_.D_, .int .i64 x0.D_.E_, .int .i64 x0.K_, .int .i64 x0.Place_, .int .i64 x0.Mode_], .box [.bool x0.D_.Neg_, lsv (encI .u8) 1 x0.D_.D_, .int .i64 x0.D_.E_]]) (by kernel_rfl) ?_
    refine RJ.end (by kernel_rfl) ?_
    refine PJ.next ?_
    refine K.ret (by kernel_rfl) ?_
    refine PJ.passRet ?_
    obtain rfl := Option.some.inj h8
    exact K.ret0 (.inr rfl) hFn hFH hFD (by kernel_rfl) (by kernel_rfl) (by kernel_rfl)
  · have h9 := condF hb7 h6
    refine K.condF (by kernel_rfl) ?_
    refine K.skip (by kernel_rfl) ?_
    refine PJ.next ?_
    refine K.seq (by kernel_rfl) ?_
    refine K.region (by kernel_rfl) ?_
    refine RJ.seg 3 [2, 3, 4, 5, 6, 7, 35, 36, 37] (L2 := [(2, .bool false), (3, .ptr 1 0), (4, .int .i64 x0.K_), (5, .int .i64 x0.Place_), (6, .int .i64 x0.Mode_), (7, .bool y1), (35, .agg [.bool x0.D_.Neg_, lsv (encI .u8) 1 x0.D_.D_, .int .i64 x0.D_.E_]), (36, .int .i64 x0.K_), (37, .int .i64 x0.Place_)]) (H2 := [.box [.bool x0.D_.Neg_, lsv (encI .u8) 1 x0.D_.D_, .int .i64 x0.D_.E_, .int .i64 x0.K_, .int .i64 x0.Place_, .int .i64 x0.Mode_], .box [.bool x0.D_.Neg_, lsv (encI .u8) 1 x0.D_.D_, .int .i64 x0.D_.E_]]) (by kernel_rfl) ?_
    obtain ⟨y10, hy11, h12⟩ := bindS h9
    refine RJ.call0 (d := (some 38)) (f := 12) (args := [.agg [.bool x0.D_.Neg_, lsv (encI .u8) 1 x0.D_.D_, .int .i64 x0.D_.E_], .int .i64 x0.K_, .int .i64 x0.Place_, .int .i64 3]) (v := .tup [.agg [.bool y10.1.Neg_, lsv (encI .u8) 1 y10.1.D_, .int .i64 y10.1.E_], .int .i64 y10.2]) (tr2 := []) (by kernel_rfl) (by kernel_rfl) (.cons (Le.refl _) (.cons (Le.refl _) (.cons (Le.refl _) (.cons (Le.refl _) .nil)))) (round_Inc_ok hy11) (by kernel_rfl) ?_
    refine RJ.seg 6 [2, 3, 4, 5, 6, 7, 8] (L2 := [(2, .bool false), (3, .ptr 1 0), (4, .int .i64 x0.K_), (5, .int .i64 x0.Place_), (6, .int .i64 x0.Mode_), (7, .bool y1), (8, .ptr 2 0)]) (H2 := [.box [.bool x0.D_.Neg_, lsv (encI .u8) 1 x0.D_.D_, .int .i64 x0.D_.E_, .int .i64 x0.K_, .int .i64 x0.Place_, .int .i64 x0.Mode_], .box [.bool x0.D_.Neg_, lsv (encI .u8) 1 x0.D_.D_, .int .i64 x0.D_.E_], .box [.bool y10.1.Neg_, lsv (encI .u8) 1 y10.1.D_, .int .i64 y10.1.E_]]) (by kernel_rfl) ?_
    refine RJ.end (by kernel_rfl) ?_
    refine PJ.next ?_
    refine K.seq (by kernel_rfl) ?_
    refine K.region (by kernel_rfl) ?_
    refine RJ.seg 3 [2, 3, 4, 5, 6, 7, 8, 42, 43, 44] (L2 := [(2, .bool false), (3, .ptr 1 0), (4, .int .i64 x0.K_), (5, .int .i64 x0.Place_), (6, .int .i64 x0.Mode_), (7, .bool y1), (8, .ptr 2 0), (42, .agg [.bool x0.D_.Neg_, lsv (encI .u8) 1 x0.D_.D_, .int .i64 x0.D_.E_]), (43, .int .i64 x0.K_), (44, .int .i64 x0.Place_)]) (H2 := [.box [.bool x0.D_.Neg_, lsv (encI .u8) 1 x0.D_.D_, .int .i64 x0.D_.E_, .int .i64 x0.K_, .int .i64 x0.Place_, .int .i64 x0.Mode_], .box [.bool x0.D_.Neg_, lsv (encI .u8) 1 x0.D_.D_, .int .i64 x0.D_.E_], .box [.bool y10.1.Neg_, lsv (encI .u8) 1 y10.1.D_, .int .i64 y10.1.E_]]) (by kernel_rfl) ?_
    obtain ⟨y13, hy14, h15⟩ := bindS h12
    refine RJ.call0 (d := (some 45)) (f := 12) (args := [.agg [.bool x0.D_.Neg_, lsv (encI .u8) 1 x0.D_.D_, .int .i64 x0.D_.E_], .int .i64 x0.K_, .int .i64 x0.Place_, .int .i64 2]) (v := .tup [.agg [.bool y13.1.Neg_, lsv (encI .u8) 1 y13.1.D_, .int .i64 y13.1.E_], .int .i64 y13.2]) (tr2 := []) (by kernel_rfl) (by kernel_rfl) (.cons (Le.refl _) (.cons (Le.refl _) (.cons (Le.refl _) (.cons (Le.refl _) .nil)))) (round_Inc_ok hy14) (by kernel_rfl) ?_
    refine RJ.seg 6 [2, 3, 4, 5, 6, 7, 8, 10] (L2 := [(2, .bool false), (3, .ptr 1 0), (4, .int .i64 x0.K_), (5, .int .i64 x0.Place_), (6, .int .i64 x0.Mode_), (7, .bool y1), (8, .ptr 2 0), (10, .ptr 3 0)]) (H2 := [.box [.bool x0.D_.Neg_, lsv (encI .u8) 1 x0.D_.D_, .int .i64 x0.D_.E_, .int .i64 x0.K_, .int .i64 x0.Place_, .int .i64 x0.Mode_], .box [.bool x0.D_.Neg_, lsv (encI .u8) 1 x0.D_.D_, .int .i64 x0.D_.E_], .box [.bool y10.1.Neg_, lsv (encI .u8) 1 y10.1.D_, .int .i64 y10.1.E_], .box [.bool y13.1.Neg_, lsv (encI .u8) 1 y13.1.D_, .int .i64 y13.1.E_]]) (by kernel_rfl) ?_
    refine RJ.end (by kernel_rfl) ?_
    refine PJ.next ?_
    refine K.seq (by kernel_rfl) ?_
    refine K.region (by kernel_rfl) ?_
    refine RJ.seg 4 [2, 3, 4, 5, 7, 8, 10, 49, 50, 51, 52] (L2 := [(2, .bool false), (3, .ptr 1 0), (4, .int .i64 x0.K_), (5, .int .i64 x0.Place_), (7, .bool y1), (8, .ptr 2 0), (10, .ptr 3 0), (49, .agg [.bool x0.D_.Neg_, lsv (encI .u8) 1 x0.D_.D_, .int .i64 x0.D_.E_]), (50, .int .i64 x0.K_), (51, .int .i64 x0.Place_), (52, .int .i64 x0.Mode_)]) (H2 := [.box [.bool x0.D_.Neg_, lsv (encI .u8) 1 x0.D_.D_, .int .i64 x0.D_.E_, .int .i64 x0.K_, .int .i64 x0.Place_, .int .i64 x0.Mode_], .box [.bool x0.D_.Neg_, lsv (encI .u8) 1 x0.D_.D_, .int .i64 x0.D_.E_], .box [.bool y10.1.Neg_, lsv (encI .u8) 1 y10.1.D_, .int .i64 y10.1.E_], .box [.bool y13.1.Neg_, lsv (encI .u8) 1 y13.1.D_, .int .i64 y13.1.E_]]) (by kernel_rfl) ?_
    obtain ⟨y16, hy17, h18⟩ := bindS h15
    refine RJ.call0 (d := (some 53)) (f := 12) (args := [.agg [.bool x0.D_.Neg_, lsv (encI .u8) 1 x0.D_.D_, .int .i64 x0.D_.E_], .int .i64 x0.K_, .int .i64 x0.Place_, .int .i64 x0.Mode_]) (v := .tup [.agg [.bool y16.1.Neg_, lsv (encI .u8) 1 y16.1.D_, .int .i64 y16.1.E_], .int .i64 y16.2]) (tr2 := []) (by kernel_rfl) (by kernel_rfl) (.cons (Le.refl _) (.cons (Le.refl _) (.cons (Le.refl _) (.cons (Le.refl _) .nil)))) (round_Inc_ok hy17) (by kernel_rfl) ?_
    refine RJ.seg 6 [2, 3, 4, 5, 7, 8, 10, 12] (L2 := [(2, .bool false), (3, .ptr 1 0), (4, .int .i64 x0.K_), (5, .int .i64 x0.Place_), (7, .bool y1), (8, .ptr 2 0), (10, .ptr 3 0), (12, .ptr 4 0)]) (H2 := [.box [.bool x0.D_.Neg_, lsv (encI .u8) 1 x0.D_.D_, .int .i64 x0.D_.E_, .int .i64 x0.K_, .int .i64 x0.Place_, .int .i64 x0.Mode_], .box [.bool x0.D_.Neg_, lsv (encI .u8) 1 x0.D_.D_, .int .i64 x0.D_.E_], .box [.bool y10.1.Neg_, lsv (encI .u8) 1 y10.1.D_, .int .i64 y10.1.E_], .box [.bool y13.1.Neg_, lsv (encI .u8) 1 y13.1.D_, .int .i64 y13.1.E_], .box [.bool y16.1.Neg_, lsv (encI .u8) 1 y16.1.D_, .int .i64 y16.1.E_]]) (by kernel_rfl) ?_
    refine RJ.end (by kernel_rfl) ?_
    refine PJ.next ?_
    refine K.seq (by kernel_rfl) ?_
    refine K.region (by kernel_rfl) ?_
    refine RJ.seg 3 [2, 3, 4, 5, 7, 8, 10, 12, 57, 58, 59] (L2 := [(2, .bool false), (3, .ptr 1 0), (4, .int .i64 x0.K_), (5, .int .i64 x0.Place_), (7, .bool y1), (8, .ptr 2 0), (10, .ptr 3 0), (12, .ptr 4 0), (57, .agg [.bool x0.D_.Neg_, lsv (encI .u8) 1 x0.D_.D_, .int .i64 x0.D_.E_]), (58, .int .i64 x0.K_), (59, .int .i64 x0.Place_)]) (H2 := [.box [.bool x0.D_.Neg_, lsv (encI .u8) 1 x0.D_.D_, .int .i64 x0.D_.E_, .int .i64 x0.K_, .int .i64 x0.Place_, .int .i64 x0.Mode_], .box [.bool x0.D_.Neg_, lsv (encI .u8) 1 x0.D_.D_, .int .i64 x0.D_.E_], .box [.bool y10.1.Neg_, lsv (encI .u8) 1 y10.1.D_, .int .i64 y10.1.E_], .box [.bool y13.1.Neg_, lsv (encI .u8) 1 y13.1.D_, .int .i64 y13.1.E_], .box [.bool y16.1.Neg_, lsv (encI .u8) 1 y16.1.D_, .int .i64 y16.1.E_]]) (by kernel_rfl) ?_
    obtain ⟨y19, hy20, h21⟩ := bindS h18
    refine RJ.call0 (d := (some 60)) (f := 12) (args := [.agg [.bool x0.D_.Neg_, lsv (encI .u8) 1 x0.D_.D_, .int .i64 x0.D_.E_], .int .i64 x0.K_, .int .i64 x0.Place_, .int .i64 0]) (v := .tup [.agg [.bool y19.1.Neg_, lsv (encI .u8) 1 y19.1.D_, .int .i64 y19.1.E_], .int .i64 y19.2]) (tr2 := []) (by kernel_rfl) (by kernel_rfl) (.cons (Le.refl _) (.cons (Le.refl _) (.cons (Le.refl _) (.cons (Le.refl _) .nil)))) (round_Inc_ok hy20) (by kernel_rfl) ?_
    refine RJ.seg 6 [2, 3, 4, 5, 7, 8, 10, 12, 14] (L2 := [(2, .bool false), (3, .ptr 1 0), (4, .int .i64 x0.K_), (5, .int .i64 x0.Place_), (7, .bool y1), (8, .ptr 2 0), (10, .ptr 3 0), (12, .ptr 4 0), (14, .ptr 5 0)]) (H2 := [.box [.bool x0.D_.Neg_, lsv (encI .u8) 1 x0.D_.D_, .int .i64 x0.D_.E_, .int .i64 x0.K_, .int .i64 x0.Place_, .int .i64 x0.Mode_], .box [.bool x0.D_.Neg_, lsv (encI .u8) 1 x0.D_.D_, .int .i64 x0.D_.E_], .box [.bool y10.1.Neg_, lsv (encI .u8) 1 y10.1.D_, .int .i64 y10.1.E_], .box [.bool y13.1.Neg_, lsv (encI .u8) 1 y13.1.D_, .int .i64 y13.1.E_], .box [.bool y16.1.Neg_, lsv (encI .u8) 1 y16.1.D_, .int .i64 y16.1.E_], .box [.bool y19.1.Neg_, lsv (encI .u8) 1 y19.1.D_, .int .i64 y19.1.E_]]) (by kernel_rfl) ?_
    refine RJ.end (by kernel_rfl) ?_
    refine PJ.next ?_
    refine K.seq (by kernel_rfl) ?_
    refine K.region (by kernel_rfl) ?_
    refine RJ.seg 3 [2, 3, 7, 8, 10, 12, 14, 64, 65, 66] (L2 := [(2, .bool false), (3, .ptr 1 0), (7, .bool y1), (8, .ptr 2 0), (10, .ptr 3 0), (12, .ptr 4 0), (14, .ptr 5 0), (64, .agg [.bool x0.D_.Neg_, lsv (encI .u8) 1 x0.D_.D_, .int .i64 x0.D_.E_]), (65, .int .i64 x0.K_), (66, .int .i64 x0.Place_)]) (H2 := [.box [.bool x0.D_.Neg_, lsv (encI .u8) 1 x0.D_.D_, .int .i64 x0.D_.E_, .int .i64 x0.K_, .int .i64 x0.Place_, .int .i64 x0.Mode_], .box [.bool x0.D_.Neg_, lsv (encI .u8) 1 x0.D_.D_, .int .i64 x0.D_.E_], .box [.bool y10.1.Neg_, lsv (encI .u8) 1 y10.1.D_, .int .i64 y10.1.E_], .box [.bool y13.1.Neg_, lsv (encI .u8) 1 y13.1.D_, .int .i64 y13.1.E_], .box [.bool y16.1.Neg_, lsv (encI .u8) 1 y16.1.D_, .int .i64 y16.1.E_], .box [.bool y19.1.Neg_, lsv (encI .u8) 1 y19.1.D_, .int .i64 y19.1.E_]]) (by kernel_rfl) ?_
    obtain ⟨y22, hy23, h24⟩ := bindS h21
    refine RJ.call0 (d := (some 67)) (f := 12) (args := [.agg [.bool x0.D_.Neg_, lsv (encI .u8) 1 x0.D_.D_, .int .i64 x0.D_.E_], .int .i64 x0.K_, .int .i64 x0.Place_, .int .i64 1]) (v := .tup [.agg [.bool y22.1.Neg_, lsv (encI .u8) 1 y22.1.D_, .int .i64 y22.1.E_], .int .i64 y22.2]) (tr2 := []) (by kernel_rfl) (by kernel_rfl) (.cons (Le.refl _) (.cons (Le.refl _) (.cons (Le.refl _) (.cons (Le.refl _) .nil)))) (round_Inc_ok hy23) (by kernel_rfl) ?_
    refine RJ.seg 6 [2, 3, 7, 8, 10, 12, 14, 16] (L2 := [(2, .bool false), (3, .ptr 1 0), (7, .bool y1), (8, .ptr 2 0), (10, .ptr 3 0), (12, .ptr 4 0), (14, .ptr 5 0), (16, .ptr 6 0)]) (H2 := [.box [.bool x0.D_.Neg_, lsv (encI .u8) 1 x0.D_.D_, .int .i64 x0.D_.E_, .int .i64 x0.K_, .int .i64 x0.Place_, .int .i64 x0.Mode_], .box [.bool x0.D_.Neg_, lsv (encI .u8) 1 x0.D_.D_, .int .i64 x0.D_.E_], .box [.bool y10.1.Neg_, lsv (encI .u8) 1 y10.1.D_, .int .i64 y10.1.E_], .box [.bool y13.1.Neg_, lsv (encI .u8) 1 y13.1.D_, .int .i64 y13.1.E_], .box [.bool y16.1.Neg_, lsv (encI .u8) 1 y16.1.D_, .int .i64 y16.1.E_], .box [.bool y19.1.Neg_, lsv (encI .u8) 1 y19.1.D_, .int .i64 y19.1.E_], .box [.bool y22.1.Neg_, lsv (encI .u8) 1 y22.1.D_, .int .i64 y22.1.E_]]) (by kernel_rfl) ?_
    refine RJ.end (by kernel_rfl) ?_
    refine PJ.next ?_
    obtain ⟨y77, hy78, h79⟩ := bindS h24
    refine K.cutX (by kernel_rfl) (fun (s76 : Unit) => ([(2, .bool false), (3, .ptr 0 0), (7, .bool y1), (8, .ptr 1 0), (10, .ptr 2 0), (14, .ptr 3 0), (16, .ptr 4 0)], [.box [.bool x0.D_.Neg_, lsv (encI .u8) 1 x0.D_.D_, .int .i64 x0.D_.E_], .box [.bool y10.1.Neg_, lsv (encI .u8) 1 y10.1.D_, .int .i64 y10.1.E_], .box [.bool y13.1.Neg_, lsv (encI .u8) 1 y13.1.D_, .int .i64 y13.1.E_], .box [.bool y19.1.Neg_, lsv (encI .u8) 1 y19.1.D_, .int .i64 y19.1.E_], .box [.bool y22.1.Neg_, lsv (encI .u8) 1 y22.1.D_, .int .i64 y22.1.E_]])) y77 ?_ (fun s76 hs => ?_)
    · obtain ⟨s102, hy104, h106⟩ := bindS hy78
      refine K.cutN (by kernel_rfl) (fun (s102 : Bool) => ([(2, .bool false), (3, .ptr 0 0), (7, .bool y1), (8, .ptr 1 0), (10, .ptr 2 0), (14, .ptr 3 0), (16, .ptr 4 0), (91, .bool s102)], [.box [.bool x0.D_.Neg_, lsv (encI .u8) 1 x0.D_.D_, .int .i64 x0.D_.E_], .box [.bool y10.1.Neg_, lsv (encI .u8) 1 y10.1.D_, .int .i64 y10.1.E_], .box [.bool y13.1.Neg_, lsv (encI .u8) 1 y13.1.D_, .int .i64 y13.1.E_], .box [.bool y19.1.Neg_, lsv (encI .u8) 1 y19.1.D_, .int .i64 y19.1.E_], .box [.bool y22.1.Neg_, lsv (encI .u8) 1 y22.1.D_, .int .i64 y22.1.E_]])) s102 ?_ ?_
      · refine K.region (by kernel_rfl) ?_
        refine RJ.seg 2 [2, 3, 7, 8, 10, 12, 14, 16, 70, 71] (L2 := [(2, .bool false), (3, .ptr 1 0), (7, .bool y1), (8, .ptr 2 0), (10, .ptr 3 0), (12, .ptr 4 0), (14, .ptr 5 0), (16, .ptr 6 0), (70, .agg [.bool y10.1.Neg_, lsv (encI .u8) 1 y10.1.D_, .int .i64 y10.1.E_]), (71, .agg [.bool x0.D_.Neg_, lsv (encI .u8) 1 x0.D_.D_, .int .i64 x0.D_.E_])]) (H2 := [.box [.bool x0.D_.Neg_, lsv (encI .u8) 1 x0.D_.D_, .int .i64 x0.D_.E_, .int .i64 x0.K_, .int .i64 x0.Place_, .int .i64 x0.Mode_], .box [.bool x0.D_.Neg_, lsv (encI .u8) 1 x0.D_.D_, .int .i64 x0.D_.E_], .box [.bool y10.1.Neg_, lsv (encI .u8) 1 y10.1.D_, .int .i64 y10.1.E_], .box [.bool y13.1.Neg_, lsv (encI .u8) 1 y13.1.D_, .int .i64 y13.1.E_], .box [.bool y16.1.Neg_, lsv (encI .u8) 1 y16.1.D_, .int .i64 y16.1.E_], .box [.bool y19.1.Neg_, lsv (encI .u8) 1 y19.1.D_, .int .i64 y19.1.E_], .box [.bool y22.1.Neg_, lsv (encI .u8) 1 y22.1.D_, .int .i64 y22.1.E_]]) (by kernel_rfl) ?_
        obtain ⟨y107, hy108, h109⟩ := bindS hy104
        refine RJ.call0 (d := (some 72)) (f := 16) (args := [.agg [.bool y10.1.Neg_, lsv (encI .u8) 1 y10.1.D_, .int .i64 y10.1.E_], .agg [.bool x0.D_.Neg_, lsv (encI .u8) 1 x0.D_.D_, .int .i64 x0.D_.E_]]) (v := .int .i64 y107) (tr2 := []) (by kernel_rfl) (by kernel_rfl) (.cons (Le.refl _) (.cons (Le.refl _) .nil)) (exergueref05_Cmp_ok hy108) (by kernel_rfl) ?_
        refine RJ.seg 2 [2, 3, 7, 8, 10, 12, 14, 16, 74] (L2 := [(2, .bool false), (3, .ptr 1 0), (7, .bool y1), (8, .ptr 2 0), (10, .ptr 3 0), (12, .ptr 4 0), (14, .ptr 5 0), (16, .ptr 6 0), (74, .bool (decide (y107 > 0)))]) (H2 := [.box [.bool x0.D_.Neg_, lsv (encI .u8) 1 x0.D_.D_, .int .i64 x0.D_.E_, .int .i64 x0.K_, .int .i64 x0.Place_, .int .i64 x0.Mode_], .box [.bool x0.D_.Neg_, lsv (encI .u8) 1 x0.D_.D_, .int .i64 x0.D_.E_], .box [.bool y10.1.Neg_, lsv (encI .u8) 1 y10.1.D_, .int .i64 y10.1.E_], .box [.bool y13.1.Neg_, lsv (encI .u8) 1 y13.1.D_, .int .i64 y13.1.E_], .box [.bool y16.1.Neg_, lsv (encI .u8) 1 y16.1.D_, .int .i64 y16.1.E_], .box [.bool y19.1.Neg_, lsv (encI .u8) 1 y19.1.D_, .int .i64 y19.1.E_], .box [.bool y22.1.Neg_, lsv (encI .u8) 1 y22.1.D_, .int .i64 y22.1.E_]]) (by kernel_rfl) ?_
        refine RJ.caseB 74 (b := (decide (y107 > 0))) (by kernel_rfl) (fun hb110 => ?_) (fun hb110 => ?_)
        · have h111 := condT hb110 h109
          refine RJ.seg 17 [2, 3, 7, 8, 10, 14, 16, 91] (L2 := [(2, .bool false), (3, .ptr 1 0), (7, .bool y1), (8, .ptr 2 0), (10, .ptr 3 0), (14, .ptr 5 0), (16, .ptr 6 0), (91, .bool true)]) (H2 := [.box [.bool x0.D_.Neg_, lsv (encI .u8) 1 x0.D_.D_, .int .i64 x0.D_.E_, .int .i64 x0.K_, .int .i64 x0.Place_, .int .i64 x0.Mode_], .box [.bool x0.D_.Neg_, lsv (encI .u8) 1 x0.D_.D_, .int .i64 x0.D_.E_], .box [.bool y10.1.Neg_, lsv (encI .u8) 1 y10.1.D_, .int .i64 y10.1.E_], .box [.bool y13.1.Neg_, lsv (encI .u8) 1 y13.1.D_, .int .i64 y13.1.E_], .box [.bool y16.1.Neg_, lsv (encI .u8) 1 y16.1.D_, .int .i64 y16.1.E_], .box [.bool y19.1.Neg_, lsv (encI .u8) 1 y19.1.D_, .int .i64 y19.1.E_], .box [.bool y22.1.Neg_, lsv (encI .u8) 1 y22.1.D_, .int .i64 y22.1.E_]]) (by kernel_rfl) ?_
          refine RJ.end (by kernel_rfl) ?_
          obtain rfl := Option.some.inj h111
          refine PJ.wk (Wk.sel (L2 := [(2, .bool false), (3, .ptr 0 0), (7, .bool y1), (8, .ptr 1 0), (10, .ptr 2 0), (14, .ptr 3 0), (16, .ptr 4 0), (91, .bool true)]) (H2 := [.box [.bool x0.D_.Neg_, lsv (encI .u8) 1 x0.D_.D_, .int .i64 x0.D_.E_], .box [.bool y10.1.Neg_, lsv (encI .u8) 1 y10.1.D_, .int .i64 y10.1.E_], .box [.bool y13.1.Neg_, lsv (encI .u8) 1 y13.1.D_, .int .i64 y13.1.E_], .box [.bool y19.1.Neg_, lsv (encI .u8) 1 y19.1.D_, .int .i64 y19.1.E_], .box [.bool y22.1.Neg_, lsv (encI .u8) 1 y22.1.D_, .int .i64 y22.1.E_]]) 0 (by rw [hFH]; rfl) hFD [1, 2, 3, 5, 6] (by kernel_rfl) (by kernel_rfl) (by decide) (by kernel_rfl) (by kernel_rfl) (by kernel_rfl) (by kernel_rfl)) ?_
          exact PJ.cutN [2, 3, 7, 8, 10, 14, 16, 91] (by kernel_rfl) (by kernel_rfl)
        · have h112 := condF hb110 h109
          refine RJ.seg 2 [2, 3, 7, 8, 10, 12, 14, 16, 74, 75, 76] (L2 := [(2, .bool false), (3, .ptr 1 0), (7, .bool y1), (8, .ptr 2 0), (10, .ptr 3 0), (12, .ptr 4 0), (14, .ptr 5 0), (16, .ptr 6 0), (74, .bool false), (75, .agg [.bool x0.D_.Neg_, lsv (encI .u8) 1 x0.D_.D_, .int .i64 x0.D_.E_]), (76, .agg [.bool y13.1.Neg_, lsv (encI .u8) 1 y13.1.D_, .int .i64 y13.1.E_])]) (H2 := [.box [.bool x0.D_.Neg_, lsv (encI .u8) 1 x0.D_.D_, .int .i64 x0.D_.E_, .int .i64 x0.K_, .int .i64 x0.Place_, .int .i64 x0.Mode_], .box [.bool x0.D_.Neg_, lsv (encI .u8) 1 x0.D_.D_, .int .i64 x0.D_.E_], .box [.bool y10.1.Neg_, lsv (encI .u8) 1 y10.1.D_, .int .i64 y10.1.E_], .box [.bool y13.1.Neg_, lsv (encI .u8) 1 y13.1.D_, .int .i64 y13.1.E_], .box [.bool y16.1.Neg_, lsv (encI .u8) 1 y16.1.D_, .int .i64 y16.1.E_], .box [.bool y19.1.Neg_, lsv (encI .u8) 1 y19.1.D_, .int .i64 y19.1.E_], .box [.bool y22.1.Neg_, lsv (encI .u8) 1 y22.1.D_, .int .i64 y22.1.E_]]) (by kernel_rfl) ?_
          obtain ⟨y113, hy114, h115⟩ := bindS h112
          refine RJ.call0 (d := (some 77)) (f := 16) (args := [.agg [.bool x0.D_.Neg_, lsv (encI .u8) 1 x0.D_.D_, .int .i64 x0.D_.E_], .agg [.bool y13.1.Neg_, lsv (encI .u8) 1 y13.1.D_, .int .i64 y13.1.E_]]) (v := .int .i64 y113) (tr2 := []) (by kernel_rfl) (by kernel_rfl) (.cons (Le.refl _) (.cons (Le.refl _) .nil)) (exergueref05_Cmp_ok hy114) (by kernel_rfl) ?_
          refine RJ.seg 3 [2, 3, 7, 8, 10, 12, 14, 16, 80] (L2 := [(2, .bool false), (3, .ptr 1 0), (7, .bool y1), (8, .ptr 2 0), (10, .ptr 3 0), (12, .ptr 4 0), (14, .ptr 5 0), (16, .ptr 6 0), (80, .bool (decide (y113 > 0)))]) (H2 := [.box [.bool x0.D_.Neg_, lsv (encI .u8) 1 x0.D_.D_, .int .i64 x0.D_.E_, .int .i64 x0.K_, .int .i64 x0.Place_, .int .i64 x0.Mode_], .box [.bool x0.D_.Neg_, lsv (encI .u8) 1 x0.D_.D_, .int .i64 x0.D_.E_], .box [.bool y10.1.Neg_, lsv (encI .u8) 1 y10.1.D_, .int .i64 y10.1.E_], .box [.bool y13.1.Neg_, lsv (encI .u8) 1 y13.1.D_, .int .i64 y13.1.E_], .box [.bool y16.1.Neg_, lsv (encI .u8) 1 y16.1.D_, .int .i64 y16.1.E_], .box [.bool y19.1.Neg_, lsv (encI .u8) 1 y19.1.D_, .int .i64 y19.1.E_], .box [.bool y22.1.Neg_, lsv (encI .u8) 1 y22.1.D_, .int .i64 y22.1.E_]]) (by kernel_rfl) ?_
          refine RJ.caseB 80 (b := (decide (y113 > 0))) (by kernel_rfl) (fun hb116 => ?_) (fun hb116 => ?_)
          · have h117 := condT hb116 h115
            refine RJ.seg 11 [2, 3, 7, 8, 10, 14, 16, 91] (L2 := [(2, .bool false), (3, .ptr 1 0), (7, .bool y1), (8, .ptr 2 0), (10, .ptr 3 0), (14, .ptr 5 0), (16, .ptr 6 0), (91, .bool true)]) (H2 := [.box [.bool x0.D_.Neg_, lsv (encI .u8) 1 x0.D_.D_, .int .i64 x0.D_.E_, .int .i64 x0.K_, .int .i64 x0.Place_, .int .i64 x0.Mode_], .box [.bool x0.D_.Neg_, lsv (encI .u8) 1 x0.D_.D_, .int .i64 x0.D_.E_], .box [.bool y10.1.Neg_, lsv (encI .u8) 1 y10.1.D_, .int .i64 y10.1.E_], .box [.bool y13.1.Neg_, lsv (encI .u8) 1 y13.1.D_, .int .i64 y13.1.E_], .box [.bool y16.1.Neg_, lsv (encI .u8) 1 y16.1.D_, .int .i64 y16.1.E_], .box [.bool y19.1.Neg_, lsv (encI .u8) 1 y19.1.D_, .int .i64 y19.1.E_], .box [.bool y22.1.Neg_, lsv (encI .u8) 1 y22.1.D_, .int .i64 y22.1.E_]]) (by kernel_rfl) ?_
            refine RJ.end (by kernel_rfl) ?_
            obtain rfl := Option.some.inj h117
            refine PJ.wk (Wk.sel (L2 := [(2, .bool false), (3, .ptr 0 0), (7, .bool y1), (8, .ptr 1 0), (10, .ptr 2 0), (14, .ptr 3 0), (16, .ptr 4 0), (91, .bool true)]) (H2 := [.box [.bool x0.D_.Neg_, lsv (encI .u8) 1 x0.D_.D_, .int .i64 x0.D_.E_], .box [.bool y10.1.Neg_, lsv (encI .u8) 1 y10.1.D_, .int .i64 y10.1.E_], .box [.bool y13.1.Neg_, lsv (encI .u8) 1 y13.1.D_, .int .i64 y13.1.E_], .box [.bool y19.1.Neg_, lsv (encI .u8) 1 y19.1.D_, .int .i64 y19.1.E_], .box [.bool y22.1.Neg_, lsv (encI .u8) 1 y22.1.D_, .int .i64 y22.1.E_]]) 0 (by rw [hFH]; rfl) hFD [1, 2, 3, 5, 6] (by kernel_rfl) (by kernel_rfl) (by decide) (by kernel_rfl) (by kernel_rfl) (by kernel_rfl) (by kernel_rfl)) ?_
            exact PJ.cutN [2, 3, 7, 8, 10, 14, 16, 91] (by kernel_rfl) (by kernel_rfl)
          · have h118 := condF hb116 h115
            refine RJ.seg 2 [2, 3, 7, 8, 10, 12, 14, 16, 80, 81, 82] (L2 := [(2, .bool false), (3, .ptr 1 0), (7, .bool y1), (8, .ptr 2 0), (10, .ptr 3 0), (12, .ptr 4 0), (14, .ptr 5 0), (16, .ptr 6 0), (80, .bool false), (81, .agg [.bool y16.1.Neg_, lsv (encI .u8) 1 y16.1.D_, .int .i64 y16.1.E_]), (82, .agg [.bool y10.1.Neg_, lsv (encI .u8) 1 y10.1.D_, .int .i64 y10.1.E_])]) (H2 := [.box [.bool x0.D_.Neg_, lsv (encI .u8) 1 x0.D_.D_, .int .i64 x0.D_.E_, .int .i64 x0.K_, .int .i64 x0.Place_, .int .i64 x0.Mode_], .box [.bool x0.D_.Neg_, lsv (encI .u8) 1 x0.D_.D_, .int .i64 x0.D_.E_], .box [.bool y10.1.Neg_, lsv (encI .u8) 1 y10.1.D_, .int .i64 y10.1.E_], .box [.bool y13.1.Neg_, lsv (encI .u8) 1 y13.1.D_, .int .i64 y13.1.E_], .box [.bool y16.1.Neg_, lsv (encI .u8) 1 y16.1.D_, .int .i64 y16.1.E_], .box [.bool y19.1.Neg_, lsv (encI .u8) 1 y19.1.D_, .int .i64 y19.1.E_], .box [.bool y22.1.Neg_, lsv (encI .u8) 1 y22.1.D_, .int .i64 y22.1.E_]]) (by kernel_rfl) ?_
            obtain ⟨y119, hy120, h121⟩ := bindS h118
            refine RJ.call0 (d := (some 83)) (f := 16) (args := [.agg [.bool y16.1.Neg_, lsv (encI .u8) 1 y16.1.D_, .int .i64 y16.1.E_], .agg [.bool y10.1.Neg_, lsv (encI .u8) 1 y10.1.D_, .int .i64 y10.1.E_]]) (v := .int .i64 y119) (tr2 := []) (by kernel_rfl) (by kernel_rfl) (.cons (Le.refl _) (.cons (Le.refl _) .nil)) (exergueref05_Cmp_ok hy120) (by kernel_rfl) ?_
            refine RJ.seg 2 [2, 3, 7, 8, 10, 12, 14, 16, 80, 85] (L2 := [(2, .bool false), (3, .ptr 1 0), (7, .bool y1), (8, .ptr 2 0), (10, .ptr 3 0), (12, .ptr 4 0), (14, .ptr 5 0), (16, .ptr 6 0), (80, .bool false), (85, .bool (decide (¬ y119 = 0)))]) (H2 := [.box [.bool x0.D_.Neg_, lsv (encI .u8) 1 x0.D_.D_, .int .i64 x0.D_.E_, .int .i64 x0.K_, .int .i64 x0.Place_, .int .i64 x0.Mode_], .box [.bool x0.D_.Neg_, lsv (encI .u8) 1 x0.D_.D_, .int .i64 x0.D_.E_], .box [.bool y10.1.Neg_, lsv (encI .u8) 1 y10.1.D_, .int .i64 y10.1.E_], .box [.bool y13.1.Neg_, lsv (encI .u8) 1 y13.1.D_, .int .i64 y13.1.E_], .box [.bool y16.1.Neg_, lsv (encI .u8) 1 y16.1.D_, .int .i64 y16.1.E_], .box [.bool y19.1.Neg_, lsv (encI .u8) 1 y19.1.D_, .int .i64 y19.1.E_], .box [.bool y22.1.Neg_, lsv (encI .u8) 1 y22.1.D_, .int .i64 y22.1.E_]]) (by kernel_rfl) ?_
            refine RJ.caseB 85 (b := (decide (¬ y119 = 0))) (by kernel_rfl) (fun hb122 => ?_) (fun hb122 => ?_)
            · have h123 := condT hb122 h121
              refine RJ.seg 2 [2, 3, 7, 8, 10, 14, 16, 80, 85, 86, 87] (L2 := [(2, .bool false), (3, .ptr 1 0), (7, .bool y1), (8, .ptr 2 0), (10, .ptr 3 0), (14, .ptr 5 0), (16, .ptr 6 0), (80, .bool false), (85, .bool true), (86, .agg [.bool y16.1.Neg_, lsv (encI .u8) 1 y16.1.D_, .int .i64 y16.1.E_]), (87, .agg [.bool y13.1.Neg_, lsv (encI .u8) 1 y13.1.D_, .int .i64 y13.1.E_])]) (H2 := [.box [.bool x0.D_.Neg_, lsv (encI .u8) 1 x0.D_.D_, .int .i64 x0.D_.E_, .int .i64 x0.K_, .int .i64 x0.Place_, .int .i64 x0.Mode_], .box [.bool x0.D_.Neg_, lsv (encI .u8) 1 x0.D_.D_, .int .i64 x0.D_.E_], .box [.bool y10.1.Neg_, lsv (encI .u8) 1 y10.1.D_, .int .i64 y10.1.E_], .box [.bool y13.1.Neg_, lsv (encI .u8) 1 y13.1.D_, .int .i64 y13.1.E_], .box [.bool y16.1.Neg_, lsv (encI .u8) 1 y16.1.D_, .int .i64 y16.1.E_], .box [.bool y19.1.Neg_, lsv (encI .u8) 1 y19.1.D_, .int .i64 y19.1.E_], .box [.bool y22.1.Neg_, lsv (encI .u8) 1 y22.1.D_, .int .i64 y22.1.E_]]) (by kernel_rfl) ?_
              obtain ⟨y125, hy126, h127⟩ := bindS h123
              refine RJ.call0 (d := (some 88)) (f := 16) (args := [.agg [.bool y16.1.Neg_, lsv (encI .u8) 1 y16.1.D_, .int .i64 y16.1.E_], .agg [.bool y13.1.Neg_, lsv (encI .u8) 1 y13.1.D_, .int .i64 y13.1.E_]]) (v := .int .i64 y125) (tr2 := []) (by kernel_rfl) (by kernel_rfl) (.cons (Le.refl _) (.cons (Le.refl _) .nil)) (exergueref05_Cmp_ok hy126) (by kernel_rfl) ?_
              refine RJ.seg 3 [2, 3, 7, 8, 10, 14, 16, 91] (L2 := [(2, .bool false), (3, .ptr 1 0), (7, .bool y1), (8, .ptr 2 0), (10, .ptr 3 0), (14, .ptr 5 0), (16, .ptr 6 0), (91, .bool (decide (¬ y125 = 0)))]) (H2 := [.box [.bool x0.D_.Neg_, lsv (encI .u8) 1 x0.D_.D_, .int .i64 x0.D_.E_, .int .i64 x0.K_, .int .i64 x0.Place_, .int .i64 x0.Mode_], .box [.bool x0.D_.Neg_, lsv (encI .u8) 1 x0.D_.D_, .int .i64 x0.D_.E_], .box [.bool y10.1.Neg_, lsv (encI .u8) 1 y10.1.D_, .int .i64 y10.1.E_], .box [.bool y13.1.Neg_, lsv (encI .u8) 1 y13.1.D_, .int .i64 y13.1.E_], .box [.bool y16.1.Neg_, lsv (encI .u8) 1 y16.1.D_, .int .i64 y16.1.E_], .box [.bool y19.1.Neg_, lsv (encI .u8) 1 y19.1.D_, .int .i64 y19.1.E_], .box [.bool y22.1.Neg_, lsv (encI .u8) 1 y22.1.D_, .int .i64 y22.1.E_]]) (by kernel_rfl) ?_
              refine RJ.end (by kernel_rfl) ?_
              obtain rfl := Option.some.inj h127
              refine PJ.wk (Wk.sel (L2 := [(2, .bool false), (3, .ptr 0 0), (7, .bool y1), (8, .ptr 1 0), (10, .ptr 2 0), (14, .ptr 3 0), (16, .ptr 4 0), (91, .bool (decide (¬ y125 = 0)))]) (H2 := [.box [.bool x0.D_.Neg_, lsv (encI .u8) 1 x0.D_.D_, .int .i64 x0.D_.E_], .box [.bool y10.1.Neg_, lsv (encI .u8) 1 y10.1.D_, .int .i64 y10.1.E_], .box [.bool y13.1.Neg_, lsv (encI .u8) 1 y13.1.D_, .int .i64 y13.1.E_], .box [.bool y19.1.Neg_, lsv (encI .u8) 1 y19.1.D_, .int .i64 y19.1.E_], .box [.bool y22.1.Neg_, lsv (encI .u8) 1 y22.1.D_, .int .i64 y22.1.E_]]) 0 (by rw [hFH]; rfl) hFD [1, 2, 3, 5, 6] (by kernel_rfl) (by kernel_rfl) (by decide) (by kernel_rfl) (by kernel_rfl) (by kernel_rfl) (by kernel_rfl)) ?_
              exact PJ.cutN [2, 3, 7, 8, 10, 14, 16, 91] (by kernel_rfl) (by kernel_rfl)
            · have h124 := condF hb122 h121
              refine RJ.seg 6 [2, 3, 7, 8, 10, 14, 16, 91] (L2 := [(2, .bool false), (3, .ptr 1 0), (7, .bool y1), (8, .ptr 2 0), (10, .ptr 3 0), (14, .ptr 5 0), (16, .ptr 6 0), (91, .bool false)]) (H2 := [.box [.bool x0.D_.Neg_, lsv (encI .u8) 1 x0.D_.D_, .int .i64 x0.D_.E_, .int .i64 x0.K_, .int .i64 x0.Place_, .int .i64 x0.Mode_], .box [.bool x0.D_.Neg_, lsv (encI .u8) 1 x0.D_.D_, .int .i64 x0.D_.E_], .box [.bool y10.1.Neg_, lsv (encI .u8) 1 y10.1.D_, .int .i64 y10.1.E_], .box [.bool y13.1.Neg_, lsv (encI .u8) 1 y13.1.D_, .int .i64 y13.1.E_], .box [.bool y16.1.Neg_, lsv (encI .u8) 1 y16.1.D_, .int .i64 y16.1.E_], .box [.bool y19.1.Neg_, lsv (encI .u8) 1 y19.1.D_, .int .i64 y19.1.E_], .box [.bool y22.1.Neg_, lsv (encI .u8) 1 y22.1.D_, .int .i64 y22.1.E_]]) (by kernel_rfl) ?_
              refine RJ.end (by kernel_rfl) ?_
              obtain rfl := Option.some.inj h124
              refine PJ.wk (Wk.sel (L2 := [(2, .bool false), (3, .ptr 0 0), (7, .bool y1), (8, .ptr 1 0), (10, .ptr 2 0), (14, .ptr 3 0), (16, .ptr 4 0), (91, .bool false)]) (H2 := [.box [.bool x0.D_.Neg_, lsv (encI .u8) 1 x0.D_.D_, .int .i64 x0.D_.E_], .box [.bool y10.1.Neg_, lsv (encI .u8) 1 y10.1.D_, .int .i64 y10.1.E_], .box [.bool y13.1.Neg_, lsv (encI .u8) 1 y13.1.D_, .int .i64 y13.1.E_], .box [.bool y19.1.Neg_, lsv (encI .u8) 1 y19.1.D_, .int .i64 y19.1.E_], .box [.bool y22.1.Neg_, lsv (encI .u8) 1 y22.1.D_, .int .i64 y22.1.E_]]) 0 (by rw [hFH]; rfl) hFD [1, 2, 3, 5, 6] (by kernel_rfl) (by kernel_rfl) (by decide) (by kernel_rfl) (by kernel_rfl) (by kernel_rfl) (by kernel_rfl)) ?_
              exact PJ.cutN [2, 3, 7, 8, 10, 14, 16, 91] (by kernel_rfl) (by kernel_rfl)
      · refine J.caseB 91 (b := s102) (by kernel_rfl) (fun hb128 => ?_) (fun hb128 => ?_)
        · have h129 := condT hb128 h106
          refine K.condT (by kernel_rfl) ?_
          refine K.seq (by kernel_rfl) ?_
          refine K.region (by kernel_rfl) ?_
          refine RJ.seg 1 [2, 3, 7, 8, 10, 14, 16] (L2 := [(2, .bool false), (3, .ptr 0 0), (7, .bool y1), (8, .ptr 1 0), (10, .ptr 2 0), (14, .ptr 3 0), (16, .ptr 4 0)]) (H2 := [.box [.bool x0.D_.Neg_, lsv (encI .u8) 1 x0.D_.D_, .int .i64 x0.D_.E_], .box [.bool y10.1.Neg_, lsv (encI .u8) 1 y10.1.D_, .int .i64 y10.1.E_], .box [.bool y13.1.Neg_, lsv (encI .u8) 1 y13.1.D_, .int .i64 y13.1.E_], .box [.bool y19.1.Neg_, lsv (encI .u8) 1 y19.1.D_, .int .i64 y19.1.E_], .box [.bool y22.1.Neg_, lsv (encI .u8) 1 y22.1.D_, .int .i64 y22.1.E_]]) (by kernel_rfl) ?_
          refine RJ.end (by kernel_rfl) ?_
          refine PJ.next ?_
          refine K.ret (by kernel_rfl) ?_
          obtain rfl := Option.some.inj h129
          have h131 := joinX_inr h79
          refine PJ.cutXr (fun e => nomatch e) ?_
          obtain rfl := Option.some.inj h131
          exact K.ret0 (.inr rfl) hFn hFH hFD (by kernel_rfl) (by kernel_rfl) (by kernel_rfl)
        · have h130 := condF hb128 h106
          refine K.condF (by kernel_rfl) ?_
          refine K.skip (by kernel_rfl) ?_
          obtain rfl := Option.some.inj h130
          exact PJ.cutXl [2, 3, 7, 8, 10, 14, 16] (by kernel_rfl) (by kernel_rfl)
    · subst hs
      have h80 := joinX_inl h79
      refine K.seq (by kernel_rfl) ?_
      refine K.seq (by kernel_rfl) ?_
      refine K.region (by kernel_rfl) ?_
      refine RJ.seg 2 [2, 7, 8, 10, 14, 16, 93] (L2 := [(2, .bool false), (7, .bool y1), (8, .ptr 1 0), (10, .ptr 2 0), (14, .ptr 3 0), (16, .ptr 4 0), (93, .bool x0.D_.Neg_)]) (H2 := [.box [.bool x0.D_.Neg_, lsv (encI .u8) 1 x0.D_.D_, .int .i64 x0.D_.E_], .box [.bool y10.1.Neg_, lsv (encI .u8) 1 y10.1.D_, .int .i64 y10.1.E_], .box [.bool y13.1.Neg_, lsv (encI .u8) 1 y13.1.D_, .int .i64 y13.1.E_], .box [.bool y19.1.Neg_, lsv (encI .u8) 1 y19.1.D_, .int .i64 y19.1.E_], .box [.bool y22.1.Neg_, lsv (encI .u8) 1 y22.1.D_, .int .i64 y22.1.E_]]) (by kernel_rfl) ?_
      refine RJ.end (by kernel_rfl) ?_
      refine PJ.next ?_
      refine J.caseB 93 (b := x0.D_.Neg_) (by kernel_rfl) (fun hb132 => ?_) (fun hb132 => ?_)
      · have h133 := condT hb132 h80
        refine K.condT (by kernel_rfl) ?_
        obtain ⟨s147, hy149, h151⟩ := bindS h133
        refine K.cutN (by kernel_rfl) (fun (s147 : Bool) => ([(2, .bool s147), (7, .bool y1), (8, .ptr 0 0), (10, .ptr 1 0), (14, .ptr 2 0), (16, .ptr 3 0)], [.box [.bool y10.1.Neg_, lsv (encI .u8) 1 y10.1.D_, .int .i64 y10.1.E_], .box [.bool y13.1.Neg_, lsv (encI .u8) 1 y13.1.D_, .int .i64 y13.1.E_], .box [.bool y19.1.Neg_, lsv (encI .u8) 1 y19.1.D_, .int .i64 y19.1.E_], .box [.bool y22.1.Neg_, lsv (encI .u8) 1 y22.1.D_, .int .i64 y22.1.E_]])) s147 ?_ ?_
        · refine K.region (by kernel_rfl) ?_
          refine RJ.seg 2 [2, 7, 8, 10, 14, 16, 95] (L2 := [(2, .bool false), (7, .bool y1), (8, .ptr 1 0), (10, .ptr 2 0), (14, .ptr 3 0), (16, .ptr 4 0), (95, .bool y1)]) (H2 := [.box [.bool x0.D_.Neg_, lsv (encI .u8) 1 x0.D_.D_, .int .i64 x0.D_.E_], .box [.bool y10.1.Neg_, lsv (encI .u8) 1 y10.1.D_, .int .i64 y10.1.E_], .box [.bool y13.1.Neg_, lsv (encI .u8) 1 y13.1.D_, .int .i64 y13.1.E_], .box [.bool y19.1.Neg_, lsv (encI .u8) 1 y19.1.D_, .int .i64 y19.1.E_], .box [.bool y22.1.Neg_, lsv (encI .u8) 1 y22.1.D_, .int .i64 y22.1.E_]]) (by kernel_rfl) ?_
          refine RJ.caseB 95 (b := y1) (by kernel_rfl) (fun hb152 => ?_) (fun hb152 => ?_)
          · have h153 := condT hb152 hy149
            refine RJ.seg 2 [2, 7, 8, 10, 14, 16, 95, 96, 97] (L2 := [(2, .bool false), (7, .bool y1), (8, .ptr 1 0), (10, .ptr 2 0), (14, .ptr 3 0), (16, .ptr 4 0), (95, .bool true), (96, .agg [.bool y19.1.Neg_, lsv (encI .u8) 1 y19.1.D_, .int .i64 y19.1.E_]), (97, .agg [.bool y10.1.Neg_, lsv (encI .u8) 1 y10.1.D_, .int .i64 y10.1.E_])]) (H2 := [.box [.bool x0.D_.Neg_, lsv (encI .u8) 1 x0.D_.D_, .int .i64 x0.D_.E_], .box [.bool y10.1.Neg_, lsv (encI .u8) 1 y10.1.D_, .int .i64 y10.1.E_], .box [.bool y13.1.Neg_, lsv (encI .u8) 1 y13.1.D_, .int .i64 y13.1.E_], .box [.bool y19.1.Neg_, lsv (encI .u8) 1 y19.1.D_, .int .i64 y19.1.E_], .box [.bool y22.1.Neg_, lsv (encI .u8) 1 y22.1.D_, .int .i64 y22.1.E_]]) (by kernel_rfl) ?_
            obtain ⟨y155, hy156, h157⟩ := bindS h153
            refine RJ.call0 (d := (some 98)) (f := 16) (args := [.agg [.bool y19.1.Neg_, lsv (encI .u8) 1 y19.1.D_, .int .i64 y19.1.E_], .agg [.bool y10.1.Neg_, lsv (encI .u8) 1 y10.1.D_, .int .i64 y10.1.E_]]) (v := .int .i64 y155) (tr2 := []) (by kernel_rfl) (by kernel_rfl) (.cons (Le.refl _) (.cons (Le.refl _) .nil)) (exergueref05_Cmp_ok hy156) (by kernel_rfl) ?_
            refine RJ.seg 3 [2, 7, 8, 10, 14, 16, 101] (L2 := [(2, .bool false), (7, .bool y1), (8, .ptr 1 0), (10, .ptr 2 0), (14, .ptr 3 0), (16, .ptr 4 0), (101, .bool (decide (y155 = 0)))]) (H2 := [.box [.bool x0.D_.Neg_, lsv (encI .u8) 1 x0.D_.D_, .int .i64 x0.D_.E_], .box [.bool y10.1.Neg_, lsv (encI .u8) 1 y10.1.D_, .int .i64 y10.1.E_], .box [.bool y13.1.Neg_, lsv (encI .u8) 1 y13.1.D_, .int .i64 y13.1.E_], .box [.bool y19.1.Neg_, lsv (encI .u8) 1 y19.1.D_, .int .i64 y19.1.E_], .box [.bool y22.1.Neg_, lsv (encI .u8) 1 y22.1.D_, .int .i64 y22.1.E_]]) (by kernel_rfl) ?_
            refine RJ.caseB 101 (b := (decide (y155 = 0))) (by kernel_rfl) (fun hb158 => ?_) (fun hb158 => ?_)
            · have h159 := condT hb158 h157
              refine RJ.seg 2 [2, 7, 8, 10, 14, 16, 101, 102, 103] (L2 := [(2, .bool false), (7, .bool y1), (8, .ptr 1 0), (10, .ptr 2 0), (14, .ptr 3 0), (16, .ptr 4 0), (101, .bool true), (102, .agg [.bool y22.1.Neg_, lsv (encI .u8) 1 y22.1.D_, .int .i64 y22.1.E_]), (103, .agg [.bool y13.1.Neg_, lsv (encI .u8) 1 y13.1.D_, .int .i64 y13.1.E_])]) (H2 := [.box [.bool x0.D_.Neg_, lsv (encI .u8) 1 x0.D_.D_, .int .i64 x0.D_.E_], .box [.bool y10.1.Neg_, lsv (encI .u8) 1 y10.1.D_, .int .i64 y10.1.E_], .box [.bool y13.1.Neg_, lsv (encI .u8) 1 y13.1.D_, .int .i64 y13.1.E_], .box [.bool y19.1.Neg_, lsv (encI .u8) 1 y19.1.D_, .int .i64 y19.1.E_], .box [.bool y22.1.Neg_, lsv (encI .u8) 1 y22.1.D_, .int .i64 y22.1.E_]]) (by kernel_rfl) ?_
              obtain ⟨y161, hy162, h163⟩ := bindS h159
              refine RJ.call0 (d := (some 104)) (f := 16) (args := [.agg [.bool y22.1.Neg_, lsv (encI .u8) 1 y22.1.D_, .int .i64 y22.1.E_], .agg [.bool y13.1.Neg_, lsv (encI .u8) 1 y13.1.D_, .int .i64 y13.1.E_]]) (v := .int .i64 y161) (tr2 := []) (by kernel_rfl) (by kernel_rfl) (.cons (Le.refl _) (.cons (Le.refl _) .nil)) (exergueref05_Cmp_ok hy162) (by kernel_rfl) ?_
              refine RJ.seg 3 [2, 7, 8, 10, 14, 16] (L2 := [(2, .bool (decide (y161 = 0))), (7, .bool y1), (8, .ptr 1 0), (10, .ptr 2 0), (14, .ptr 3 0), (16, .ptr 4 0)]) (H2 := [.box [.bool x0.D_.Neg_, lsv (encI .u8) 1 x0.D_.D_, .int .i64 x0.D_.E_], .box [.bool y10.1.Neg_, lsv (encI .u8) 1 y10.1.D_, .int .i64 y10.1.E_], .box [.bool y13.1.Neg_, lsv (encI .u8) 1 y13.1.D_, .int .i64 y13.1.E_], .box [.bool y19.1.Neg_, lsv (encI .u8) 1 y19.1.D_, .int .i64 y19.1.E_], .box [.bool y22.1.Neg_, lsv (encI .u8) 1 y22.1.D_, .int .i64 y22.1.E_]]) (by kernel_rfl) ?_
              refine RJ.end (by kernel_rfl) ?_
              obtain rfl := Option.some.inj h163
              refine PJ.wk (Wk.sel (L2 := [(2, .bool (decide (y161 = 0))), (7, .bool y1), (8, .ptr 0 0), (10, .ptr 1 0), (14, .ptr 2 0), (16, .ptr 3 0)]) (H2 := [.box [.bool y10.1.Neg_, lsv (encI .u8) 1 y10.1.D_, .int .i64 y10.1.E_], .box [.bool y13.1.Neg_, lsv (encI .u8) 1 y13.1.D_, .int .i64 y13.1.E_], .box [.bool y19.1.Neg_, lsv (encI .u8) 1 y19.1.D_, .int .i64 y19.1.E_], .box [.bool y22.1.Neg_, lsv (encI .u8) 1 y22.1.D_, .int .i64 y22.1.E_]]) 0 (by rw [hFH]; rfl) hFD [1, 2, 3, 4] (by kernel_rfl) (by kernel_rfl) (by decide) (by kernel_rfl) (by kernel_rfl) (by kernel_rfl) (by kernel_rfl)) ?_
              exact PJ.cutN [2, 7, 8, 10, 14, 16] (by kernel_rfl) (by kernel_rfl)
            · have h160 := condF hb158 h157
              refine RJ.seg 6 [2, 7, 8, 10, 14, 16] (L2 := [(2, .bool false), (7, .bool y1), (8, .ptr 1 0), (10, .ptr 2 0), (14, .ptr 3 0), (16, .ptr 4 0)]) (H2 := [.box [.bool x0.D_.Neg_, lsv (encI .u8) 1 x0.D_.D_, .int .i64 x0.D_.E_], .box [.bool y10.1.Neg_, lsv (encI .u8) 1 y10.1.D_, .int .i64 y10.1.E_], .box [.bool y13.1.Neg_, lsv (encI .u8) 1 y13.1.D_, .int .i64 y13.1.E_], .box [.bool y19.1.Neg_, lsv (encI .u8) 1 y19.1.D_, .int .i64 y19.1.E_], .box [.bool y22.1.Neg_, lsv (encI .u8) 1 y22.1.D_, .int .i64 y22.1.E_]]) (by kernel_rfl) ?_
              refine RJ.end (by kernel_rfl) ?_
              obtain rfl := Option.some.inj h160
              refine PJ.wk (Wk.sel (L2 := [(2, .bool false), (7, .bool y1), (8, .ptr 0 0), (10, .ptr 1 0), (14, .ptr 2 0), (16, .ptr 3 0)]) (H2 := [.box [.bool y10.1.Neg_, lsv (encI .u8) 1 y10.1.D_, .int .i64 y10.1.E_], .box [.bool y13.1.Neg_, lsv (encI .u8) 1 y13.1.D_, .int .i64 y13.1.E_], .box [.bool y19.1.Neg_, lsv (encI .u8) 1 y19.1.D_, .int .i64 y19.1.E_], .box [.bool y22.1.Neg_, lsv (encI .u8) 1 y22.1.D_, .int .i64 y22.1.E_]]) 0 (by rw [hFH]; rfl) hFD [1, 2, 3, 4] (by kernel_rfl) (by kernel_rfl) (by decide) (by kernel_rfl) (by kernel_rfl) (by kernel_rfl) (by kernel_rfl)) ?_
              exact PJ.cutN [2, 7, 8, 10, 14, 16] (by kernel_rfl) (by kernel_rfl)
          · have h154 := condF hb152 hy149
            refine RJ.seg 12 [2, 7, 8, 10, 14, 16] (L2 := [(2, .bool false), (7, .bool y1), (8, .ptr 1 0), (10, .ptr 2 0), (14, .ptr 3 0), (16, .ptr 4 0)]) (H2 := [.box [.bool x0.D_.Neg_, lsv (encI .u8) 1 x0.D_.D_, .int .i64 x0.D_.E_], .box [.bool y10.1.Neg_, lsv (encI .u8) 1 y10.1.D_, .int .i64 y10.1.E_], .box [.bool y13.1.Neg_, lsv (encI .u8) 1 y13.1.D_, .int .i64 y13.1.E_], .box [.bool y19.1.Neg_, lsv (encI .u8) 1 y19.1.D_, .int .i64 y19.1.E_], .box [.bool y22.1.Neg_, lsv (encI .u8) 1 y22.1.D_, .int .i64 y22.1.E_]]) (by kernel_rfl) ?_
            refine RJ.end (by kernel_rfl) ?_
            obtain rfl := Option.some.inj h154
            refine PJ.wk (Wk.sel (L2 := [(2, .bool false), (7, .bool y1), (8, .ptr 0 0), (10, .ptr 1 0), (14, .ptr 2 0), (16, .ptr 3 0)]) (H2 := [.box [.bool y10.1.Neg_, lsv (encI .u8) 1 y10.1.D_, .int .i64 y10.1.E_], .box [.bool y13.1.Neg_, lsv (encI .u8) 1 y13.1.D_, .int .i64 y13.1.E_], .box [.bool y19.1.Neg_, lsv (encI .u8) 1 y19.1.D_, .int .i64 y19.1.E_], .box [.bool y22.1.Neg_, lsv (encI .u8) 1 y22.1.D_, .int .i64 y22.1.E_]]) 0 (by rw [hFH]; rfl) hFD [1, 2, 3, 4] (by kernel_rfl) (by kernel_rfl) (by decide) (by kernel_rfl) (by kernel_rfl) (by kernel_rfl) (by kernel_rfl)) ?_
            exact PJ.cutN [2, 7, 8, 10, 14, 16] (by kernel_rfl) (by kernel_rfl)
        · refine K.ret (by kernel_rfl) ?_
          refine PJ.passRet ?_
          obtain rfl := Option.some.inj h151
          exact K.ret0 (.inr rfl) hFn hFH hFD (by kernel_rfl) (by kernel_rfl) (by kernel_rfl)
      · have h134 := condF hb132 h80
        refine K.condF (by kernel_rfl) ?_
        refine K.skip (by kernel_rfl) ?_
        refine PJ.next ?_
        obtain ⟨s176, hy178, h180⟩ := bindS h134
        refine K.cutN (by kernel_rfl) (fun (s176 : Bool) => ([(2, .bool s176)], [])) s176 ?_ ?_
        · refine K.region (by kernel_rfl) ?_
          refine RJ.seg 2 [2, 8, 10, 14, 16, 108] (L2 := [(2, .bool false), (8, .ptr 1 0), (10, .ptr 2 0), (14, .ptr 3 0), (16, .ptr 4 0), (108, .bool y1)]) (H2 := [.box [.bool x0.D_.Neg_, lsv (encI .u8) 1 x0.D_.D_, .int .i64 x0.D_.E_], .box [.bool y10.1.Neg_, lsv (encI .u8) 1 y10.1.D_, .int .i64 y10.1.E_], .box [.bool y13.1.Neg_, lsv (encI .u8) 1 y13.1.D_, .int .i64 y13.1.E_], .box [.bool y19.1.Neg_, lsv (encI .u8) 1 y19.1.D_, .int .i64 y19.1.E_], .box [.bool y22.1.Neg_, lsv (encI .u8) 1 y22.1.D_, .int .i64 y22.1.E_]]) (by kernel_rfl) ?_
          refine RJ.caseB 108 (b := y1) (by kernel_rfl) (fun hb181 => ?_) (fun hb181 => ?_)
          · have h182 := condT hb181 hy178
            refine RJ.seg 2 [2, 8, 16, 108, 109, 110] (L2 := [(2, .bool false), (8, .ptr 1 0), (16, .ptr 4 0), (108, .bool true), (109, .agg [.bool y19.1.Neg_, lsv (encI .u8) 1 y19.1.D_, .int .i64 y19.1.E_]), (110, .agg [.bool y13.1.Neg_, lsv (encI .u8) 1 y13.1.D_, .int .i64 y13.1.E_])]) (H2 := [.box [.bool x0.D_.Neg_, lsv (encI .u8) 1 x0.D_.D_, .int .i64 x0.D_.E_], .box [.bool y10.1.Neg_, lsv (encI .u8) 1 y10.1.D_, .int .i64 y10.1.E_], .box [.bool y13.1.Neg_, lsv (encI .u8) 1 y13.1.D_, .int .i64 y13.1.E_], .box [.bool y19.1.Neg_, lsv (encI .u8) 1 y19.1.D_, .int .i64 y19.1.E_], .box [.bool y22.1.Neg_, lsv (encI .u8) 1 y22.1.D_, .int .i64 y22.1.E_]]) (by kernel_rfl) ?_
            obtain ⟨y184, hy185, h186⟩ := bindS h182
            refine RJ.call0 (d := (some 111)) (f := 16) (args := [.agg [.bool y19.1.Neg_, lsv (encI .u8) 1 y19.1.D_, .int .i64 y19.1.E_], .agg [.bool y13.1.Neg_, lsv (encI .u8) 1 y13.1.D_, .int .i64 y13.1.E_]]) (v := .int .i64 y184) (tr2 := []) (by kernel_rfl) (by kernel_rfl) (.cons (Le.refl _) (.cons (Le.refl _) .nil)) (exergueref05_Cmp_ok hy185) (by kernel_rfl) ?_
            refine RJ.seg 3 [2, 8, 16, 114] (L2 := [(2, .bool false), (8, .ptr 1 0), (16, .ptr 4 0), (114, .bool (decide (y184 = 0)))]) (H2 := [.box [.bool x0.D_.Neg_, lsv (encI .u8) 1 x0.D_.D_, .int .i64 x0.D_.E_], .box [.bool y10.1.Neg_, lsv (encI .u8) 1 y10.1.D_, .int .i64 y10.1.E_], .box [.bool y13.1.Neg_, lsv (encI .u8) 1 y13.1.D_, .int .i64 y13.1.E_], .box [.bool y19.1.Neg_, lsv (encI .u8) 1 y19.1.D_, .int .i64 y19.1.E_], .box [.bool y22.1.Neg_, lsv (encI .u8) 1 y22.1.D_, .int .i64 y22.1.E_]]) (by kernel_rfl) ?_
            refine RJ.caseB 114 (b := (decide (y184 = 0))) (by kernel_rfl) (fun hb187 => ?_) (fun hb187 => ?_)
            · have h188 := condT hb187 h186
              refine RJ.seg 2 [2, 114, 115, 116] (L2 := [(2, .bool false), (114, .bool true), (115, .agg [.bool y22.1.Neg_, lsv (encI .u8) 1 y22.1.D_, .int .i64 y22.1.E_]), (116, .agg [.bool y10.1.Neg_, lsv (encI .u8) 1 y10.1.D_, .int .i64 y10.1.E_])]) (H2 := [.box [.bool x0.D_.Neg_, lsv (encI .u8) 1 x0.D_.D_, .int .i64 x0.D_.E_], .box [.bool y10.1.Neg_, lsv (encI .u8) 1 y10.1.D_, .int .i64 y10.1.E_], .box [.bool y13.1.Neg_, lsv (encI .u8) 1 y13.1.D_, .int .i64 y13.1.E_], .box [.bool y19.1.Neg_, lsv (encI .u8) 1 y19.1.D_, .int .i64 y19.1.E_], .box [.bool y22.1.Neg_, lsv (encI .u8) 1 y22.1.D_, .int .i64 y22.1.E_]]) (by kernel_rfl) ?_
              obtain ⟨y190, hy191, h192⟩ := bindS h188
              refine RJ.call0 (d := (some 117)) (f := 16) (args := [.agg [.bool y22.1.Neg_, lsv (encI .u8) 1 y22.1.D_, .int .i64 y22.1.E_], .agg [.bool y10.1.Neg_, lsv (encI .u8) 1 y10.1.D_, .int .i64 y10.1.E_]]) (v := .int .i64 y190) (tr2 := []) (by kernel_rfl) (by kernel_rfl) (.cons (Le.refl _) (.cons (Le.refl _) .nil)) (exergueref05_Cmp_ok hy191) (by kernel_rfl) ?_
              refine RJ.seg 3 [2] (L2 := [(2, .bool (decide (y190 = 0)))]) (H2 := [.box [.bool x0.D_.Neg_, lsv (encI .u8) 1 x0.D_.D_, .int .i64 x0.D_.E_], .box [.bool y10.1.Neg_, lsv (encI .u8) 1 y10.1.D_, .int .i64 y10.1.E_], .box [.bool y13.1.Neg_, lsv (encI .u8) 1 y13.1.D_, .int .i64 y13.1.E_], .box [.bool y19.1.Neg_, lsv (encI .u8) 1 y19.1.D_, .int .i64 y19.1.E_], .box [.bool y22.1.Neg_, lsv (encI .u8) 1 y22.1.D_, .int .i64 y22.1.E_]]) (by kernel_rfl) ?_
              refine RJ.end (by kernel_rfl) ?_
              obtain rfl := Option.some.inj h192
              refine PJ.wk (Wk.sel (L2 := [(2, .bool (decide (y190 = 0)))]) (H2 := []) 0 (by rw [hFH]; rfl) hFD [] (by kernel_rfl) (by kernel_rfl) (by decide) (by kernel_rfl) (by kernel_rfl) (by kernel_rfl) (by kernel_rfl)) ?_
              exact PJ.cutN [2] (by kernel_rfl) (by kernel_rfl)
            · have h189 := condF hb187 h186
              refine RJ.seg 6 [2] (L2 := [(2, .bool false)]) (H2 := [.box [.bool x0.D_.Neg_, lsv (encI .u8) 1 x0.D_.D_, .int .i64 x0.D_.E_], .box [.bool y10.1.Neg_, lsv (encI .u8) 1 y10.1.D_, .int .i64 y10.1.E_], .box [.bool y13.1.Neg_, lsv (encI .u8) 1 y13.1.D_, .int .i64 y13.1.E_], .box [.bool y19.1.Neg_, lsv (encI .u8) 1 y19.1.D_, .int .i64 y19.1.E_], .box [.bool y22.1.Neg_, lsv (encI .u8) 1 y22.1.D_, .int .i64 y22.1.E_]]) (by kernel_rfl) ?_
              refine RJ.end (by kernel_rfl) ?_
              obtain rfl := Option.some.inj h189
              refine PJ.wk (Wk.sel (L2 := [(2, .bool false)]) (H2 := []) 0 (by rw [hFH]; rfl) hFD [] (by kernel_rfl) (by kernel_rfl) (by decide) (by kernel_rfl) (by kernel_rfl) (by kernel_rfl) (by kernel_rfl)) ?_
              exact PJ.cutN [2] (by kernel_rfl) (by kernel_rfl)
          · have h183 := condF hb181 hy178
            refine RJ.seg 12 [2] (L2 := [(2, .bool false)]) (H2 := [.box [.bool x0.D_.Neg_, lsv (encI .u8) 1 x0.D_.D_, .int .i64 x0.D_.E_], .box [.bool y10.1.Neg_, lsv (encI .u8) 1 y10.1.D_, .int .i64 y10.1.E_], .box [.bool y13.1.Neg_, lsv (encI .u8) 1 y13.1.D_, .int .i64 y13.1.E_], .box [.bool y19.1.Neg_, lsv (encI .u8) 1 y19.1.D_, .int .i64 y19.1.E_], .box [.bool y22.1.Neg_, lsv (encI .u8) 1 y22.1.D_, .int .i64 y22.1.E_]]) (by kernel_rfl) ?_
            refine RJ.end (by kernel_rfl) ?_
            obtain rfl := Option.some.inj h183
            refine PJ.wk (Wk.sel (L2 := [(2, .bool false)]) (H2 := []) 0 (by rw [hFH]; rfl) hFD [] (by kernel_rfl) (by kernel_rfl) (by decide) (by kernel_rfl) (by kernel_rfl) (by kernel_rfl) (by kernel_rfl)) ?_
            exact PJ.cutN [2] (by kernel_rfl) (by kernel_rfl)
        · refine K.ret (by kernel_rfl) ?_
          obtain rfl := Option.some.inj h180
          exact K.ret0 (.inr rfl) hFn hFH hFD (by kernel_rfl) (by kernel_rfl) (by kernel_rfl)

structure St41 where
  A_ : St23
  B_ : St23
  K_ : Int
  Place_ : Int
  Mode_ : Int
  deriving Inhabited, DecidableEq
def encSt41 (x : St41) : List SV := [.bool x.A_.Neg_, lsv (encI .u8) 1 x.A_.D_, .int .i64 x.A_.E_, .bool x.B_.Neg_, lsv (encI .u8) 1 x.B_.D_, .int .i64 x.B_.E_, .int .i64 x.K_, .int .i64 x.Place_, .int .i64 x.Mode_]
theorem encSt41_len (x : St41) : (encSt41 x).length = 9 := rfl

def exerguelaw06_RoundOrder (x0 : St41) : Option (Bool) :=
  (Option.bind exerguelaw06_shown fun y1 => (Option.bind (Option.bind (Option.bind (exerguelaw06_near x0.A_ x0.K_ x0.Place_ x0.Mode_) fun y50 => (bif (!y50) then (some true) else (Option.bind (exerguelaw06_near x0.B_ x0.K_ x0.Place_ x0.Mode_) fun y56 => (some (!y56))))) fun (s45 : Bool) => (bif s45 then (some (.inr y1)) else (some (.inl ())))) (joinX fun (s31 : Unit) => (Option.bind (round_Inc x0.A_ x0.K_ x0.Place_ x0.Mode_) fun y63 => (Option.bind (round_Inc x0.B_ x0.K_ x0.Place_ x0.Mode_) fun y66 => (Option.bind (bif (decide (x0.Mode_ = 2)) then (some 3) else (some x0.Mode_)) fun (s72 : Int) => (Option.bind (bif (decide (x0.Mode_ = 3)) then (some 2) else (some s72)) fun (s83 : Int) => (Option.bind (round_Inc (⟨(!x0.A_.Neg_), x0.A_.D_, x0.A_.E_⟩ : St23) x0.K_ x0.Place_ s83) fun y91 => (Option.bind (bif y1 then (Option.bind (exergueref05_Same y63.1 (⟨(!y91.1.Neg_), y91.1.D_, y91.1.E_⟩ : St23)) fun y120 => (bif y120 then (Option.bind (exergueref05_Cmp x0.A_ x0.B_) fun y126 => (bif (decide (y126 > 0)) then (some true) else (Option.bind (exergueref05_Cmp y63.1 y66.1) fun y132 => (some (decide (y132 ≤ 0)))))) else (some false))) else (some false)) fun (s112 : Bool) => (some s112))))))))))
theorem exerguelaw06_RoundOrder_ok {x0 : St41} {r : Bool} (h : exerguelaw06_RoundOrder x0 = some r) : SC Try.prog 5 [.agg [.bool x0.A_.Neg_, lsv (encI .u8) 1 x0.A_.D_, .int .i64 x0.A_.E_, .bool x0.B_.Neg_, lsv (encI .u8) 1 x0.B_.D_, .int .i64 x0.B_.E_, .int .i64 x0.K_, .int .i64 x0.Place_, .int .i64 x0.Mode_]] [] (.bool r) [] := by
  refine K.fn (fn := Try.f5) (by kernel_rfl) (by kernel_rfl) (by kernel_rfl) (by kernel_rfl) (by kernel_rfl) (fun F hFn hFH hFD => ?_)
  unfold exerguelaw06_RoundOrder at h
  refine K.seq (by kernel_rfl) ?_
  refine K.region (by kernel_rfl) ?_
  refine RJ.seg 2 [1, 2] (L2 := [(1, .ptr 0 0), (2, .bool false)]) (H2 := [.box [.bool x0.A_.Neg_, lsv (encI .u8) 1 x0.A_.D_, .int .i64 x0.A_.E_, .bool x0.B_.Neg_, lsv (encI .u8) 1 x0.B_.D_, .int .i64 x0.B_.E_, .int .i64 x0.K_, .int .i64 x0.Place_, .int .i64 x0.Mode_]]) (by kernel_rfl) ?_
  refine RJ.end (by kernel_rfl) ?_
  refine PJ.next ?_
  refine K.seq (by kernel_rfl) ?_
  refine K.region (by kernel_rfl) ?_
  refine RJ.seg 4 [1, 2, 3] (L2 := [(1, .ptr 0 0), (2, .bool false), (3, .ptr 1 0)]) (H2 := [.box [.bool x0.A_.Neg_, lsv (encI .u8) 1 x0.A_.D_, .int .i64 x0.A_.E_, .bool x0.B_.Neg_, lsv (encI .u8) 1 x0.B_.D_, .int .i64 x0.B_.E_, .int .i64 x0.K_, .int .i64 x0.Place_, .int .i64 x0.Mode_], .box [.bool x0.A_.Neg_, lsv (encI .u8) 1 x0.A_.D_, .int .i64 x0.A_.E_]]) (by kernel_rfl) ?_
  refine RJ.end (by kernel_rfl) ?_
  refine PJ.next ?_
  refine K.seq (by kernel_rfl) ?_
  refine K.region (by kernel_rfl) ?_
  refine RJ.seg 4 [1, 2, 3, 4] (L2 := [(1, .ptr 0 0), (2, .bool false), (3, .ptr 1 0), (4, .ptr 2 0)]) (H2 := [.box [.bool x0.A_.Neg_, lsv (encI .u8) 1 x0.A_.D_, .int .i64 x0.A_.E_, .bool x0.B_.Neg_, lsv (encI .u8) 1 x0.B_.D_, .int .i64 x0.B_.E_, .int .i64 x0.K_, .int .i64 x0.Place_, .int .i64 x0.Mode_], .box [.bool x0.A_.Neg_, lsv (encI .u8) 1 x0.A_.D_, .int .i64 x0.A_.E_], .box [.bool x0.B_.Neg_, lsv (encI .u8) 1 x0.B_.D_, .int .i64 x0.B_.E_]]) (by kernel_rfl) ?_
  refine RJ.end (by kernel_rfl) ?_
  refine PJ.next ?_
  refine K.seq (by kernel_rfl) ?_
  refine K.region (by kernel_rfl) ?_
  refine RJ.seg 3 [1, 2, 3, 4, 5] (L2 := [(1, .ptr 0 0), (2, .bool false), (3, .ptr 1 0), (4, .ptr 2 0), (5, .int .i64 x0.K_)]) (H2 := [.box [.bool x0.A_.Neg_, lsv (encI .u8) 1 x0.A_.D_, .int .i64 x0.A_.E_, .bool x0.B_.Neg_, lsv (encI .u8) 1 x0.B_.D_, .int .i64 x0.B_.E_, .int .i64 x0.K_, .int .i64 x0.Place_, .int .i64 x0.Mode_], .box [.bool x0.A_.Neg_, lsv (encI .u8) 1 x0.A_.D_, .int .i64 x0.A_.E_], .box [.bool x0.B_.Neg_, lsv (encI .u8) 1 x0.B_.D_, .int .i64 x0.B_.E_]]) (by kernel_rfl) ?_
  refine RJ.end (by kernel_rfl) ?_
  refine PJ.next ?_
  refine K.seq (by kernel_rfl) ?_
  refine K.region (by kernel_rfl) ?_
  refine RJ.seg 3 [1, 2, 3, 4, 5, 6] (L2 := [(1, .ptr 0 0), (2, .bool false), (3, .ptr 1 0), (4, .ptr 2 0), (5, .int .i64 x0.K_), (6, .int .i64 x0.Place_)]) (H2 := [.box [.bool x0.A_.Neg_, lsv (encI .u8) 1 x0.A_.D_, .int .i64 x0.A_.E_, .bool x0.B_.Neg_, lsv (encI .u8) 1 x0.B_.D_, .int .i64 x0.B_.E_, .int .i64 x0.K_, .int .i64 x0.Place_, .int .i64 x0.Mode_], .box [.bool x0.A_.Neg_, lsv (encI .u8) 1 x0.A_.D_, .int .i64 x0.A_.E_], .box [.bool x0.B_.Neg_, lsv (encI .u8) 1 x0.B_.D_, .int .i64 x0.B_.E_]]) (by kernel_rfl) ?_
  refine RJ.end (by kernel_rfl) ?_
  refine PJ.next ?_
  refine K.seq (by kernel_rfl) ?_
  refine K.region (by kernel_rfl) ?_
  refine RJ.seg 3 [2, 3, 4, 5, 6, 7] (L2 := [(2, .bool false), (3, .ptr 1 0), (4, .ptr 2 0), (5, .int .i64 x0.K_), (6, .int .i64 x0.Place_), (7, .int .i64 x0.Mode_)]) (H2 := [.box [.bool x0.A_.Neg_, lsv (encI .u8) 1 x0.A_.D_, .int .i64 x0.A_.E_, .bool x0.B_.Neg_, lsv (encI .u8) 1 x0.B_.D_, .int .i64 x0.B_.E_, .int .i64 x0.K_, .int .i64 x0.Place_, .int .i64 x0.Mode_], .box [.bool x0.A_.Neg_, lsv (encI .u8) 1 x0.A_.D_, .int .i64 x0.A_.E_], .box [.bool x0.B_.Neg_, lsv (encI .u8) 1 x0.B_.D_, .int .i64 x0.B_.E_]]) (by kernel_rfl) ?_
  refine RJ.end (by kernel_rfl) ?_
  refine PJ.next ?_
  refine K.seq (by kernel_rfl) ?_
  refine K.region (by kernel_rfl) ?_
  obtain ⟨y1, hy2, h3⟩ := bindS h
  refine RJ.call0 (d := (some 27)) (f := 9) (args := []) (v := .bool y1) (tr2 := []) (by kernel_rfl) (by kernel_rfl) .nil (exerguelaw06_shown_ok hy2) (by kernel_rfl) ?_
  refine RJ.seg 1 [2, 3, 4, 5, 6, 7, 8] (L2 := [(2, .bool false), (3, .ptr 1 0), (4, .ptr 2 0), (5, .int .i64 x0.K_), (6, .int .i64 x0.Place_), (7, .int .i64 x0.Mode_), (8, .bool y1)]) (H2 := [.box [.bool x0.A_.Neg_, lsv (encI .u8) 1 x0.A_.D_, .int .i64 x0.A_.E_, .bool x0.B_.Neg_, lsv (encI .u8) 1 x0.B_.D_, .int .i64 x0.B_.E_, .int .i64 x0.K_, .int .i64 x0.Place_, .int .i64 x0.Mode_], .box [.bool x0.A_.Neg_, lsv (encI .u8) 1 x0.A_.D_, .int .i64 x0.A_.E_], .box [.bool x0.B_.Neg_, lsv (encI .u8) 1 x0.B_.D_, .int .i64 x0.B_.E_]]) (by kernel_rfl) ?_
  refine RJ.end (by kernel_rfl) ?_
  refine PJ.next ?_
  obtain ⟨y32, hy33, h34⟩ := bindS h3
  refine K.cutX (by kernel_rfl) (fun (s31 : Unit) => ([(2, .bool false), (3, .ptr 0 0), (4, .ptr 1 0), (5, .int .i64 x0.K_), (6, .int .i64 x0.Place_), (7, .int .i64 x0.Mode_), (8, .bool y1)], [.box [.bool x0.A_.Neg_, lsv (encI .u8) 1 x0.A_.D_, .int .i64 x0.A_.E_], .box [.bool x0.B_.Neg_, lsv (encI .u8) 1 x0.B_.D_, .int .i64 x0.B_.E_]])) y32 ?_ (fun s31 hs => ?_)
  · obtain ⟨s45, hy47, h49⟩ := bindS hy33
    refine K.cutN (by kernel_rfl) (fun (s45 : Bool) => ([(2, .bool false), (3, .ptr 0 0), (4, .ptr 1 0), (5, .int .i64 x0.K_), (6, .int .i64 x0.Place_), (7, .int .i64 x0.Mode_), (8, .bool y1), (41, .bool s45)], [.box [.bool x0.A_.Neg_, lsv (encI .u8) 1 x0.A_.D_, .int .i64 x0.A_.E_], .box [.bool x0.B_.Neg_, lsv (encI .u8) 1 x0.B_.D_, .int .i64 x0.B_.E_]])) s45 ?_ ?_
    · refine K.region (by kernel_rfl) ?_
      refine RJ.seg 4 [2, 3, 4, 5, 6, 7, 8, 28, 29, 30, 31] (L2 := [(2, .bool false), (3, .ptr 1 0), (4, .ptr 2 0), (5, .int .i64 x0.K_), (6, .int .i64 x0.Place_), (7, .int .i64 x0.Mode_), (8, .bool y1), (28, .agg [.bool x0.A_.Neg_, lsv (encI .u8) 1 x0.A_.D_, .int .i64 x0.A_.E_]), (29, .int .i64 x0.K_), (30, .int .i64 x0.Place_), (31, .int .i64 x0.Mode_)]) (H2 := [.box [.bool x0.A_.Neg_, lsv (encI .u8) 1 x0.A_.D_, .int .i64 x0.A_.E_, .bool x0.B_.Neg_, lsv (encI .u8) 1 x0.B_.D_, .int .i64 x0.B_.E_, .int .i64 x0.K_, .int .i64 x0.Place_, .int .i64 x0.Mode_], .box [.bool x0.A_.Neg_, lsv (encI .u8) 1 x0.A_.D_, .int .i64 x0.A_.E_], .box [.bool x0.B_.Neg_, lsv (encI .u8) 1 x0.B_.D_, .int .i64 x0.B_.E_]]) (by kernel_rfl) ?_
      obtain ⟨y50, hy51, h52⟩ := bindS hy47
      refine RJ.call0 (d := (some 32)) (f := 10) (args := [.agg [.bool x0.A_.Neg_, lsv (encI .u8) 1 x0.A_.D_, .int .i64 x0.A_.E_], .int .i64 x0.K_, .int .i64 x0.Place_, .int .i64 x0.Mode_]) (v := .bool y50) (tr2 := []) (by kernel_rfl) (by kernel_rfl) (.cons (Le.refl _) (.cons (Le.refl _) (.cons (Le.refl _) (.cons (Le.refl _) .nil)))) (exerguelaw06_near_ok hy51) (by kernel_rfl) ?_
      refine RJ.seg 2 [2, 3, 4, 5, 6, 7, 8, 34] (L2 := [(2, .bool false), (3, .ptr 1 0), (4, .ptr 2 0), (5, .int .i64 x0.K_), (6, .int .i64 x0.Place_), (7, .int .i64 x0.Mode_), (8, .bool y1), (34, .bool (!y50))]) (H2 := [.box [.bool x0.A_.Neg_, lsv (encI .u8) 1 x0.A_.D_, .int .i64 x0.A_.E_, .bool x0.B_.Neg_, lsv (encI .u8) 1 x0.B_.D_, .int .i64 x0.B_.E_, .int .i64 x0.K_, .int .i64 x0.Place_, .int .i64 x0.Mode_], .box [.bool x0.A_.Neg_, lsv (encI .u8) 1 x0.A_.D_, .int .i64 x0.A_.E_], .box [.bool x0.B_.Neg_, lsv (encI .u8) 1 x0.B_.D_, .int .i64 x0.B_.E_]]) (by kernel_rfl) ?_
      refine RJ.caseB 34 (b := (!y50)) (by kernel_rfl) (fun hb53 => ?_) (fun hb53 => ?_)
      · have h54 := condT hb53 h52
        refine RJ.seg 7 [2, 3, 4, 5, 6, 7, 8, 41] (L2 := [(2, .bool false), (3, .ptr 1 0), (4, .ptr 2 0), (5, .int .i64 x0.K_), (6, .int .i64 x0.Place_), (7, .int .i64 x0.Mode_), (8, .bool y1), (41, .bool true)]) (H2 := [.box [.bool x0.A_.Neg_, lsv (encI .u8) 1 x0.A_.D_, .int .i64 x0.A_.E_, .bool x0.B_.Neg_, lsv (encI .u8) 1 x0.B_.D_, .int .i64 x0.B_.E_, .int .i64 x0.K_, .int .i64 x0.Place_, .int .i64 x0.Mode_], .box [.bool x0.A_.Neg_, lsv (encI .u8) 1 x0.A_.D_, .int .i64 x0.A_.E_], .box [.bool x0.B_.Neg_, lsv (encI .u8) 1 x0.B_.D_, .int .i64 x0.B_.E_]]) (by kernel_rfl) ?_
        refine RJ.end (by kernel_rfl) ?_
        obtain rfl := Option.some.inj h54
        refine PJ.wk (Wk.sel (L2 := [(2, .bool false), (3, .ptr 0 0), (4, .ptr 1 0), (5, .int .i64 x0.K_), (6, .int .i64 x0.Place_), (7, .int .i64 x0.Mode_), (8, .bool y1), (41, .bool true)]) (H2 := [.box [.bool x0.A_.Neg_, lsv (encI .u8) 1 x0.A_.D_, .int .i64 x0.A_.E_], .box [.bool x0.B_.Neg_, lsv (encI .u8) 1 x0.B_.D_, .int .i64 x0.B_.E_]]) 0 (by rw [hFH]; rfl) hFD [1, 2] (by kernel_rfl) (by kernel_rfl) (by decide) (by kernel_rfl) (by kernel_rfl) (by kernel_rfl) (by kernel_rfl)) ?_
        exact PJ.cutN [2, 3, 4, 5, 6, 7, 8, 41] (by kernel_rfl) (by kernel_rfl)
      · have h55 := condF hb53 h52
        refine RJ.seg 4 [2, 3, 4, 5, 6, 7, 8, 34, 35, 36, 37, 38] (L2 := [(2, .bool false), (3, .ptr 1 0), (4, .ptr 2 0), (5, .int .i64 x0.K_), (6, .int .i64 x0.Place_), (7, .int .i64 x0.Mode_), (8, .bool y1), (34, .bool false), (35, .agg [.bool x0.B_.Neg_, lsv (encI .u8) 1 x0.B_.D_, .int .i64 x0.B_.E_]), (36, .int .i64 x0.K_), (37, .int .i64 x0.Place_), (38, .int .i64 x0.Mode_)]) (H2 := [.box [.bool x0.A_.Neg_, lsv (encI .u8) 1 x0.A_.D_, .int .i64 x0.A_.E_, .bool x0.B_.Neg_, lsv (encI .u8) 1 x0.B_.D_, .int .i64 x0.B_.E_, .int .i64 x0.K_, .int .i64 x0.Place_, .int .i64 x0.Mode_], .box [.bool x0.A_.Neg_, lsv (encI .u8) 1 x0.A_.D_, .int .i64 x0.A_.E_], .box [.bool x0.B_.Neg_, lsv (encI .u8) 1 x0.B_.D_, .int .i64 x0.B_.E_]]) (by kernel_rfl) ?_
        obtain ⟨y56, hy57, h58⟩ := bindS h55
        refine RJ.call0 (d := (some 39)) (f := 10) (args := [.agg [.bool x0.B_.Neg_, lsv (encI .u8) 1 x0.B_.D_, .int .i64 x0.B_.E_], .int .i64 x0.K_, .int .i64 x0.Place_, .int .i64 x0.Mode_]) (v := .bool y56) (tr2 := []) (by kernel_rfl) (by kernel_rfl) (.cons (Le.refl _) (.cons (Le.refl _) (.cons (Le.refl _) (.cons (Le.refl _) .nil)))) (exerguelaw06_near_ok hy57) (by kernel_rfl) ?_
        refine RJ.seg 2 [2, 3, 4, 5, 6, 7, 8, 41] (L2 := [(2, .bool false), (3, .ptr 1 0), (4, .ptr 2 0), (5, .int .i64 x0.K_), (6, .int .i64 x0.Place_), (7, .int .i64 x0.Mode_), (8, .bool y1), (41, .bool (!y56))]) (H2 := [.box [.bool x0.A_.Neg_, lsv (encI .u8) 1 x0.A_.D_, .int .i64 x0.A_.E_, .bool x0.B_.Neg_, lsv (encI .u8) 1 x0.B_.D_, .int .i64 x0.B_.E_, .int .i64 x0.K_, .int .i64 x0.Place_, .int .i64 x0.Mode_], .box [.bool x0.A_.Neg_, lsv (encI .u8) 1 x0.A_.D_, .int .i64 x0.A_.E_], .box [.bool x0.B_.Neg_, lsv (encI .u8) 1 x0.B_.D_, .int .i64 x0.B_.E_]]) (by kernel_rfl) ?_
        refine RJ.end (by kernel_rfl) ?_
        obtain rfl := Option.some.inj h58
        refine PJ.wk (Wk.sel (L2 := [(2, .bool false), (3, .ptr 0 0), (4, .ptr 1 0), (5, .int .i64 x0.K_), (6, .int .i64 x0.Place_), (7, .int .i64 x0.Mode_), (8, .bool y1), (41, .bool (!y56))]) (H2 := [.box [.bool x0.A_.Neg_, lsv (encI .u8) 1 x0.A_.D_, .int .i64 x0.A_.E_], .box [.bool x0.B_.Neg_, lsv (encI .u8) 1 x0.B_.D_, .int .i64 x0.B_.E_]]) 0 (by rw [hFH]; rfl) hFD [1, 2] (by kernel_rfl) (by kernel_rfl) (by decide) (by kernel_rfl) (by kernel_rfl) (by kernel_rfl) (by kernel_rfl)) ?_
        exact PJ.cutN [2, 3, 4, 5, 6, 7, 8, 41] (by kernel_rfl) (by kernel_rfl)
    · refine J.caseB 41 (b := s45) (by kernel_rfl) (fun hb59 => ?_) (fun hb59 => ?_)
      · have h60 := condT hb59 h49
        refine K.condT (by kernel_rfl) ?_
        refine K.seq (by kernel_rfl) ?_
        refine K.region (by kernel_rfl) ?_
        refine RJ.seg 2 [2, 3, 4, 5, 6, 7, 8] (L2 := [(2, .bool y1), (3, .ptr 0 0), (4, .ptr 1 0), (5, .int .i64 x0.K_), (6, .int .i64 x0.Place_), (7, .int .i64 x0.Mode_), (8, .bool y1)]) (H2 := [.box [.bool x0.A_.Neg_, lsv (encI .u8) 1 x0.A_.D_, .int .i64 x0.A_.E_], .box [.bool x0.B_.Neg_, lsv (encI .u8) 1 x0.B_.D_, .int .i64 x0.B_.E_]]) (by kernel_rfl) ?_
        refine RJ.end (by kernel_rfl) ?_
        refine PJ.next ?_
        refine K.ret (by kernel_rfl) ?_
        obtain rfl := Option.some.inj h60
        have h62 := joinX_inr h34
        refine PJ.cutXr (fun e => nomatch e) ?_
        obtain rfl := Option.some.inj h62
        exact K.ret0 (.inr rfl) hFn hFH hFD (by kernel_rfl) (by kernel_rfl) (by kernel_rfl)
      · have h61 := condF hb59 h49
        refine K.condF (by kernel_rfl) ?_
        refine K.skip (by kernel_rfl) ?_
        obtain rfl := Option.some.inj h61
        exact PJ.cutXl [2, 3, 4, 5, 6, 7, 8] (by kernel_rfl) (by kernel_rfl)
  · subst hs
    have h35 := joinX_inl h34
    refine K.seq (by kernel_rfl) ?_
    refine K.region (by kernel_rfl) ?_
    refine RJ.seg 4 [2, 3, 4, 5, 6, 7, 8, 44, 45, 46, 47] (L2 := [(2, .bool false), (3, .ptr 0 0), (4, .ptr 1 0), (5, .int .i64 x0.K_), (6, .int .i64 x0.Place_), (7, .int .i64 x0.Mode_), (8, .bool y1), (44, .agg [.bool x0.A_.Neg_, lsv (encI .u8) 1 x0.A_.D_, .int .i64 x0.A_.E_]), (45, .int .i64 x0.K_), (46, .int .i64 x0.Place_), (47, .int .i64 x0.Mode_)]) (H2 := [.box [.bool x0.A_.Neg_, lsv (encI .u8) 1 x0.A_.D_, .int .i64 x0.A_.E_], .box [.bool x0.B_.Neg_, lsv (encI .u8) 1 x0.B_.D_, .int .i64 x0.B_.E_]]) (by kernel_rfl) ?_
    obtain ⟨y63, hy64, h65⟩ := bindS h35
    refine RJ.call0 (d := (some 48)) (f := 12) (args := [.agg [.bool x0.A_.Neg_, lsv (encI .u8) 1 x0.A_.D_, .int .i64 x0.A_.E_], .int .i64 x0.K_, .int .i64 x0.Place_, .int .i64 x0.Mode_]) (v := .tup [.agg [.bool y63.1.Neg_, lsv (encI .u8) 1 y63.1.D_, .int .i64 y63.1.E_], .int .i64 y63.2]) (tr2 := []) (by kernel_rfl) (by kernel_rfl) (.cons (Le.refl _) (.cons (Le.refl _) (.cons (Le.refl _) (.cons (Le.refl _) .nil)))) (round_Inc_ok hy64) (by kernel_rfl) ?_
    refine RJ.seg 6 [2, 3, 4, 5, 6, 7, 8, 9] (L2 := [(2, .bool false), (3, .ptr 0 0), (4, .ptr 1 0), (5, .int .i64 x0.K_), (6, .int .i64 x0.Place_), (7, .int .i64 x0.Mode_), (8, .bool y1), (9, .ptr 2 0)]) (H2 := [.box [.bool x0.A_.Neg_, lsv (encI .u8) 1 x0.A_.D_, .int .i64 x0.A_.E_], .box [.bool x0.B_.Neg_, lsv (encI .u8) 1 x0.B_.D_, .int .i64 x0.B_.E_], .box [.bool y63.1.Neg_, lsv (encI .u8) 1 y63.1.D_, .int .i64 y63.1.E_]]) (by kernel_rfl) ?_
    refine RJ.end (by kernel_rfl) ?_
    refine PJ.next ?_
    refine K.seq (by kernel_rfl) ?_
    refine K.region (by kernel_rfl) ?_
    refine RJ.seg 4 [2, 3, 4, 5, 6, 7, 8, 9, 52, 53, 54, 55] (L2 := [(2, .bool false), (3, .ptr 0 0), (4, .ptr 1 0), (5, .int .i64 x0.K_), (6, .int .i64 x0.Place_), (7, .int .i64 x0.Mode_), (8, .bool y1), (9, .ptr 2 0), (52, .agg [.bool x0.B_.Neg_, lsv (encI .u8) 1 x0.B_.D_, .int .i64 x0.B_.E_]), (53, .int .i64 x0.K_), (54, .int .i64 x0.Place_), (55, .int .i64 x0.Mode_)]) (H2 := [.box [.bool x0.A_.Neg_, lsv (encI .u8) 1 x0.A_.D_, .int .i64 x0.A_.E_], .box [.bool x0.B_.Neg_, lsv (encI .u8) 1 x0.B_.D_, .int .i64 x0.B_.E_], .box [.bool y63.1.Neg_, lsv (encI .u8) 1 y63.1.D_, .int .i64 y63.1.E_]]) (by kernel_rfl) ?_
    obtain ⟨y66, hy67, h68⟩ := bindS h65
    refine RJ.call0 (d := (some 56)) (f := 12) (args := [.agg [.bool x0.B_.Neg_, lsv (encI .u8) 1 x0.B_.D_, .int .i64 x0.B_.E_], .int .i64 x0.K_, .int .i64 x0.Place_, .int .i64 x0.Mode_]) (v := .tup [.agg [.bool y66.1.Neg_, lsv (encI .u8) 1 y66.1.D_, .int .i64 y66.1.E_], .int .i64 y66.2]) (tr2 := []) (by kernel_rfl) (by kernel_rfl) (.cons (Le.refl _) (.cons (Le.refl _) (.cons (Le.refl _) (.cons (Le.refl _) .nil)))) (round_Inc_ok hy67) (by kernel_rfl) ?_
    refine RJ.seg 6 [2, 3, 4, 5, 6, 7, 8, 9, 11] (L2 := [(2, .bool false), (3, .ptr 0 0), (4, .ptr 1 0), (5, .int .i64 x0.K_), (6, .int .i64 x0.Place_), (7, .int .i64 x0.Mode_), (8, .bool y1), (9, .ptr 2 0), (11, .ptr 3 0)]) (H2 := [.box [.bool x0.A_.Neg_, lsv (encI .u8) 1 x0.A_.D_, .int .i64 x0.A_.E_], .box [.bool x0.B_.Neg_, lsv (encI .u8) 1 x0.B_.D_, .int .i64 x0.B_.E_], .box [.bool y63.1.Neg_, lsv (encI .u8) 1 y63.1.D_, .int .i64 y63.1.E_], .box [.bool y66.1.Neg_, lsv (encI .u8) 1 y66.1.D_, .int .i64 y66.1.E_]]) (by kernel_rfl) ?_
    refine RJ.end (by kernel_rfl) ?_
    refine PJ.next ?_
    refine K.seq (by kernel_rfl) ?_
    refine K.region (by kernel_rfl) ?_
    refine RJ.seg 2 [2, 3, 4, 5, 6, 7, 8, 9, 11, 13] (L2 := [(2, .bool false), (3, .ptr 0 0), (4, .ptr 1 0), (5, .int .i64 x0.K_), (6, .int .i64 x0.Place_), (7, .int .i64 x0.Mode_), (8, .bool y1), (9, .ptr 2 0), (11, .ptr 3 0), (13, .int .i64 x0.Mode_)]) (H2 := [.box [.bool x0.A_.Neg_, lsv (encI .u8) 1 x0.A_.D_, .int .i64 x0.A_.E_], .box [.bool x0.B_.Neg_, lsv (encI .u8) 1 x0.B_.D_, .int .i64 x0.B_.E_], .box [.bool y63.1.Neg_, lsv (encI .u8) 1 y63.1.D_, .int .i64 y63.1.E_], .box [.bool y66.1.Neg_, lsv (encI .u8) 1 y66.1.D_, .int .i64 y66.1.E_]]) (by kernel_rfl) ?_
    refine RJ.end (by kernel_rfl) ?_
    refine PJ.next ?_
    obtain ⟨s72, hy74, h76⟩ := bindS h68
    refine K.cutN (by kernel_rfl) (fun (s72 : Int) => ([(2, .bool false), (3, .ptr 0 0), (4, .ptr 1 0), (5, .int .i64 x0.K_), (6, .int .i64 x0.Place_), (7, .int .i64 x0.Mode_), (8, .bool y1), (9, .ptr 2 0), (11, .ptr 3 0), (13, .int .i64 s72)], [.box [.bool x0.A_.Neg_, lsv (encI .u8) 1 x0.A_.D_, .int .i64 x0.A_.E_], .box [.bool x0.B_.Neg_, lsv (encI .u8) 1 x0.B_.D_, .int .i64 x0.B_.E_], .box [.bool y63.1.Neg_, lsv (encI .u8) 1 y63.1.D_, .int .i64 y63.1.E_], .box [.bool y66.1.Neg_, lsv (encI .u8) 1 y66.1.D_, .int .i64 y66.1.E_]])) s72 ?_ ?_
    · refine K.seq (by kernel_rfl) ?_
      refine K.region (by kernel_rfl) ?_
      refine RJ.seg 2 [2, 3, 4, 5, 6, 7, 8, 9, 11, 13, 61] (L2 := [(2, .bool false), (3, .ptr 0 0), (4, .ptr 1 0), (5, .int .i64 x0.K_), (6, .int .i64 x0.Place_), (7, .int .i64 x0.Mode_), (8, .bool y1), (9, .ptr 2 0), (11, .ptr 3 0), (13, .int .i64 x0.Mode_), (61, .bool (decide (x0.Mode_ = 2)))]) (H2 := [.box [.bool x0.A_.Neg_, lsv (encI .u8) 1 x0.A_.D_, .int .i64 x0.A_.E_], .box [.bool x0.B_.Neg_, lsv (encI .u8) 1 x0.B_.D_, .int .i64 x0.B_.E_], .box [.bool y63.1.Neg_, lsv (encI .u8) 1 y63.1.D_, .int .i64 y63.1.E_], .box [.bool y66.1.Neg_, lsv (encI .u8) 1 y66.1.D_, .int .i64 y66.1.E_]]) (by kernel_rfl) ?_
      refine RJ.end (by kernel_rfl) ?_
      refine PJ.next ?_
      refine J.caseB 61 (b := (decide (x0.Mode_ = 2))) (by kernel_rfl) (fun hb77 => ?_) (fun hb77 => ?_)
      · have h78 := condT hb77 hy74
        refine K.condT (by kernel_rfl) ?_
        refine K.region (by kernel_rfl) ?_
        refine RJ.seg 1 [2, 3, 4, 5, 6, 7, 8, 9, 11, 13] (L2 := [(2, .bool false), (3, .ptr 0 0), (4, .ptr 1 0), (5, .int .i64 x0.K_), (6, .int .i64 x0.Place_), (7, .int .i64 x0.Mode_), (8, .bool y1), (9, .ptr 2 0), (11, .ptr 3 0), (13, .int .i64 3)]) (H2 := [.box [.bool x0.A_.Neg_, lsv (encI .u8) 1 x0.A_.D_, .int .i64 x0.A_.E_], .box [.bool x0.B_.Neg_, lsv (encI .u8) 1 x0.B_.D_, .int .i64 x0.B_.E_], .box [.bool y63.1.Neg_, lsv (encI .u8) 1 y63.1.D_, .int .i64 y63.1.E_], .box [.bool y66.1.Neg_, lsv (encI .u8) 1 y66.1.D_, .int .i64 y66.1.E_]]) (by kernel_rfl) ?_
        refine RJ.end (by kernel_rfl) ?_
        obtain rfl := Option.some.inj h78
        exact PJ.cutN [2, 3, 4, 5, 6, 7, 8, 9, 11, 13] (by kernel_rfl) (by kernel_rfl)
      · have h79 := condF hb77 hy74
        refine K.condF (by kernel_rfl) ?_
        refine K.skip (by kernel_rfl) ?_
        obtain rfl := Option.some.inj h79
        exact PJ.cutN [2, 3, 4, 5, 6, 7, 8, 9, 11, 13] (by kernel_rfl) (by kernel_rfl)
    · obtain ⟨s83, hy85, h87⟩ := bindS h76
      refine K.cutN (by kernel_rfl) (fun (s83 : Int) => ([(2, .bool false), (3, .ptr 0 0), (4, .ptr 1 0), (5, .int .i64 x0.K_), (6, .int .i64 x0.Place_), (8, .bool y1), (9, .ptr 2 0), (11, .ptr 3 0), (13, .int .i64 s83)], [.box [.bool x0.A_.Neg_, lsv (encI .u8) 1 x0.A_.D_, .int .i64 x0.A_.E_], .box [.bool x0.B_.Neg_, lsv (encI .u8) 1 x0.B_.D_, .int .i64 x0.B_.E_], .box [.bool y63.1.Neg_, lsv (encI .u8) 1 y63.1.D_, .int .i64 y63.1.E_], .box [.bool y66.1.Neg_, lsv (encI .u8) 1 y66.1.D_, .int .i64 y66.1.E_]])) s83 ?_ ?_
      · refine K.seq (by kernel_rfl) ?_
        refine K.region (by kernel_rfl) ?_
        refine RJ.seg 2 [2, 3, 4, 5, 6, 8, 9, 11, 13, 63] (L2 := [(2, .bool false), (3, .ptr 0 0), (4, .ptr 1 0), (5, .int .i64 x0.K_), (6, .int .i64 x0.Place_), (8, .bool y1), (9, .ptr 2 0), (11, .ptr 3 0), (13, .int .i64 s72), (63, .bool (decide (x0.Mode_ = 3)))]) (H2 := [.box [.bool x0.A_.Neg_, lsv (encI .u8) 1 x0.A_.D_, .int .i64 x0.A_.E_], .box [.bool x0.B_.Neg_, lsv (encI .u8) 1 x0.B_.D_, .int .i64 x0.B_.E_], .box [.bool y63.1.Neg_, lsv (encI .u8) 1 y63.1.D_, .int .i64 y63.1.E_], .box [.bool y66.1.Neg_, lsv (encI .u8) 1 y66.1.D_, .int .i64 y66.1.E_]]) (by kernel_rfl) ?_
        refine RJ.end (by kernel_rfl) ?_
        refine PJ.next ?_
        refine J.caseB 63 (b := (decide (x0.Mode_ = 3))) (by kernel_rfl) (fun hb88 => ?_) (fun hb88 => ?_)
        · have h89 := condT hb88 hy85
          refine K.condT (by kernel_rfl) ?_
          refine K.region (by kernel_rfl) ?_
          refine RJ.seg 1 [2, 3, 4, 5, 6, 8, 9, 11, 13] (L2 := [(2, .bool false), (3, .ptr 0 0), (4, .ptr 1 0), (5, .int .i64 x0.K_), (6, .int .i64 x0.Place_), (8, .bool y1), (9, .ptr 2 0), (11, .ptr 3 0), (13, .int .i64 2)]) (H2 := [.box [.bool x0.A_.Neg_, lsv (encI .u8) 1 x0.A_.D_, .int .i64 x0.A_.E_], .box [.bool x0.B_.Neg_, lsv (encI .u8) 1 x0.B_.D_, .int .i64 x0.B_.E_], .box [.bool y63.1.Neg_, lsv (encI .u8) 1 y63.1.D_, .int .i64 y63.1.E_], .box [.bool y66.1.Neg_, lsv (encI .u8) 1 y66.1.D_, .int .i64 y66.1.E_]]) (by kernel_rfl) ?_
          refine RJ.end (by kernel_rfl) ?_
          obtain rfl := Option.some.inj h89
          exact PJ.cutN [2, 3, 4, 5, 6, 8, 9, 11, 13] (by kernel_rfl) (by kernel_rfl)
        · have h90 := condF hb88 hy85
          refine K.condF (by kernel_rfl) ?_
          refine K.skip (by kernel_rfl) ?_
          obtain rfl := Option.some.inj h90
          exact PJ.cutN [2, 3, 4, 5, 6, 8, 9, 11, 13] (by kernel_rfl) (by kernel_rfl)
      · refine K.seq (by kernel_rfl) ?_
        refine K.region (by kernel_rfl) ?_
        refine RJ.seg 3 [2, 3, 4, 5, 6, 8, 9, 11, 13, 14] (L2 := [(2, .bool false), (3, .ptr 0 0), (4, .ptr 1 0), (5, .int .i64 x0.K_), (6, .int .i64 x0.Place_), (8, .bool y1), (9, .ptr 2 0), (11, .ptr 3 0), (13, .int .i64 s83), (14, .ptr 4 0)]) (H2 := [.box [.bool x0.A_.Neg_, lsv (encI .u8) 1 x0.A_.D_, .int .i64 x0.A_.E_], .box [.bool x0.B_.Neg_, lsv (encI .u8) 1 x0.B_.D_, .int .i64 x0.B_.E_], .box [.bool y63.1.Neg_, lsv (encI .u8) 1 y63.1.D_, .int .i64 y63.1.E_], .box [.bool y66.1.Neg_, lsv (encI .u8) 1 y66.1.D_, .int .i64 y66.1.E_], .box [.bool x0.A_.Neg_, lsv (encI .u8) 1 x0.A_.D_, .int .i64 x0.A_.E_]]) (by kernel_rfl) ?_
        refine RJ.end (by kernel_rfl) ?_
        refine PJ.next ?_
        refine K.seq (by kernel_rfl) ?_
        refine K.region (by kernel_rfl) ?_
        refine RJ.seg 5 [2, 3, 4, 5, 6, 8, 9, 11, 13, 14] (L2 := [(2, .bool false), (3, .ptr 0 0), (4, .ptr 1 0), (5, .int .i64 x0.K_), (6, .int .i64 x0.Place_), (8, .bool y1), (9, .ptr 2 0), (11, .ptr 3 0), (13, .int .i64 s83), (14, .ptr 4 0)]) (H2 := [.box [.bool x0.A_.Neg_, lsv (encI .u8) 1 x0.A_.D_, .int .i64 x0.A_.E_], .box [.bool x0.B_.Neg_, lsv (encI .u8) 1 x0.B_.D_, .int .i64 x0.B_.E_], .box [.bool y63.1.Neg_, lsv (encI .u8) 1 y63.1.D_, .int .i64 y63.1.E_], .box [.bool y66.1.Neg_, lsv (encI .u8) 1 y66.1.D_, .int .i64 y66.1.E_], .box [.bool (!x0.A_.Neg_), lsv (encI .u8) 1 x0.A_.D_, .int .i64 x0.A_.E_]]) (by kernel_rfl) ?_
        refine RJ.end (by kernel_rfl) ?_
        refine PJ.next ?_
        refine K.seq (by kernel_rfl) ?_
        refine K.region (by kernel_rfl) ?_
        refine RJ.seg 4 [2, 3, 4, 8, 9, 11, 70, 71, 72, 73] (L2 := [(2, .bool false), (3, .ptr 0 0), (4, .ptr 1 0), (8, .bool y1), (9, .ptr 2 0), (11, .ptr 3 0), (70, .agg [.bool (!x0.A_.Neg_), lsv (encI .u8) 1 x0.A_.D_, .int .i64 x0.A_.E_]), (71, .int .i64 x0.K_), (72, .int .i64 x0.Place_), (73, .int .i64 s83)]) (H2 := [.box [.bool x0.A_.Neg_, lsv (encI .u8) 1 x0.A_.D_, .int .i64 x0.A_.E_], .box [.bool x0.B_.Neg_, lsv (encI .u8) 1 x0.B_.D_, .int .i64 x0.B_.E_], .box [.bool y63.1.Neg_, lsv (encI .u8) 1 y63.1.D_, .int .i64 y63.1.E_], .box [.bool y66.1.Neg_, lsv (encI .u8) 1 y66.1.D_, .int .i64 y66.1.E_], .box [.bool (!x0.A_.Neg_), lsv (encI .u8) 1 x0.A_.D_, .int .i64 x0.A_.E_]]) (by kernel_rfl) ?_
        obtain ⟨y91, hy92, h93⟩ := bindS h87
        refine RJ.call0 (d := (some 74)) (f := 12) (args := [.agg [.bool (!x0.A_.Neg_), lsv (encI .u8) 1 x0.A_.D_, .int .i64 x0.A_.E_], .int .i64 x0.K_, .int .i64 x0.Place_, .int .i64 s83]) (v := .tup [.agg [.bool y91.1.Neg_, lsv (encI .u8) 1 y91.1.D_, .int .i64 y91.1.E_], .int .i64 y91.2]) (tr2 := []) (by kernel_rfl) (by kernel_rfl) (.cons (Le.refl _) (.cons (Le.refl _) (.cons (Le.refl _) (.cons (Le.refl _) .nil)))) (round_Inc_ok hy92) (by kernel_rfl) ?_
        refine RJ.seg 6 [2, 3, 4, 8, 9, 11, 15] (L2 := [(2, .bool false), (3, .ptr 0 0), (4, .ptr 1 0), (8, .bool y1), (9, .ptr 2 0), (11, .ptr 3 0), (15, .ptr 5 0)]) (H2 := [.box [.bool x0.A_.Neg_, lsv (encI .u8) 1 x0.A_.D_, .int .i64 x0.A_.E_], .box [.bool x0.B_.Neg_, lsv (encI .u8) 1 x0.B_.D_, .int .i64 x0.B_.E_], .box [.bool y63.1.Neg_, lsv (encI .u8) 1 y63.1.D_, .int .i64 y63.1.E_], .box [.bool y66.1.Neg_, lsv (encI .u8) 1 y66.1.D_, .int .i64 y66.1.E_], .box [.bool (!x0.A_.Neg_), lsv (encI .u8) 1 x0.A_.D_, .int .i64 x0.A_.E_], .box [.bool y91.1.Neg_, lsv (encI .u8) 1 y91.1.D_, .int .i64 y91.1.E_]]) (by kernel_rfl) ?_
        refine RJ.end (by kernel_rfl) ?_
        refine PJ.next ?_
        refine K.seq (by kernel_rfl) ?_
        refine K.region (by kernel_rfl) ?_
        refine RJ.seg 5 [2, 3, 4, 8, 9, 11, 15] (L2 := [(2, .bool false), (3, .ptr 0 0), (4, .ptr 1 0), (8, .bool y1), (9, .ptr 2 0), (11, .ptr 3 0), (15, .ptr 5 0)]) (H2 := [.box [.bool x0.A_.Neg_, lsv (encI .u8) 1 x0.A_.D_, .int .i64 x0.A_.E_], .box [.bool x0.B_.Neg_, lsv (encI .u8) 1 x0.B_.D_, .int .i64 x0.B_.E_], .box [.bool y63.1.Neg_, lsv (encI .u8) 1 y63.1.D_, .int .i64 y63.1.E_], .box [.bool y66.1.Neg_, lsv (encI .u8) 1 y66.1.D_, .int .i64 y66.1.E_], .box [.bool (!x0.A_.Neg_), lsv (encI .u8) 1 x0.A_.D_, .int .i64 x0.A_.E_], .box [.bool (!y91.1.Neg_), lsv (encI .u8) 1 y91.1.D_, .int .i64 y91.1.E_]]) (by kernel_rfl) ?_
        refine RJ.end (by kernel_rfl) ?_
        refine PJ.next ?_
        obtain ⟨s112, hy114, h116⟩ := bindS h93
        refine K.cutN (by kernel_rfl) (fun (s112 : Bool) => ([(2, .bool s112)], [])) s112 ?_ ?_
        · refine K.region (by kernel_rfl) ?_
          refine RJ.seg 2 [2, 3, 4, 9, 11, 15, 82] (L2 := [(2, .bool false), (3, .ptr 0 0), (4, .ptr 1 0), (9, .ptr 2 0), (11, .ptr 3 0), (15, .ptr 5 0), (82, .bool y1)]) (H2 := [.box [.bool x0.A_.Neg_, lsv (encI .u8) 1 x0.A_.D_, .int .i64 x0.A_.E_], .box [.bool x0.B_.Neg_, lsv (encI .u8) 1 x0.B_.D_, .int .i64 x0.B_.E_], .box [.bool y63.1.Neg_, lsv (encI .u8) 1 y63.1.D_, .int .i64 y63.1.E_], .box [.bool y66.1.Neg_, lsv (encI .u8) 1 y66.1.D_, .int .i64 y66.1.E_], .box [.bool (!x0.A_.Neg_), lsv (encI .u8) 1 x0.A_.D_, .int .i64 x0.A_.E_], .box [.bool (!y91.1.Neg_), lsv (encI .u8) 1 y91.1.D_, .int .i64 y91.1.E_]]) (by kernel_rfl) ?_
          refine RJ.caseB 82 (b := y1) (by kernel_rfl) (fun hb117 => ?_) (fun hb117 => ?_)
          · have h118 := condT hb117 hy114
            refine RJ.seg 2 [2, 3, 4, 9, 11, 82, 83, 84] (L2 := [(2, .bool false), (3, .ptr 0 0), (4, .ptr 1 0), (9, .ptr 2 0), (11, .ptr 3 0), (82, .bool true), (83, .agg [.bool y63.1.Neg_, lsv (encI .u8) 1 y63.1.D_, .int .i64 y63.1.E_]), (84, .agg [.bool (!y91.1.Neg_), lsv (encI .u8) 1 y91.1.D_, .int .i64 y91.1.E_])]) (H2 := [.box [.bool x0.A_.Neg_, lsv (encI .u8) 1 x0.A_.D_, .int .i64 x0.A_.E_], .box [.bool x0.B_.Neg_, lsv (encI .u8) 1 x0.B_.D_, .int .i64 x0.B_.E_], .box [.bool y63.1.Neg_, lsv (encI .u8) 1 y63.1.D_, .int .i64 y63.1.E_], .box [.bool y66.1.Neg_, lsv (encI .u8) 1 y66.1.D_, .int .i64 y66.1.E_], .box [.bool (!x0.A_.Neg_), lsv (encI .u8) 1 x0.A_.D_, .int .i64 x0.A_.E_], .box [.bool (!y91.1.Neg_), lsv (encI .u8) 1 y91.1.D_, .int .i64 y91.1.E_]]) (by kernel_rfl) ?_
            obtain ⟨y120, hy121, h122⟩ := bindS h118
            refine RJ.call0 (d := (some 85)) (f := 15) (args := [.agg [.bool y63.1.Neg_, lsv (encI .u8) 1 y63.1.D_, .int .i64 y63.1.E_], .agg [.bool (!y91.1.Neg_), lsv (encI .u8) 1 y91.1.D_, .int .i64 y91.1.E_]]) (v := .bool y120) (tr2 := []) (by kernel_rfl) (by kernel_rfl) (.cons (Le.refl _) (.cons (Le.refl _) .nil)) (exergueref05_Same_ok hy121) (by kernel_rfl) ?_
            refine RJ.seg 2 [2, 3, 4, 9, 11, 87] (L2 := [(2, .bool false), (3, .ptr 0 0), (4, .ptr 1 0), (9, .ptr 2 0), (11, .ptr 3 0), (87, .bool y120)]) (H2 := [.box [.bool x0.A_.Neg_, lsv (encI .u8) 1 x0.A_.D_, .int .i64 x0.A_.E_], .box [.bool x0.B_.Neg_, lsv (encI .u8) 1 x0.B_.D_, .int .i64 x0.B_.E_], .box [.bool y63.1.Neg_, lsv (encI .u8) 1 y63.1.D_, .int .i64 y63.1.E_], .box [.bool y66.1.Neg_, lsv (encI .u8) 1 y66.1.D_, .int .i64 y66.1.E_], .box [.bool (!x0.A_.Neg_), lsv (encI .u8) 1 x0.A_.D_, .int .i64 x0.A_.E_], .box [.bool (!y91.1.Neg_), lsv (encI .u8) 1 y91.1.D_, .int .i64 y91.1.E_]]) (by kernel_rfl) ?_
            refine RJ.caseB 87 (b := y120) (by kernel_rfl) (fun hb123 => ?_) (fun hb123 => ?_)
            · have h124 := condT hb123 h122
              refine RJ.seg 2 [2, 9, 11, 87, 88, 89] (L2 := [(2, .bool false), (9, .ptr 2 0), (11, .ptr 3 0), (87, .bool true), (88, .agg [.bool x0.A_.Neg_, lsv (encI .u8) 1 x0.A_.D_, .int .i64 x0.A_.E_]), (89, .agg [.bool x0.B_.Neg_, lsv (encI .u8) 1 x0.B_.D_, .int .i64 x0.B_.E_])]) (H2 := [.box [.bool x0.A_.Neg_, lsv (encI .u8) 1 x0.A_.D_, .int .i64 x0.A_.E_], .box [.bool x0.B_.Neg_, lsv (encI .u8) 1 x0.B_.D_, .int .i64 x0.B_.E_], .box [.bool y63.1.Neg_, lsv (encI .u8) 1 y63.1.D_, .int .i64 y63.1.E_], .box [.bool y66.1.Neg_, lsv (encI .u8) 1 y66.1.D_, .int .i64 y66.1.E_], .box [.bool (!x0.A_.Neg_), lsv (encI .u8) 1 x0.A_.D_, .int .i64 x0.A_.E_], .box [.bool (!y91.1.Neg_), lsv (encI .u8) 1 y91.1.D_, .int .i64 y91.1.E_]]) (by kernel_rfl) ?_
              obtain ⟨y126, hy127, h128⟩ := bindS h124
              refine RJ.call0 (d := (some 90)) (f := 16) (args := [.agg [.bool x0.A_.Neg_, lsv (encI .u8) 1 x0.A_.D_, .int .i64 x0.A_.E_], .agg [.bool x0.B_.Neg_, lsv (encI .u8) 1 x0.B_.D_, .int .i64 x0.B_.E_]]) (v := .int .i64 y126) (tr2 := []) (by kernel_rfl) (by kernel_rfl) (.cons (Le.refl _) (.cons (Le.refl _) .nil)) (exergueref05_Cmp_ok hy127) (by kernel_rfl) ?_
              refine RJ.seg 2 [2, 9, 11, 87, 92] (L2 := [(2, .bool false), (9, .ptr 2 0), (11, .ptr 3 0), (87, .bool true), (92, .bool (decide (y126 > 0)))]) (H2 := [.box [.bool x0.A_.Neg_, lsv (encI .u8) 1 x0.A_.D_, .int .i64 x0.A_.E_], .box [.bool x0.B_.Neg_, lsv (encI .u8) 1 x0.B_.D_, .int .i64 x0.B_.E_], .box [.bool y63.1.Neg_, lsv (encI .u8) 1 y63.1.D_, .int .i64 y63.1.E_], .box [.bool y66.1.Neg_, lsv (encI .u8) 1 y66.1.D_, .int .i64 y66.1.E_], .box [.bool (!x0.A_.Neg_), lsv (encI .u8) 1 x0.A_.D_, .int .i64 x0.A_.E_], .box [.bool (!y91.1.Neg_), lsv (encI .u8) 1 y91.1.D_, .int .i64 y91.1.E_]]) (by kernel_rfl) ?_
              refine RJ.caseB 92 (b := (decide (y126 > 0))) (by kernel_rfl) (fun hb129 => ?_) (fun hb129 => ?_)
              · have h130 := condT hb129 h128
                refine RJ.seg 7 [2] (L2 := [(2, .bool true)]) (H2 := [.box [.bool x0.A_.Neg_, lsv (encI .u8) 1 x0.A_.D_, .int .i64 x0.A_.E_], .box [.bool x0.B_.Neg_, lsv (encI .u8) 1 x0.B_.D_, .int .i64 x0.B_.E_], .box [.bool y63.1.Neg_, lsv (encI .u8) 1 y63.1.D_, .int .i64 y63.1.E_], .box [.bool y66.1.Neg_, lsv (encI .u8) 1 y66.1.D_, .int .i64 y66.1.E_], .box [.bool (!x0.A_.Neg_), lsv (encI .u8) 1 x0.A_.D_, .int .i64 x0.A_.E_], .box [.bool (!y91.1.Neg_), lsv (encI .u8) 1 y91.1.D_, .int .i64 y91.1.E_]]) (by kernel_rfl) ?_
                refine RJ.end (by kernel_rfl) ?_
                obtain rfl := Option.some.inj h130
                refine PJ.wk (Wk.sel (L2 := [(2, .bool true)]) (H2 := []) 0 (by rw [hFH]; rfl) hFD [] (by kernel_rfl) (by kernel_rfl) (by decide) (by kernel_rfl) (by kernel_rfl) (by kernel_rfl) (by kernel_rfl)) ?_
                exact PJ.cutN [2] (by kernel_rfl) (by kernel_rfl)
              · have h131 := condF hb129 h128
                refine RJ.seg 2 [2, 87, 92, 93, 94] (L2 := [(2, .bool false), (87, .bool true), (92, .bool false), (93, .agg [.bool y63.1.Neg_, lsv (encI .u8) 1 y63.1.D_, .int .i64 y63.1.E_]), (94, .agg [.bool y66.1.Neg_, lsv (encI .u8) 1 y66.1.D_, .int .i64 y66.1.E_])]) (H2 := [.box [.bool x0.A_.Neg_, lsv (encI .u8) 1 x0.A_.D_, .int .i64 x0.A_.E_], .box [.bool x0.B_.Neg_, lsv (encI .u8) 1 x0.B_.D_, .int .i64 x0.B_.E_], .box [.bool y63.1.Neg_, lsv (encI .u8) 1 y63.1.D_, .int .i64 y63.1.E_], .box [.bool y66.1.Neg_, lsv (encI .u8) 1 y66.1.D_, .int .i64 y66.1.E_], .box [.bool (!x0.A_.Neg_), lsv (encI .u8) 1 x0.A_.D_, .int .i64 x0.A_.E_], .box [.bool (!y91.1.Neg_), lsv (encI .u8) 1 y91.1.D_, .int .i64 y91.1.E_]]) (by kernel_rfl) ?_
                obtain ⟨y132, hy133, h134⟩ := bindS h131
                refine RJ.call0 (d := (some 95)) (f := 16) (args := [.agg [.bool y63.1.Neg_, lsv (encI .u8) 1 y63.1.D_, .int .i64 y63.1.E_], .agg [.bool y66.1.Neg_, lsv (encI .u8) 1 y66.1.D_, .int .i64 y66.1.E_]]) (v := .int .i64 y132) (tr2 := []) (by kernel_rfl) (by kernel_rfl) (.cons (Le.refl _) (.cons (Le.refl _) .nil)) (exergueref05_Cmp_ok hy133) (by kernel_rfl) ?_
                refine RJ.seg 4 [2] (L2 := [(2, .bool (decide (y132 ≤ 0)))]) (H2 := [.box [.bool x0.A_.Neg_, lsv (encI .u8) 1 x0.A_.D_, .int .i64 x0.A_.E_], .box [.bool x0.B_.Neg_, lsv (encI .u8) 1 x0.B_.D_, .int .i64 x0.B_.E_], .box [.bool y63.1.Neg_, lsv (encI .u8) 1 y63.1.D_, .int .i64 y63.1.E_], .box [.bool y66.1.Neg_, lsv (encI .u8) 1 y66.1.D_, .int .i64 y66.1.E_], .box [.bool (!x0.A_.Neg_), lsv (encI .u8) 1 x0.A_.D_, .int .i64 x0.A_.E_], .box [.bool (!y91.1.Neg_), lsv (encI .u8) 1 y91.1.D_, .int .i64 y91.1.E_]]) (by kernel_rfl) ?_
                refine RJ.end (by kernel_rfl) ?_
                obtain rfl := Option.some.inj h134
                refine PJ.wk (Wk.sel (L2 := [(2, .bool (decide (y132 ≤ 0)))]) (H2 := []) 0 (by rw [hFH]; rfl) hFD [] (by kernel_rfl) (by kernel_rfl) (by decide) (by kernel_rfl) (by kernel_rfl) (by kernel_rfl) (by kernel_rfl)) ?_
                exact PJ.cutN [2] (by kernel_rfl) (by kernel_rfl)
            · have h125 := condF hb123 h122
              refine RJ.seg 12 [2] (L2 := [(2, .bool false)]) (H2 := [.box [.bool x0.A_.Neg_, lsv (encI .u8) 1 x0.A_.D_, .int .i64 x0.A_.E_], .box [.bool x0.B_.Neg_, lsv (encI .u8) 1 x0.B_.D_, .int .i64 x0.B_.E_], .box [.bool y63.1.Neg_, lsv (encI .u8) 1 y63.1.D_, .int .i64 y63.1.E_], .box [.bool y66.1.Neg_, lsv (encI .u8) 1 y66.1.D_, .int .i64 y66.1.E_], .box [.bool (!x0.A_.Neg_), lsv (encI .u8) 1 x0.A_.D_, .int .i64 x0.A_.E_], .box [.bool (!y91.1.Neg_), lsv (encI .u8) 1 y91.1.D_, .int .i64 y91.1.E_]]) (by kernel_rfl) ?_
              refine RJ.end (by kernel_rfl) ?_
              obtain rfl := Option.some.inj h125
              refine PJ.wk (Wk.sel (L2 := [(2, .bool false)]) (H2 := []) 0 (by rw [hFH]; rfl) hFD [] (by kernel_rfl) (by kernel_rfl) (by decide) (by kernel_rfl) (by kernel_rfl) (by kernel_rfl) (by kernel_rfl)) ?_
              exact PJ.cutN [2] (by kernel_rfl) (by kernel_rfl)
          · have h119 := condF hb117 hy114
            refine RJ.seg 17 [2] (L2 := [(2, .bool false)]) (H2 := [.box [.bool x0.A_.Neg_, lsv (encI .u8) 1 x0.A_.D_, .int .i64 x0.A_.E_], .box [.bool x0.B_.Neg_, lsv (encI .u8) 1 x0.B_.D_, .int .i64 x0.B_.E_], .box [.bool y63.1.Neg_, lsv (encI .u8) 1 y63.1.D_, .int .i64 y63.1.E_], .box [.bool y66.1.Neg_, lsv (encI .u8) 1 y66.1.D_, .int .i64 y66.1.E_], .box [.bool (!x0.A_.Neg_), lsv (encI .u8) 1 x0.A_.D_, .int .i64 x0.A_.E_], .box [.bool (!y91.1.Neg_), lsv (encI .u8) 1 y91.1.D_, .int .i64 y91.1.E_]]) (by kernel_rfl) ?_
            refine RJ.end (by kernel_rfl) ?_
            obtain rfl := Option.some.inj h119
            refine PJ.wk (Wk.sel (L2 := [(2, .bool false)]) (H2 := []) 0 (by rw [hFH]; rfl) hFD [] (by kernel_rfl) (by kernel_rfl) (by decide) (by kernel_rfl) (by kernel_rfl) (by kernel_rfl) (by kernel_rfl)) ?_
            exact PJ.cutN [2] (by kernel_rfl) (by kernel_rfl)
        · refine K.ret (by kernel_rfl) ?_
          obtain rfl := Option.some.inj h116
          exact K.ret0 (.inr rfl) hFn hFH hFD (by kernel_rfl) (by kernel_rfl) (by kernel_rfl)

end Go.Proofs.Ytpofnipphhljeaa
