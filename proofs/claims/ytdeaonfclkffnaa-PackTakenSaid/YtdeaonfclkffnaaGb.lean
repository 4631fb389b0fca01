/-
  What the functions of this program come to, as functions of natives, each with the proof that it does. No conditions.
-/
import Derived.Test.YtdeaonfclkffnaaProg
import Derived.Test.YtdeaonfclkffnaaSyV
import Derived.Test.YtdeaonfclkffnaaGa
namespace Go.Proofs.Ytdeaonfclkffnaa
open Go Go.Sy Go.RowKit
set_option linter.unusedVariables false
set_option linter.unusedSimpArgs false
set_option maxRecDepth 100000

def exergueref09_PutPool (x0 : List Int) (x1 : List (List UInt8)) : Option ((List Int) × Int) :=
  (Option.bind (exergueref09_Pool x1) fun y1 => (bif (!y1) then (some (x0, 1)) else (bif room x0.length then (bif room (x0.length + (([(IntKind.wrap .u8 ((IntKind.wrap .i64 (Int.tdiv (x1.length : Int) 256)))), (IntKind.wrap .u8 (Int.tmod (x1.length : Int) 256))] : List Int)).length) then (Option.bind (loopN (fun (s44 : Int × (List Int)) => (bif (decide (s44.1 < (x1.length : Int))) then (bif inR s44.1 x1.length then (bif room (s44.2.length + (([(IntKind.wrap .u8 ((IntKind.wrap .i64 (Int.tdiv ((nth x1 s44.1).length : Int) 256)))), (IntKind.wrap .u8 ((Int.tmod ((nth x1 s44.1).length : Int) 256)))] : List Int)).length) then (bif inR s44.1 x1.length then (bif room (((s44.2 ++ (([(IntKind.wrap .u8 ((IntKind.wrap .i64 (Int.tdiv ((nth x1 s44.1).length : Int) 256)))), (IntKind.wrap .u8 ((Int.tmod ((nth x1 s44.1).length : Int) 256)))] : List Int)))).length + (bytesI (nth x1 s44.1)).length) then (some (.inl ((IntKind.wrap .i64 (s44.1 + 1)), (((s44.2 ++ (([(IntKind.wrap .u8 ((IntKind.wrap .i64 (Int.tdiv ((nth x1 s44.1).length : Int) 256)))), (IntKind.wrap .u8 ((Int.tmod ((nth x1 s44.1).length : Int) 256)))] : List Int)))) ++ (bytesI (nth x1 s44.1)))))) else none) else none) else none) else none) else (some (.inr s44.2)))) big (0, (x0 ++ (([(IntKind.wrap .u8 ((IntKind.wrap .i64 (Int.tdiv (x1.length : Int) 256)))), (IntKind.wrap .u8 (Int.tmod (x1.length : Int) 256))] : List Int))))) fun (s39 : (List Int)) => (some (s39, 0))) else none) else none)))
theorem exergueref09_PutPool_ok {x0 : List Int} {x1 : List (List UInt8)} {r : (List Int) × Int} (h : exergueref09_PutPool x0 x1 = some r) : SC Try.prog 24 [lsv (encI .u8) 1 x0, lsv encT 1 x1] [] (.tup [lsv (encI .u8) 1 r.1, .int .i64 r.2]) [] := by
  refine K.fn (fn := Try.f24) (by kernel_rfl) (by kernel_rfl) (by kernel_rfl) (by kernel_rfl) (by kernel_rfl) (fun F hFn hFH hFD => ?_)
  unfold exergueref09_PutPool at h
  refine K.seq (by kernel_rfl) ?_
  refine K.region (by kernel_rfl) ?_
  refine RJ.seg 2 [0, 1, 4, 5] (L2 := [(0, lsv (encI .u8) 1 x0), (1, lsv encT 1 x1), (4, .nl), (5, .int .i64 0)]) (H2 := []) (by kernel_rfl) ?_
  refine RJ.end (by kernel_rfl) ?_
  refine PJ.next ?_
  refine K.seq (by kernel_rfl) ?_
  refine K.region (by kernel_rfl) ?_
  refine RJ.seg 1 [0, 1, 4, 5, 10] (L2 := [(0, lsv (encI .u8) 1 x0), (1, lsv encT 1 x1), (4, .nl), (5, .int .i64 0), (10, lsv encT 1 x1)]) (H2 := []) (by kernel_rfl) ?_
  obtain ⟨y1, hy2, h3⟩ := bindS h
  refine RJ.call0 (d := (some 11)) (f := 28) (args := [lsv encT 1 x1]) (v := .bool y1) (tr2 := []) (by kernel_rfl) (by kernel_rfl) (.cons (Le.refl _) .nil) (exergueref09_Pool_ok hy2) (by kernel_rfl) ?_
  refine RJ.seg 1 [0, 1, 4, 5, 6] (L2 := [(0, lsv (encI .u8) 1 x0), (1, lsv encT 1 x1), (4, .nl), (5, .int .i64 0), (6, .bool y1)]) (H2 := []) (by kernel_rfl) ?_
  refine RJ.end (by kernel_rfl) ?_
  refine PJ.next ?_
  refine K.seq (by kernel_rfl) ?_
  refine K.seq (by kernel_rfl) ?_
  refine K.region (by kernel_rfl) ?_
  refine RJ.seg 2 [0, 1, 4, 5, 13] (L2 := [(0, lsv (encI .u8) 1 x0), (1, lsv encT 1 x1), (4, .nl), (5, .int .i64 0), (13, .bool (!y1))]) (H2 := []) (by kernel_rfl) ?_
  refine RJ.end (by kernel_rfl) ?_
  refine PJ.next ?_
  refine J.caseB 13 (b := (!y1)) (by kernel_rfl) (fun hb4 => ?_) (fun hb4 => ?_)
  · have h5 := condT hb4 h3
    refine K.condT (by kernel_rfl) ?_
    refine K.seq (by kernel_rfl) ?_
    refine K.region (by kernel_rfl) ?_
    refine RJ.seg 3 [0, 1, 4, 5] (L2 := [(0, lsv (encI .u8) 1 x0), (1, lsv encT 1 x1), (4, lsv (encI .u8) 1 x0), (5, .int .i64 1)]) (H2 := []) (by kernel_rfl) ?_
    refine RJ.end (by kernel_rfl) ?_
    refine PJ.next ?_
    refine K.ret (by kernel_rfl) ?_
    refine PJ.passRet ?_
    obtain rfl := Option.some.inj h5
    exact K.ret0 (.inr rfl) hFn hFH hFD (by kernel_rfl) (by kernel_rfl) (by kernel_rfl)
  · have h6 := condF hb4 h3
    refine K.condF (by kernel_rfl) ?_
    refine K.skip (by kernel_rfl) ?_
    refine PJ.next ?_
    refine K.seq (by kernel_rfl) ?_
    refine K.region (by kernel_rfl) ?_
    refine RJ.seg 2 [1, 4, 5, 15, 16] (L2 := [(1, lsv encT 1 x1), (4, .nl), (5, .int .i64 0), (15, .nl), (16, lsv (encI .u8) 1 x0)]) (H2 := []) (by kernel_rfl) ?_
    obtain ⟨hm, h7⟩ := asrt h6
    refine RJ.rel (d := (some 17)) (ef := ⟨.vc 0, [], [(0, .vec x0.length 1 5 (x0.flatMap (encI .u8)))]⟩) (ef' := ⟨.vc 0, [], [(0, .vec x0.length 1 5 (x0.flatMap (encI .u8)))]⟩) (c := room x0.length) (tr2 := []) (H2 := [vecL (encI .u8) 1 5 x0]) (by kernel_rfl) hm (fun hc => rfl) (by kernel_rfl) ?_
    refine RJ.seg 1 [1, 4, 5, 7] (L2 := [(1, lsv encT 1 x1), (4, .nl), (5, .int .i64 0), (7, .vc 0)]) (H2 := [vecL (encI .u8) 1 5 x0]) (by kernel_rfl) ?_
    refine RJ.end (by kernel_rfl) ?_
    refine PJ.next ?_
    refine K.seq (by kernel_rfl) ?_
    refine K.region (by kernel_rfl) ?_
    refine RJ.seg 10 [1, 4, 5, 7, 18, 27] (L2 := [(1, lsv encT 1 x1), (4, .nl), (5, .int .i64 0), (7, .vc 0), (18, .vc 0), (27, .vc 1)]) (H2 := [vecL (encI .u8) 1 5 x0, vecL (encI .u8) 1 5 (([(IntKind.wrap .u8 ((IntKind.wrap .i64 (Int.tdiv (x1.length : Int) 256)))), (IntKind.wrap .u8 (Int.tmod (x1.length : Int) 256))] : List Int))]) (by kernel_rfl) ?_
    obtain ⟨hm, h8⟩ := asrt h7
    refine RJ.rel (d := (some 28)) (ef := ⟨.vc 2, [0, 1], [(0, .gone), (2, .vec (x0.length + (([(IntKind.wrap .u8 ((IntKind.wrap .i64 (Int.tdiv (x1.length : Int) 256)))), (IntKind.wrap .u8 (Int.tmod (x1.length : Int) 256))] : List Int)).length) 1 5 (x0.flatMap (encI .u8) ++ (([(IntKind.wrap .u8 ((IntKind.wrap .i64 (Int.tdiv (x1.length : Int) 256)))), (IntKind.wrap .u8 (Int.tmod (x1.length : Int) 256))] : List Int)).flatMap (encI .u8)))]⟩) (ef' := ⟨.vc 2, [0, 1], [(0, .gone), (2, vecL (encI .u8) 1 5 (x0 ++ (([(IntKind.wrap .u8 ((IntKind.wrap .i64 (Int.tdiv (x1.length : Int) 256)))), (IntKind.wrap .u8 (Int.tmod (x1.length : Int) 256))] : List Int))))]⟩) (c := room (x0.length + (([(IntKind.wrap .u8 ((IntKind.wrap .i64 (Int.tdiv (x1.length : Int) 256)))), (IntKind.wrap .u8 (Int.tmod (x1.length : Int) 256))] : List Int)).length)) (tr2 := []) (H2 := [.gone, vecL (encI .u8) 1 5 (([(IntKind.wrap .u8 ((IntKind.wrap .i64 (Int.tdiv (x1.length : Int) 256)))), (IntKind.wrap .u8 (Int.tmod (x1.length : Int) 256))] : List Int)), vecL (encI .u8) 1 5 ((x0 ++ (([(IntKind.wrap .u8 ((IntKind.wrap .i64 (Int.tdiv (x1.length : Int) 256)))), (IntKind.wrap .u8 (Int.tmod (x1.length : Int) 256))] : List Int))))]) (by kernel_rfl) hm (fun hc => N.app) (by kernel_rfl) ?_
    refine RJ.seg 1 [1, 4, 5, 7] (L2 := [(1, lsv encT 1 x1), (4, .nl), (5, .int .i64 0), (7, .vc 2)]) (H2 := [.gone, vecL (encI .u8) 1 5 (([(IntKind.wrap .u8 ((IntKind.wrap .i64 (Int.tdiv (x1.length : Int) 256)))), (IntKind.wrap .u8 (Int.tmod (x1.length : Int) 256))] : List Int)), vecL (encI .u8) 1 5 ((x0 ++ (([(IntKind.wrap .u8 ((IntKind.wrap .i64 (Int.tdiv (x1.length : Int) 256)))), (IntKind.wrap .u8 (Int.tmod (x1.length : Int) 256))] : List Int))))]) (by kernel_rfl) ?_
    refine RJ.end (by kernel_rfl) ?_
    refine PJ.next ?_
    obtain ⟨s39, hy41, h43⟩ := bindS h8
    refine K.cutN (by kernel_rfl) (fun (s39 : (List Int)) => ([(4, .nl), (5, .int .i64 0), (7, .vc 0)], [vecL (encI .u8) 1 5 s39])) s39 ?_ ?_
    · refine K.seq (by kernel_rfl) ?_
      refine K.region (by kernel_rfl) ?_
      refine RJ.seg 1 [1, 4, 5, 7, 8] (L2 := [(1, lsv encT 1 x1), (4, .nl), (5, .int .i64 0), (7, .vc 2), (8, .int .i64 0)]) (H2 := [.gone, vecL (encI .u8) 1 5 (([(IntKind.wrap .u8 ((IntKind.wrap .i64 (Int.tdiv (x1.length : Int) 256)))), (IntKind.wrap .u8 (Int.tmod (x1.length : Int) 256))] : List Int)), vecL (encI .u8) 1 5 ((x0 ++ (([(IntKind.wrap .u8 ((IntKind.wrap .i64 (Int.tdiv (x1.length : Int) 256)))), (IntKind.wrap .u8 (Int.tmod (x1.length : Int) 256))] : List Int))))]) (by kernel_rfl) ?_
      refine RJ.end (by kernel_rfl) ?_
      refine PJ.next ?_
      refine K.block 0 (by kernel_rfl) ?_
      refine J.wk (Wk.sel (L2 := [(1, lsv encT 1 x1), (4, .nl), (5, .int .i64 0), (7, .vc 0), (8, .int .i64 0)]) (H2 := [vecL (encI .u8) 1 5 ((x0 ++ (([(IntKind.wrap .u8 ((IntKind.wrap .i64 (Int.tdiv (x1.length : Int) 256)))), (IntKind.wrap .u8 (Int.tmod (x1.length : Int) 256))] : List Int))))]) 0 (by rw [hFH]; rfl) hFD [2] (by kernel_rfl) (by kernel_rfl) (by decide) (by kernel_rfl) (by kernel_rfl) (by kernel_rfl) (by kernel_rfl)) ?_
      refine K.loop (by kernel_rfl) (fun (s44 : Int × (List Int)) => ([(1, lsv encT 1 x1), (4, .nl), (5, .int .i64 0), (7, .vc 0), (8, .int .i64 s44.1)], [vecL (encI .u8) 1 5 s44.2])) hy41 [1, 4, 5, 7, 8] (by kernel_rfl) (by kernel_rfl) (fun s44 x64 hs63 => ?_)
      refine K.seq (by kernel_rfl) ?_
      refine K.seq (by kernel_rfl) ?_
      refine K.region (by kernel_rfl) ?_
      refine RJ.seg 4 [1, 4, 5, 7, 8, 32] (L2 := [(1, lsv encT 1 x1), (4, .nl), (5, .int .i64 0), (7, .vc 0), (8, .int .i64 s44.1), (32, .bool ((decide (s44.1 < (x1.length : Int)))))]) (H2 := [vecL (encI .u8) 1 5 s44.2]) (by kernel_rfl) ?_
      refine RJ.end (by kernel_rfl) ?_
      refine PJ.next ?_
      refine J.caseB 32 (b := (decide (s44.1 < (x1.length : Int)))) (by kernel_rfl) (fun hb65 => ?_) (fun hb65 => ?_)
      · have h66 := condT hb65 hs63
        refine K.condT (by kernel_rfl) ?_
        refine K.skip (by kernel_rfl) ?_
        refine PJ.next ?_
        refine K.seq (by kernel_rfl) ?_
        refine K.block 1 (by kernel_rfl) ?_
        refine K.seq (by kernel_rfl) ?_
        refine K.region (by kernel_rfl) ?_
        refine RJ.seg 2 [1, 4, 5, 7, 8, 35, 36] (L2 := [(1, lsv encT 1 x1), (4, .nl), (5, .int .i64 0), (7, .vc 0), (8, .int .i64 s44.1), (35, lsv encT 1 x1), (36, .int .i64 s44.1)]) (H2 := [vecL (encI .u8) 1 5 s44.2]) (by kernel_rfl) ?_
        obtain ⟨hm, h68⟩ := asrt h66
        refine RJ.rel (d := (some 37)) (ef := ⟨.ep (((x1.flatMap encT).drop ((s44.1 : Int).toNat * 1)).take 1), [], []⟩) (ef' := ⟨.ep (encT (nth x1 s44.1)), [], []⟩) (c := inR s44.1 x1.length) (tr2 := []) (H2 := [vecL (encI .u8) 1 5 s44.2]) (by kernel_rfl) hm (fun hc => N.idx encT_len hc) (by kernel_rfl) ?_
        refine RJ.seg 3 [1, 4, 5, 7, 8, 9] (L2 := [(1, lsv encT 1 x1), (4, .nl), (5, .int .i64 0), (7, .vc 0), (8, .int .i64 s44.1), (9, .int .i64 ((nth x1 s44.1).length : Int))]) (H2 := [vecL (encI .u8) 1 5 s44.2]) (by kernel_rfl) ?_
        refine RJ.end (by kernel_rfl) ?_
        refine PJ.next ?_
        refine K.seq (by kernel_rfl) ?_
        refine K.region (by kernel_rfl) ?_
        refine RJ.seg 8 [1, 4, 5, 7, 8, 40, 47] (L2 := [(1, lsv encT 1 x1), (4, .nl), (5, .int .i64 0), (7, .vc 0), (8, .int .i64 s44.1), (40, .vc 0), (47, .vc 1)]) (H2 := [vecL (encI .u8) 1 5 s44.2, vecL (encI .u8) 1 5 (([(IntKind.wrap .u8 ((IntKind.wrap .i64 (Int.tdiv ((nth x1 s44.1).length : Int) 256)))), (IntKind.wrap .u8 ((Int.tmod ((nth x1 s44.1).length : Int) 256)))] : List Int))]) (by kernel_rfl) ?_
        obtain ⟨hm, h69⟩ := asrt h68
        refine RJ.rel (d := (some 48)) (ef := ⟨.vc 2, [0, 1], [(0, .gone), (2, .vec (s44.2.length + (([(IntKind.wrap .u8 ((IntKind.wrap .i64 (Int.tdiv ((nth x1 s44.1).length : Int) 256)))), (IntKind.wrap .u8 ((Int.tmod ((nth x1 s44.1).length : Int) 256)))] : List Int)).length) 1 5 (s44.2.flatMap (encI .u8) ++ (([(IntKind.wrap .u8 ((IntKind.wrap .i64 (Int.tdiv ((nth x1 s44.1).length : Int) 256)))), (IntKind.wrap .u8 ((Int.tmod ((nth x1 s44.1).length : Int) 256)))] : List Int)).flatMap (encI .u8)))]⟩) (ef' := ⟨.vc 2, [0, 1], [(0, .gone), (2, vecL (encI .u8) 1 5 (s44.2 ++ (([(IntKind.wrap .u8 ((IntKind.wrap .i64 (Int.tdiv ((nth x1 s44.1).length : Int) 256)))), (IntKind.wrap .u8 ((Int.tmod ((nth x1 s44.1).length : Int) 256)))] : List Int))))]⟩) (c := room (s44.2.length + (([(IntKind.wrap .u8 ((IntKind.wrap .i64 (Int.tdiv ((nth x1 s44.1).length : Int) 256)))), (IntKind.wrap .u8 ((Int.tmod ((nth x1 s44.1).length : Int) 256)))] : List Int)).length)) (tr2 := []) (H2 := [.gone, vecL (encI .u8) 1 5 (([(IntKind.wrap .u8 ((IntKind.wrap .i64 (Int.tdiv ((nth x1 s44.1).length : Int) 256)))), (IntKind.wrap .u8 ((Int.tmod ((nth x1 s44.1).length : Int) 256)))] : List Int)), vecL (encI .u8) 1 5 ((s44.2 ++ (([(IntKind.wrap .u8 ((IntKind.wrap .i64 (Int.tdiv ((nth x1 s44.1).length : Int) 256)))), (IntKind.wrap .u8 ((Int.tmod ((nth x1 s44.1).length : Int) 256)))] : List Int))))]) (by kernel_rfl) hm (fun hc => N.app) (by kernel_rfl) ?_
        refine RJ.seg 1 [1, 4, 5, 7, 8] (L2 := [(1, lsv encT 1 x1), (4, .nl), (5, .int .i64 0), (7, .vc 2), (8, .int .i64 s44.1)]) (H2 := [.gone, vecL (encI .u8) 1 5 (([(IntKind.wrap .u8 ((IntKind.wrap .i64 (Int.tdiv ((nth x1 s44.1).length : Int) 256)))), (IntKind.wrap .u8 ((Int.tmod ((nth x1 s44.1).length : Int) 256)))] : List Int)), vecL (encI .u8) 1 5 ((s44.2 ++ (([(IntKind.wrap .u8 ((IntKind.wrap .i64 (Int.tdiv ((nth x1 s44.1).length : Int) 256)))), (IntKind.wrap .u8 ((Int.tmod ((nth x1 s44.1).length : Int) 256)))] : List Int))))]) (by kernel_rfl) ?_
        refine RJ.end (by kernel_rfl) ?_
        refine PJ.next ?_
        refine K.region (by kernel_rfl) ?_
        refine RJ.seg 3 [1, 4, 5, 7, 8, 49, 50, 51] (L2 := [(1, lsv encT 1 x1), (4, .nl), (5, .int .i64 0), (7, .vc 2), (8, .int .i64 s44.1), (49, .vc 2), (50, lsv encT 1 x1), (51, .int .i64 s44.1)]) (H2 := [.gone, vecL (encI .u8) 1 5 (([(IntKind.wrap .u8 ((IntKind.wrap .i64 (Int.tdiv ((nth x1 s44.1).length : Int) 256)))), (IntKind.wrap .u8 ((Int.tmod ((nth x1 s44.1).length : Int) 256)))] : List Int)), vecL (encI .u8) 1 5 ((s44.2 ++ (([(IntKind.wrap .u8 ((IntKind.wrap .i64 (Int.tdiv ((nth x1 s44.1).length : Int) 256)))), (IntKind.wrap .u8 ((Int.tmod ((nth x1 s44.1).length : Int) 256)))] : List Int))))]) (by kernel_rfl) ?_
        obtain ⟨hm, h70⟩ := asrt h69
        refine RJ.rel (d := (some 52)) (ef := ⟨.ep (((x1.flatMap encT).drop ((s44.1 : Int).toNat * 1)).take 1), [], []⟩) (ef' := ⟨.ep (encT (nth x1 s44.1)), [], []⟩) (c := inR s44.1 x1.length) (tr2 := []) (H2 := [.gone, vecL (encI .u8) 1 5 (([(IntKind.wrap .u8 ((IntKind.wrap .i64 (Int.tdiv ((nth x1 s44.1).length : Int) 256)))), (IntKind.wrap .u8 ((Int.tmod ((nth x1 s44.1).length : Int) 256)))] : List Int)), vecL (encI .u8) 1 5 ((s44.2 ++ (([(IntKind.wrap .u8 ((IntKind.wrap .i64 (Int.tdiv ((nth x1 s44.1).length : Int) 256)))), (IntKind.wrap .u8 ((Int.tmod ((nth x1 s44.1).length : Int) 256)))] : List Int))))]) (by kernel_rfl) hm (fun hc => N.idx encT_len hc) (by kernel_rfl) ?_
        refine RJ.seg 1 [1, 4, 5, 7, 8, 49, 53] (L2 := [(1, lsv encT 1 x1), (4, .nl), (5, .int .i64 0), (7, .vc 2), (8, .int .i64 s44.1), (49, .vc 2), (53, .str (nth x1 s44.1))]) (H2 := [.gone, vecL (encI .u8) 1 5 (([(IntKind.wrap .u8 ((IntKind.wrap .i64 (Int.tdiv ((nth x1 s44.1).length : Int) 256)))), (IntKind.wrap .u8 ((Int.tmod ((nth x1 s44.1).length : Int) 256)))] : List Int)), vecL (encI .u8) 1 5 ((s44.2 ++ (([(IntKind.wrap .u8 ((IntKind.wrap .i64 (Int.tdiv ((nth x1 s44.1).length : Int) 256)))), (IntKind.wrap .u8 ((Int.tmod ((nth x1 s44.1).length : Int) 256)))] : List Int))))]) (by kernel_rfl) ?_
        refine RJ.rel (d := (some 54)) (ef := ⟨.lst (nth x1 s44.1).length 1 ((nth x1 s44.1).map byteSV), [], []⟩) (ef' := ⟨lsv (encI .u8) 1 (bytesI (nth x1 s44.1)), [], []⟩) (c := true) (tr2 := []) (H2 := [.gone, vecL (encI .u8) 1 5 (([(IntKind.wrap .u8 ((IntKind.wrap .i64 (Int.tdiv ((nth x1 s44.1).length : Int) 256)))), (IntKind.wrap .u8 ((Int.tmod ((nth x1 s44.1).length : Int) 256)))] : List Int)), vecL (encI .u8) 1 5 ((s44.2 ++ (([(IntKind.wrap .u8 ((IntKind.wrap .i64 (Int.tdiv ((nth x1 s44.1).length : Int) 256)))), (IntKind.wrap .u8 ((Int.tmod ((nth x1 s44.1).length : Int) 256)))] : List Int))))]) (by kernel_rfl) rfl (fun hc => N.toBytes) (by kernel_rfl) ?_
        obtain ⟨hm, h71⟩ := asrt h70
        refine RJ.rel (d := (some 55)) (ef := ⟨.vc 3, [2], [(2, .gone), (3, .vec (((s44.2 ++ (([(IntKind.wrap .u8 ((IntKind.wrap .i64 (Int.tdiv ((nth x1 s44.1).length : Int) 256)))), (IntKind.wrap .u8 ((Int.tmod ((nth x1 s44.1).length : Int) 256)))] : List Int)))).length + (bytesI (nth x1 s44.1)).length) 1 5 (((s44.2 ++ (([(IntKind.wrap .u8 ((IntKind.wrap .i64 (Int.tdiv ((nth x1 s44.1).length : Int) 256)))), (IntKind.wrap .u8 ((Int.tmod ((nth x1 s44.1).length : Int) 256)))] : List Int)))).flatMap (encI .u8) ++ (bytesI (nth x1 s44.1)).flatMap (encI .u8)))]⟩) (ef' := ⟨.vc 3, [2], [(2, .gone), (3, vecL (encI .u8) 1 5 (((s44.2 ++ (([(IntKind.wrap .u8 ((IntKind.wrap .i64 (Int.tdiv ((nth x1 s44.1).length : Int) 256)))), (IntKind.wrap .u8 ((Int.tmod ((nth x1 s44.1).length : Int) 256)))] : List Int)))) ++ (bytesI (nth x1 s44.1))))]⟩) (c := room (((s44.2 ++ (([(IntKind.wrap .u8 ((IntKind.wrap .i64 (Int.tdiv ((nth x1 s44.1).length : Int) 256)))), (IntKind.wrap .u8 ((Int.tmod ((nth x1 s44.1).length : Int) 256)))] : List Int)))).length + (bytesI (nth x1 s44.1)).length)) (tr2 := []) (H2 := [.gone, vecL (encI .u8) 1 5 (([(IntKind.wrap .u8 ((IntKind.wrap .i64 (Int.tdiv ((nth x1 s44.1).length : Int) 256)))), (IntKind.wrap .u8 ((Int.tmod ((nth x1 s44.1).length : Int) 256)))] : List Int)), .gone, vecL (encI .u8) 1 5 ((((s44.2 ++ (([(IntKind.wrap .u8 ((IntKind.wrap .i64 (Int.tdiv ((nth x1 s44.1).length : Int) 256)))), (IntKind.wrap .u8 ((Int.tmod ((nth x1 s44.1).length : Int) 256)))] : List Int)))) ++ (bytesI (nth x1 s44.1))))]) (by kernel_rfl) hm (fun hc => N.app) (by kernel_rfl) ?_
        refine RJ.seg 1 [1, 4, 5, 7, 8] (L2 := [(1, lsv encT 1 x1), (4, .nl), (5, .int .i64 0), (7, .vc 3), (8, .int .i64 s44.1)]) (H2 := [.gone, vecL (encI .u8) 1 5 (([(IntKind.wrap .u8 ((IntKind.wrap .i64 (Int.tdiv ((nth x1 s44.1).length : Int) 256)))), (IntKind.wrap .u8 ((Int.tmod ((nth x1 s44.1).length : Int) 256)))] : List Int)), .gone, vecL (encI .u8) 1 5 ((((s44.2 ++ (([(IntKind.wrap .u8 ((IntKind.wrap .i64 (Int.tdiv ((nth x1 s44.1).length : Int) 256)))), (IntKind.wrap .u8 ((Int.tmod ((nth x1 s44.1).length : Int) 256)))] : List Int)))) ++ (bytesI (nth x1 s44.1))))]) (by kernel_rfl) ?_
        refine RJ.end (by kernel_rfl) ?_
        refine PJ.blockNormal ?_
        refine PJ.next ?_
        refine K.region (by kernel_rfl) ?_
        refine RJ.seg 3 [1, 4, 5, 7, 8] (L2 := [(1, lsv encT 1 x1), (4, .nl), (5, .int .i64 0), (7, .vc 3), (8, .int .i64 (IntKind.wrap .i64 (s44.1 + 1)))]) (H2 := [.gone, vecL (encI .u8) 1 5 (([(IntKind.wrap .u8 ((IntKind.wrap .i64 (Int.tdiv ((nth x1 s44.1).length : Int) 256)))), (IntKind.wrap .u8 ((Int.tmod ((nth x1 s44.1).length : Int) 256)))] : List Int)), .gone, vecL (encI .u8) 1 5 ((((s44.2 ++ (([(IntKind.wrap .u8 ((IntKind.wrap .i64 (Int.tdiv ((nth x1 s44.1).length : Int) 256)))), (IntKind.wrap .u8 ((Int.tmod ((nth x1 s44.1).length : Int) 256)))] : List Int)))) ++ (bytesI (nth x1 s44.1))))]) (by kernel_rfl) ?_
        refine RJ.end (by kernel_rfl) ?_
        obtain rfl := Option.some.inj h71
        refine PJ.wk (Wk.sel (L2 := [(1, lsv encT 1 x1), (4, .nl), (5, .int .i64 0), (7, .vc 0), (8, .int .i64 (IntKind.wrap .i64 (s44.1 + 1)))]) (H2 := [vecL (encI .u8) 1 5 ((((s44.2 ++ (([(IntKind.wrap .u8 ((IntKind.wrap .i64 (Int.tdiv ((nth x1 s44.1).length : Int) 256)))), (IntKind.wrap .u8 ((Int.tmod ((nth x1 s44.1).length : Int) 256)))] : List Int)))) ++ (bytesI (nth x1 s44.1))))]) 0 (by rw [hFH]; rfl) hFD [3] (by kernel_rfl) (by kernel_rfl) (by decide) (by kernel_rfl) (by kernel_rfl) (by kernel_rfl) (by kernel_rfl)) ?_
        exact PJ.loopNext [1, 4, 5, 7, 8] (by kernel_rfl) (by kernel_rfl)
      · have h67 := condF hb65 hs63
        refine K.condF (by kernel_rfl) ?_
        refine K.exit 0 (by kernel_rfl) ?_
        refine PJ.passExit ?_
        obtain rfl := Option.some.inj h67
        refine PJ.loopOut (fun e => nomatch e) (fun he73 => ?_)
        have h72 := congrArg some he73
        refine PJ.blockOut ?_
        obtain rfl := Option.some.inj h72
        exact PJ.cutN [4, 5, 7] (by kernel_rfl) (by kernel_rfl)
    · refine K.seq (by kernel_rfl) ?_
      refine K.region (by kernel_rfl) ?_
      refine RJ.seg 3 [4, 5] (L2 := [(4, .vc 0), (5, .int .i64 0)]) (H2 := [vecL (encI .u8) 1 5 s39]) (by kernel_rfl) ?_
      refine RJ.end (by kernel_rfl) ?_
      refine PJ.next ?_
      refine K.ret (by kernel_rfl) ?_
      obtain rfl := Option.some.inj h43
      refine PJ.wk (Wk.freeze 0 (n := s39.length) (k := 1) (e := 5) (cs := s39.flatMap (encI .u8)) (by kernel_rfl)) ?_
      exact K.ret0 (.inr rfl) hFn hFH hFD (by kernel_rfl) (by kernel_rfl) (by kernel_rfl)

def pack_takeText (x0 : List Int) (x1 : Int) : Option ((List UInt8) × Int × Int) :=
  (Option.bind (pack_Take x0 x1 2) fun y1 => (bif (decide (¬ y1.2.2 = 0)) then (some (([] : List UInt8), 0, y1.2.2)) else (bif (decide ((IntKind.wrap .i64 y1.1) > ((IntKind.wrap .i64 ((x0.length : Int) - y1.2.1))))) then (some (([] : List UInt8), 0, 2)) else (bif inS y1.2.1 ((IntKind.wrap .i64 (y1.2.1 + (IntKind.wrap .i64 y1.1)))) x0.length then (some ((bytesS ((cut x0 y1.2.1 ((IntKind.wrap .i64 (y1.2.1 + (IntKind.wrap .i64 y1.1))))))), (IntKind.wrap .i64 (y1.2.1 + (IntKind.wrap .i64 y1.1))), 0)) else none))))
theorem pack_takeText_ok {x0 : List Int} {x1 : Int} {r : (List UInt8) × Int × Int} (h : pack_takeText x0 x1 = some r) : SC Try.prog 35 [lsv (encI .u8) 1 x0, .int .i64 x1] [] (.tup [.str r.1, .int .i64 r.2.1, .int .i64 r.2.2]) [] := by
  refine K.fn (fn := Try.f35) (by kernel_rfl) (by kernel_rfl) (by kernel_rfl) (by kernel_rfl) (by kernel_rfl) (fun F hFn hFH hFD => ?_)
  unfold pack_takeText at h
  refine K.seq (by kernel_rfl) ?_
  refine K.region (by kernel_rfl) ?_
  refine RJ.seg 3 [0, 1, 4, 5, 6] (L2 := [(0, lsv (encI .u8) 1 x0), (1, .int .i64 x1), (4, .str ([] : List UInt8)), (5, .int .i64 0), (6, .int .i64 0)]) (H2 := []) (by kernel_rfl) ?_
  refine RJ.end (by kernel_rfl) ?_
  refine PJ.next ?_
  refine K.seq (by kernel_rfl) ?_
  refine K.region (by kernel_rfl) ?_
  refine RJ.seg 2 [0, 1, 4, 5, 6, 11, 12] (L2 := [(0, lsv (encI .u8) 1 x0), (1, .int .i64 x1), (4, .str ([] : List UInt8)), (5, .int .i64 0), (6, .int .i64 0), (11, lsv (encI .u8) 1 x0), (12, .int .i64 x1)]) (H2 := []) (by kernel_rfl) ?_
  obtain ⟨y1, hy2, h3⟩ := bindS h
  refine RJ.call0 (d := (some 13)) (f := 13) (args := [lsv (encI .u8) 1 x0, .int .i64 x1, .int .i64 2]) (v := .tup [.int .u32 y1.1, .int .i64 y1.2.1, .int .i64 y1.2.2]) (tr2 := []) (by kernel_rfl) (by kernel_rfl) (.cons (Le.refl _) (.cons (Le.refl _) (.cons (Le.refl _) .nil))) (pack_Take_ok hy2) (by kernel_rfl) ?_
  refine RJ.seg 7 [0, 1, 4, 5, 6, 7, 8] (L2 := [(0, lsv (encI .u8) 1 x0), (1, .int .i64 y1.2.1), (4, .str ([] : List UInt8)), (5, .int .i64 0), (6, .int .i64 0), (7, .int .u32 y1.1), (8, .int .i64 y1.2.2)]) (H2 := []) (by kernel_rfl) ?_
  refine RJ.end (by kernel_rfl) ?_
  refine PJ.next ?_
  refine K.seq (by kernel_rfl) ?_
  refine K.seq (by kernel_rfl) ?_
  refine K.region (by kernel_rfl) ?_
  refine RJ.seg 2 [0, 1, 4, 5, 6, 7, 8, 18] (L2 := [(0, lsv (encI .u8) 1 x0), (1, .int .i64 y1.2.1), (4, .str ([] : List UInt8)), (5, .int .i64 0), (6, .int .i64 0), (7, .int .u32 y1.1), (8, .int .i64 y1.2.2), (18, .bool (decide (¬ y1.2.2 = 0)))]) (H2 := []) (by kernel_rfl) ?_
  refine RJ.end (by kernel_rfl) ?_
  refine PJ.next ?_
  refine J.caseB 18 (b := (decide (¬ y1.2.2 = 0))) (by kernel_rfl) (fun hb4 => ?_) (fun hb4 => ?_)
  · have h5 := condT hb4 h3
    refine K.condT (by kernel_rfl) ?_
    refine K.seq (by kernel_rfl) ?_
    refine K.region (by kernel_rfl) ?_
    refine RJ.seg 4 [0, 1, 4, 5, 6, 7] (L2 := [(0, lsv (encI .u8) 1 x0), (1, .int .i64 y1.2.1), (4, .str ([] : List UInt8)), (5, .int .i64 0), (6, .int .i64 y1.2.2), (7, .int .u32 y1.1)]) (H2 := []) (by kernel_rfl) ?_
    refine RJ.end (by kernel_rfl) ?_
    refine PJ.next ?_
    refine K.ret (by kernel_rfl) ?_
    refine PJ.passRet ?_
    obtain rfl := Option.some.inj h5
    exact K.ret0 (.inr rfl) hFn hFH hFD (by kernel_rfl) (by kernel_rfl) (by kernel_rfl)
  · have h6 := condF hb4 h3
    refine K.condF (by kernel_rfl) ?_
    refine K.skip (by kernel_rfl) ?_
    refine PJ.next ?_
    refine K.seq (by kernel_rfl) ?_
    refine K.seq (by kernel_rfl) ?_
    refine K.region (by kernel_rfl) ?_
    refine RJ.seg 7 [0, 1, 4, 5, 6, 7, 26] (L2 := [(0, lsv (encI .u8) 1 x0), (1, .int .i64 y1.2.1), (4, .str ([] : List UInt8)), (5, .int .i64 0), (6, .int .i64 0), (7, .int .u32 y1.1), (26, .bool ((decide ((IntKind.wrap .i64 y1.1) > ((IntKind.wrap .i64 ((x0.length : Int) - y1.2.1)))))))]) (H2 := []) (by kernel_rfl) ?_
    refine RJ.end (by kernel_rfl) ?_
    refine PJ.next ?_
    refine J.caseB 26 (b := (decide ((IntKind.wrap .i64 y1.1) > ((IntKind.wrap .i64 ((x0.length : Int) - y1.2.1)))))) (by kernel_rfl) (fun hb7 => ?_) (fun hb7 => ?_)
    · have h8 := condT hb7 h6
      refine K.condT (by kernel_rfl) ?_
      refine K.seq (by kernel_rfl) ?_
      refine K.region (by kernel_rfl) ?_
      refine RJ.seg 3 [0, 1, 4, 5, 6, 7] (L2 := [(0, lsv (encI .u8) 1 x0), (1, .int .i64 y1.2.1), (4, .str ([] : List UInt8)), (5, .int .i64 0), (6, .int .i64 2), (7, .int .u32 y1.1)]) (H2 := []) (by kernel_rfl) ?_
      refine RJ.end (by kernel_rfl) ?_
      refine PJ.next ?_
      refine K.ret (by kernel_rfl) ?_
      refine PJ.passRet ?_
      obtain rfl := Option.some.inj h8
      exact K.ret0 (.inr rfl) hFn hFH hFD (by kernel_rfl) (by kernel_rfl) (by kernel_rfl)
    · have h9 := condF hb7 h6
      refine K.condF (by kernel_rfl) ?_
      refine K.skip (by kernel_rfl) ?_
      refine PJ.next ?_
      refine K.seq (by kernel_rfl) ?_
      refine K.region (by kernel_rfl) ?_
      refine RJ.seg 5 [0, 1, 4, 5, 6, 9] (L2 := [(0, lsv (encI .u8) 1 x0), (1, .int .i64 y1.2.1), (4, .str ([] : List UInt8)), (5, .int .i64 0), (6, .int .i64 0), (9, .int .i64 ((IntKind.wrap .i64 (y1.2.1 + (IntKind.wrap .i64 y1.1)))))]) (H2 := []) (by kernel_rfl) ?_
      refine RJ.end (by kernel_rfl) ?_
      refine PJ.next ?_
      refine K.seq (by kernel_rfl) ?_
      refine K.region (by kernel_rfl) ?_
      refine RJ.seg 3 [4, 5, 6, 9, 31, 32, 33] (L2 := [(4, .str ([] : List UInt8)), (5, .int .i64 0), (6, .int .i64 0), (9, .int .i64 ((IntKind.wrap .i64 (y1.2.1 + (IntKind.wrap .i64 y1.1))))), (31, lsv (encI .u8) 1 x0), (32, .int .i64 y1.2.1), (33, .int .i64 ((IntKind.wrap .i64 (y1.2.1 + (IntKind.wrap .i64 y1.1)))))]) (H2 := []) (by kernel_rfl) ?_
      obtain ⟨hm, h10⟩ := asrt h9
      refine RJ.rel (d := (some 34)) (ef := ⟨.lst (((IntKind.wrap .i64 (y1.2.1 + (IntKind.wrap .i64 y1.1))) : Int).toNat - (y1.2.1 : Int).toNat) 1 (((x0.flatMap (encI .u8)).take (((IntKind.wrap .i64 (y1.2.1 + (IntKind.wrap .i64 y1.1))) : Int).toNat * 1)).drop ((y1.2.1 : Int).toNat * 1)), [], []⟩) (ef' := ⟨.lst (cut x0 y1.2.1 ((IntKind.wrap .i64 (y1.2.1 + (IntKind.wrap .i64 y1.1))))).length 1 ((cut x0 y1.2.1 ((IntKind.wrap .i64 (y1.2.1 + (IntKind.wrap .i64 y1.1))))).flatMap (encI .u8)), [], []⟩) (c := inS y1.2.1 ((IntKind.wrap .i64 (y1.2.1 + (IntKind.wrap .i64 y1.1)))) x0.length) (tr2 := []) (H2 := []) (by kernel_rfl) hm (fun hc => N.slice (encI_len .u8) hc) (by kernel_rfl) ?_
      refine RJ.rel (d := (some 35)) (ef := ⟨.str ((((cut x0 y1.2.1 ((IntKind.wrap .i64 (y1.2.1 + (IntKind.wrap .i64 y1.1)))))).flatMap (encI .u8)).map Go.Sy.byteOf), [], []⟩) (ef' := ⟨.str (bytesS ((cut x0 y1.2.1 ((IntKind.wrap .i64 (y1.2.1 + (IntKind.wrap .i64 y1.1))))))), [], []⟩) (c := (((cut x0 y1.2.1 ((IntKind.wrap .i64 (y1.2.1 + (IntKind.wrap .i64 y1.1)))))).flatMap (encI .u8)).all isByte) (tr2 := []) (H2 := []) (by kernel_rfl) (allByte ((cut x0 y1.2.1 ((IntKind.wrap .i64 (y1.2.1 + (IntKind.wrap .i64 y1.1))))))) (fun hc => N.toStr) (by kernel_rfl) ?_
      refine RJ.seg 4 [4, 5, 6] (L2 := [(4, .str ((bytesS ((cut x0 y1.2.1 ((IntKind.wrap .i64 (y1.2.1 + (IntKind.wrap .i64 y1.1))))))))), (5, .int .i64 ((IntKind.wrap .i64 (y1.2.1 + (IntKind.wrap .i64 y1.1))))), (6, .int .i64 0)]) (H2 := []) (by kernel_rfl) ?_
      refine RJ.end (by kernel_rfl) ?_
      refine PJ.next ?_
      refine K.ret (by kernel_rfl) ?_
      obtain rfl := Option.some.inj h10
      exact K.ret0 (.inr rfl) hFn hFH hFD (by kernel_rfl) (by kernel_rfl) (by kernel_rfl)

def pack_TakePool (x0 : List Int) (x1 : Int) : Option ((List (List UInt8)) × Int × Int) :=
  (Option.bind (pack_Take x0 x1 2) fun y1 => (bif (decide (¬ y1.2.2 = 0)) then (some (([] : List (List UInt8)), 0, y1.2.2)) else (Option.bind (loopN (fun (s60 : Int × Int × (List (List UInt8))) => (bif (decide (s60.2.1 < (IntKind.wrap .i64 y1.1))) then (Option.bind (pack_takeText x0 s60.1) fun y96 => (bif (decide (¬ y96.2.2 = 0)) then (some (.inr (.inr (([] : List (List UInt8)), 0, y96.2.2)))) else (bif room (s60.2.2.length + ([y96.1] : List (List UInt8)).length) then (some (.inl (y96.2.1, (IntKind.wrap .i64 (s60.2.1 + 1)), (s60.2.2 ++ ([y96.1] : List (List UInt8)))))) else none))) else (some (.inr (.inl (s60.1, s60.2.2)))))) big (y1.2.1, 0, ([] : List (List UInt8)))) (joinX fun (s55 : Int × (List (List UInt8))) => (Option.bind (pack_isPool s55.2) fun y108 => (bif (!y108) then (some (([] : List (List UInt8)), 0, 2)) else (some (s55.2, s55.1, 0))))))))
theorem pack_TakePool_ok {x0 : List Int} {x1 : Int} {r : (List (List UInt8)) × Int × Int} (h : pack_TakePool x0 x1 = some r) : SC Try.prog 25 [lsv (encI .u8) 1 x0, .int .i64 x1] [] (.tup [lsv encT 1 r.1, .int .i64 r.2.1, .int .i64 r.2.2]) [] := by
  refine K.fn (fn := Try.f25) (by kernel_rfl) (by kernel_rfl) (by kernel_rfl) (by kernel_rfl) (by kernel_rfl) (fun F hFn hFH hFD => ?_)
  unfold pack_TakePool at h
  refine K.seq (by kernel_rfl) ?_
  refine K.region (by kernel_rfl) ?_
  refine RJ.seg 3 [0, 1, 4, 5, 6] (L2 := [(0, lsv (encI .u8) 1 x0), (1, .int .i64 x1), (4, .nl), (5, .int .i64 0), (6, .int .i64 0)]) (H2 := []) (by kernel_rfl) ?_
  refine RJ.end (by kernel_rfl) ?_
  refine PJ.next ?_
  refine K.seq (by kernel_rfl) ?_
  refine K.region (by kernel_rfl) ?_
  refine RJ.seg 2 [0, 1, 4, 5, 6, 14, 15] (L2 := [(0, lsv (encI .u8) 1 x0), (1, .int .i64 x1), (4, .nl), (5, .int .i64 0), (6, .int .i64 0), (14, lsv (encI .u8) 1 x0), (15, .int .i64 x1)]) (H2 := []) (by kernel_rfl) ?_
  obtain ⟨y1, hy2, h3⟩ := bindS h
  refine RJ.call0 (d := (some 16)) (f := 13) (args := [lsv (encI .u8) 1 x0, .int .i64 x1, .int .i64 2]) (v := .tup [.int .u32 y1.1, .int .i64 y1.2.1, .int .i64 y1.2.2]) (tr2 := []) (by kernel_rfl) (by kernel_rfl) (.cons (Le.refl _) (.cons (Le.refl _) (.cons (Le.refl _) .nil))) (pack_Take_ok hy2) (by kernel_rfl) ?_
  refine RJ.seg 7 [0, 1, 4, 5, 6, 7, 8] (L2 := [(0, lsv (encI .u8) 1 x0), (1, .int .i64 y1.2.1), (4, .nl), (5, .int .i64 0), (6, .int .i64 0), (7, .int .u32 y1.1), (8, .int .i64 y1.2.2)]) (H2 := []) (by kernel_rfl) ?_
  refine RJ.end (by kernel_rfl) ?_
  refine PJ.next ?_
  refine K.seq (by kernel_rfl) ?_
  refine K.seq (by kernel_rfl) ?_
  refine K.region (by kernel_rfl) ?_
  refine RJ.seg 2 [0, 1, 4, 5, 6, 7, 8, 21] (L2 := [(0, lsv (encI .u8) 1 x0), (1, .int .i64 y1.2.1), (4, .nl), (5, .int .i64 0), (6, .int .i64 0), (7, .int .u32 y1.1), (8, .int .i64 y1.2.2), (21, .bool (decide (¬ y1.2.2 = 0)))]) (H2 := []) (by kernel_rfl) ?_
  refine RJ.end (by kernel_rfl) ?_
  refine PJ.next ?_
  refine J.caseB 21 (b := (decide (¬ y1.2.2 = 0))) (by kernel_rfl) (fun hb4 => ?_) (fun hb4 => ?_)
  · have h5 := condT hb4 h3
    refine K.condT (by kernel_rfl) ?_
    refine K.seq (by kernel_rfl) ?_
    refine K.region (by kernel_rfl) ?_
    refine RJ.seg 4 [0, 1, 4, 5, 6, 7] (L2 := [(0, lsv (encI .u8) 1 x0), (1, .int .i64 y1.2.1), (4, .nl), (5, .int .i64 0), (6, .int .i64 y1.2.2), (7, .int .u32 y1.1)]) (H2 := []) (by kernel_rfl) ?_
    refine RJ.end (by kernel_rfl) ?_
    refine PJ.next ?_
    refine K.ret (by kernel_rfl) ?_
    refine PJ.passRet ?_
    obtain rfl := Option.some.inj h5
    refine PJ.res (v1 := .tup [.nl, .int .i64 0, .int .i64 y1.2.2]) (Le.tup (.cons (Le.nl _) (.cons (Le.refl _) (.cons (Le.refl _) .nil)))) ?_
    exact K.ret0 (.inr rfl) hFn hFH hFD (by kernel_rfl) (by kernel_rfl) (by kernel_rfl)
  · have h6 := condF hb4 h3
    refine K.condF (by kernel_rfl) ?_
    refine K.skip (by kernel_rfl) ?_
    refine PJ.next ?_
    refine K.seq (by kernel_rfl) ?_
    refine K.region (by kernel_rfl) ?_
    refine RJ.seg 1 [0, 1, 4, 5, 6, 7, 9] (L2 := [(0, lsv (encI .u8) 1 x0), (1, .int .i64 y1.2.1), (4, .nl), (5, .int .i64 0), (6, .int .i64 0), (7, .int .u32 y1.1), (9, .nl)]) (H2 := []) (by kernel_rfl) ?_
    refine RJ.end (by kernel_rfl) ?_
    refine PJ.next ?_
    obtain ⟨y56, hy57, h58⟩ := bindS h6
    refine K.cutX (by kernel_rfl) (fun (s55 : Int × (List (List UInt8))) => ([(1, .int .i64 s55.1), (4, .nl), (5, .int .i64 0), (6, .int .i64 0), (9, .vc 0)], [vecL encT 1 9 s55.2])) y56 ?_ (fun s55 hs => ?_)
    · refine K.seq (by kernel_rfl) ?_
      refine K.region (by kernel_rfl) ?_
      refine RJ.seg 3 [0, 1, 4, 5, 6, 9, 24, 25] (L2 := [(0, lsv (encI .u8) 1 x0), (1, .int .i64 y1.2.1), (4, .nl), (5, .int .i64 0), (6, .int .i64 0), (9, .nl), (24, .int .i64 (IntKind.wrap .i64 y1.1)), (25, .int .i64 0)]) (H2 := []) (by kernel_rfl) ?_
      refine RJ.end (by kernel_rfl) ?_
      refine PJ.next ?_
      refine K.block 0 (by kernel_rfl) ?_
      refine J.wk (Wk.viv 9 1 9 (by kernel_rfl)) ?_
      refine K.loop (by kernel_rfl) (fun (s60 : Int × Int × (List (List UInt8))) => ([(0, lsv (encI .u8) 1 x0), (1, .int .i64 s60.1), (4, .nl), (5, .int .i64 0), (6, .int .i64 0), (9, .vc 0), (24, .int .i64 (IntKind.wrap .i64 y1.1)), (25, .int .i64 s60.2.1)], [vecL encT 1 9 s60.2.2])) hy57 [0, 1, 4, 5, 6, 9, 24, 25] (by kernel_rfl) (by kernel_rfl) (fun s60 x92 hs91 => ?_)
      refine K.seq (by kernel_rfl) ?_
      refine K.region (by kernel_rfl) ?_
      refine RJ.seg 1 [0, 1, 4, 5, 6, 9, 24, 25, 26] (L2 := [(0, lsv (encI .u8) 1 x0), (1, .int .i64 s60.1), (4, .nl), (5, .int .i64 0), (6, .int .i64 0), (9, .vc 0), (24, .int .i64 (IntKind.wrap .i64 y1.1)), (25, .int .i64 s60.2.1), (26, .bool ((decide (s60.2.1 < (IntKind.wrap .i64 y1.1)))))]) (H2 := [vecL encT 1 9 s60.2.2]) (by kernel_rfl) ?_
      refine RJ.end (by kernel_rfl) ?_
      refine PJ.next ?_
      refine K.seq (by kernel_rfl) ?_
      refine J.caseB 26 (b := (decide (s60.2.1 < (IntKind.wrap .i64 y1.1)))) (by kernel_rfl) (fun hb93 => ?_) (fun hb93 => ?_)
      · have h94 := condT hb93 hs91
        refine K.condT (by kernel_rfl) ?_
        refine K.skip (by kernel_rfl) ?_
        refine PJ.next ?_
        refine K.seq (by kernel_rfl) ?_
        refine K.block 1 (by kernel_rfl) ?_
        refine K.seq (by kernel_rfl) ?_
        refine K.region (by kernel_rfl) ?_
        refine RJ.seg 2 [0, 1, 4, 5, 6, 9, 24, 25, 28, 29] (L2 := [(0, lsv (encI .u8) 1 x0), (1, .int .i64 s60.1), (4, .nl), (5, .int .i64 0), (6, .int .i64 0), (9, .vc 0), (24, .int .i64 (IntKind.wrap .i64 y1.1)), (25, .int .i64 s60.2.1), (28, lsv (encI .u8) 1 x0), (29, .int .i64 s60.1)]) (H2 := [vecL encT 1 9 s60.2.2]) (by kernel_rfl) ?_
        obtain ⟨y96, hy97, h98⟩ := bindS h94
        refine RJ.call0 (d := (some 30)) (f := 35) (args := [lsv (encI .u8) 1 x0, .int .i64 s60.1]) (v := .tup [.str y96.1, .int .i64 y96.2.1, .int .i64 y96.2.2]) (tr2 := []) (by kernel_rfl) (by kernel_rfl) (.cons (Le.refl _) (.cons (Le.refl _) .nil)) (pack_takeText_ok hy97) (by kernel_rfl) ?_
        refine RJ.seg 7 [0, 1, 4, 5, 6, 9, 10, 11, 12, 24, 25] (L2 := [(0, lsv (encI .u8) 1 x0), (1, .int .i64 s60.1), (4, .nl), (5, .int .i64 0), (6, .int .i64 0), (9, .vc 0), (10, .str y96.1), (11, .int .i64 y96.2.1), (12, .int .i64 y96.2.2), (24, .int .i64 (IntKind.wrap .i64 y1.1)), (25, .int .i64 s60.2.1)]) (H2 := [vecL encT 1 9 s60.2.2]) (by kernel_rfl) ?_
        refine RJ.end (by kernel_rfl) ?_
        refine PJ.next ?_
        refine K.seq (by kernel_rfl) ?_
        refine K.seq (by kernel_rfl) ?_
        refine K.region (by kernel_rfl) ?_
        refine RJ.seg 2 [0, 1, 4, 5, 6, 9, 10, 11, 12, 24, 25, 35] (L2 := [(0, lsv (encI .u8) 1 x0), (1, .int .i64 s60.1), (4, .nl), (5, .int .i64 0), (6, .int .i64 0), (9, .vc 0), (10, .str y96.1), (11, .int .i64 y96.2.1), (12, .int .i64 y96.2.2), (24, .int .i64 (IntKind.wrap .i64 y1.1)), (25, .int .i64 s60.2.1), (35, .bool (decide (¬ y96.2.2 = 0)))]) (H2 := [vecL encT 1 9 s60.2.2]) (by kernel_rfl) ?_
        refine RJ.end (by kernel_rfl) ?_
        refine PJ.next ?_
        refine J.caseB 35 (b := (decide (¬ y96.2.2 = 0))) (by kernel_rfl) (fun hb99 => ?_) (fun hb99 => ?_)
        · have h100 := condT hb99 h98
          refine K.condT (by kernel_rfl) ?_
          refine K.seq (by kernel_rfl) ?_
          refine K.region (by kernel_rfl) ?_
          refine RJ.seg 4 [0, 1, 4, 5, 6, 9, 10, 11, 24, 25] (L2 := [(0, lsv (encI .u8) 1 x0), (1, .int .i64 s60.1), (4, .nl), (5, .int .i64 0), (6, .int .i64 y96.2.2), (9, .vc 0), (10, .str y96.1), (11, .int .i64 y96.2.1), (24, .int .i64 (IntKind.wrap .i64 y1.1)), (25, .int .i64 s60.2.1)]) (H2 := [vecL encT 1 9 s60.2.2]) (by kernel_rfl) ?_
          refine RJ.end (by kernel_rfl) ?_
          refine PJ.next ?_
          refine K.ret (by kernel_rfl) ?_
          refine PJ.passRet ?_
          refine PJ.blockRet ?_
          refine PJ.passRet ?_
          obtain rfl := Option.some.inj h100
          refine PJ.loopOut (fun e => nomatch e) (fun he104 => ?_)
          have h102 := congrArg some he104
          refine PJ.blockRet ?_
          obtain rfl := Option.some.inj h102
          have h103 := joinX_inr h58
          refine PJ.cutXr (fun e => nomatch e) ?_
          obtain rfl := Option.some.inj h103
          refine PJ.res (v1 := .tup [.nl, .int .i64 0, .int .i64 y96.2.2]) (Le.tup (.cons (Le.nl _) (.cons (Le.refl _) (.cons (Le.refl _) .nil)))) ?_
          exact K.ret0 (.inr rfl) hFn hFH hFD (by kernel_rfl) (by kernel_rfl) (by kernel_rfl)
        · have h101 := condF hb99 h98
          refine K.condF (by kernel_rfl) ?_
          refine K.skip (by kernel_rfl) ?_
          refine PJ.next ?_
          refine K.seq (by kernel_rfl) ?_
          refine K.region (by kernel_rfl) ?_
          refine RJ.seg 3 [0, 1, 4, 5, 6, 9, 11, 24, 25, 37, 39] (L2 := [(0, lsv (encI .u8) 1 x0), (1, .int .i64 s60.1), (4, .nl), (5, .int .i64 0), (6, .int .i64 0), (9, .vc 0), (11, .int .i64 y96.2.1), (24, .int .i64 (IntKind.wrap .i64 y1.1)), (25, .int .i64 s60.2.1), (37, .vc 0), (39, .vc 1)]) (H2 := [vecL encT 1 9 s60.2.2, vecL encT 1 9 ([y96.1] : List (List UInt8))]) (by kernel_rfl) ?_
          obtain ⟨hm, h105⟩ := asrt h101
          refine RJ.rel (d := (some 40)) (ef := ⟨.vc 2, [0, 1], [(0, .gone), (2, .vec (s60.2.2.length + ([y96.1] : List (List UInt8)).length) 1 9 (s60.2.2.flatMap encT ++ ([y96.1] : List (List UInt8)).flatMap encT))]⟩) (ef' := ⟨.vc 2, [0, 1], [(0, .gone), (2, vecL encT 1 9 (s60.2.2 ++ ([y96.1] : List (List UInt8))))]⟩) (c := room (s60.2.2.length + ([y96.1] : List (List UInt8)).length)) (tr2 := []) (H2 := [.gone, vecL encT 1 9 ([y96.1] : List (List UInt8)), vecL encT 1 9 ((s60.2.2 ++ ([y96.1] : List (List UInt8))))]) (by kernel_rfl) hm (fun hc => N.app) (by kernel_rfl) ?_
          refine RJ.seg 1 [0, 1, 4, 5, 6, 9, 11, 24, 25] (L2 := [(0, lsv (encI .u8) 1 x0), (1, .int .i64 s60.1), (4, .nl), (5, .int .i64 0), (6, .int .i64 0), (9, .vc 2), (11, .int .i64 y96.2.1), (24, .int .i64 (IntKind.wrap .i64 y1.1)), (25, .int .i64 s60.2.1)]) (H2 := [.gone, vecL encT 1 9 ([y96.1] : List (List UInt8)), vecL encT 1 9 ((s60.2.2 ++ ([y96.1] : List (List UInt8))))]) (by kernel_rfl) ?_
          refine RJ.end (by kernel_rfl) ?_
          refine PJ.next ?_
          refine K.region (by kernel_rfl) ?_
          refine RJ.seg 2 [0, 1, 4, 5, 6, 9, 24, 25] (L2 := [(0, lsv (encI .u8) 1 x0), (1, .int .i64 y96.2.1), (4, .nl), (5, .int .i64 0), (6, .int .i64 0), (9, .vc 2), (24, .int .i64 (IntKind.wrap .i64 y1.1)), (25, .int .i64 s60.2.1)]) (H2 := [.gone, vecL encT 1 9 ([y96.1] : List (List UInt8)), vecL encT 1 9 ((s60.2.2 ++ ([y96.1] : List (List UInt8))))]) (by kernel_rfl) ?_
          refine RJ.end (by kernel_rfl) ?_
          refine PJ.blockNormal ?_
          refine PJ.next ?_
          refine K.region (by kernel_rfl) ?_
          refine RJ.seg 2 [0, 1, 4, 5, 6, 9, 24, 25] (L2 := [(0, lsv (encI .u8) 1 x0), (1, .int .i64 y96.2.1), (4, .nl), (5, .int .i64 0), (6, .int .i64 0), (9, .vc 2), (24, .int .i64 (IntKind.wrap .i64 y1.1)), (25, .int .i64 (IntKind.wrap .i64 (s60.2.1 + 1)))]) (H2 := [.gone, vecL encT 1 9 ([y96.1] : List (List UInt8)), vecL encT 1 9 ((s60.2.2 ++ ([y96.1] : List (List UInt8))))]) (by kernel_rfl) ?_
          refine RJ.end (by kernel_rfl) ?_
          obtain rfl := Option.some.inj h105
          refine PJ.wk (Wk.sel (L2 := [(0, lsv (encI .u8) 1 x0), (1, .int .i64 y96.2.1), (4, .nl), (5, .int .i64 0), (6, .int .i64 0), (9, .vc 0), (24, .int .i64 (IntKind.wrap .i64 y1.1)), (25, .int .i64 (IntKind.wrap .i64 (s60.2.1 + 1)))]) (H2 := [vecL encT 1 9 ((s60.2.2 ++ ([y96.1] : List (List UInt8))))]) 0 (by rw [hFH]; rfl) hFD [2] (by kernel_rfl) (by kernel_rfl) (by decide) (by kernel_rfl) (by kernel_rfl) (by kernel_rfl) (by kernel_rfl)) ?_
          exact PJ.loopNext [0, 1, 4, 5, 6, 9, 24, 25] (by kernel_rfl) (by kernel_rfl)
      · have h95 := condF hb93 hs91
        refine K.condF (by kernel_rfl) ?_
        refine K.exit 0 (by kernel_rfl) ?_
        refine PJ.passExit ?_
        obtain rfl := Option.some.inj h95
        refine PJ.loopOut (fun e => nomatch e) (fun he107 => ?_)
        have h106 := congrArg some he107
        refine PJ.blockOut ?_
        obtain rfl := Option.some.inj h106
        exact PJ.cutXl [1, 4, 5, 6, 9] (by kernel_rfl) (by kernel_rfl)
    · subst hs
      have h59 := joinX_inl h58
      refine K.seq (by kernel_rfl) ?_
      refine K.seq (by kernel_rfl) ?_
      refine K.region (by kernel_rfl) ?_
      refine RJ.seg 1 [1, 4, 5, 6, 9, 43] (L2 := [(1, .int .i64 s55.1), (4, .nl), (5, .int .i64 0), (6, .int .i64 0), (9, .vc 0), (43, .vc 0)]) (H2 := [vecL encT 1 9 s55.2]) (by kernel_rfl) ?_
      obtain ⟨y108, hy109, h110⟩ := bindS h59
      refine RJ.callL (d := (some 44)) (f := 34) (args := [.vc 0]) (args0 := [.vc 0]) (args1 := [lsv encT 1 s55.2]) (H0 := [vecL encT 1 9 s55.2]) (v := .bool y108) (tr2 := []) [0] (by kernel_rfl) (by kernel_rfl) (by kernel_rfl) (by kernel_rfl) (by decide) (by kernel_rfl) (by kernel_rfl) (by kernel_rfl) (by kernel_rfl) (.cons (Le.refl _) .nil) (pack_isPool_ok hy109) (by kernel_rfl) (by kernel_rfl) ?_
      refine RJ.seg 1 [1, 4, 5, 6, 9, 45] (L2 := [(1, .int .i64 s55.1), (4, .nl), (5, .int .i64 0), (6, .int .i64 0), (9, .vc 0), (45, .bool (!y108))]) (H2 := [vecL encT 1 9 s55.2]) (by kernel_rfl) ?_
      refine RJ.end (by kernel_rfl) ?_
      refine PJ.next ?_
      refine J.caseB 45 (b := (!y108)) (by kernel_rfl) (fun hb111 => ?_) (fun hb111 => ?_)
      · have h112 := condT hb111 h110
        refine K.condT (by kernel_rfl) ?_
        refine K.seq (by kernel_rfl) ?_
        refine K.region (by kernel_rfl) ?_
        refine RJ.seg 3 [1, 4, 5, 6, 9] (L2 := [(1, .int .i64 s55.1), (4, .nl), (5, .int .i64 0), (6, .int .i64 2), (9, .vc 0)]) (H2 := [vecL encT 1 9 s55.2]) (by kernel_rfl) ?_
        refine RJ.end (by kernel_rfl) ?_
        refine PJ.next ?_
        refine K.ret (by kernel_rfl) ?_
        refine PJ.passRet ?_
        obtain rfl := Option.some.inj h112
        refine PJ.res (v1 := .tup [.nl, .int .i64 0, .int .i64 2]) (Le.tup (.cons (Le.nl _) (.cons (Le.refl _) (.cons (Le.refl _) .nil)))) ?_
        exact K.ret0 (.inr rfl) hFn hFH hFD (by kernel_rfl) (by kernel_rfl) (by kernel_rfl)
      · have h113 := condF hb111 h110
        refine K.condF (by kernel_rfl) ?_
        refine K.skip (by kernel_rfl) ?_
        refine PJ.next ?_
        refine K.seq (by kernel_rfl) ?_
        refine K.region (by kernel_rfl) ?_
        refine RJ.seg 5 [4, 5, 6] (L2 := [(4, .vc 0), (5, .int .i64 s55.1), (6, .int .i64 0)]) (H2 := [vecL encT 1 9 s55.2]) (by kernel_rfl) ?_
        refine RJ.end (by kernel_rfl) ?_
        refine PJ.next ?_
        refine K.ret (by kernel_rfl) ?_
        obtain rfl := Option.some.inj h113
        refine PJ.wk (Wk.freeze 0 (n := s55.2.length) (k := 1) (e := 9) (cs := s55.2.flatMap encT) (by kernel_rfl)) ?_
        exact K.ret0 (.inr rfl) hFn hFH hFD (by kernel_rfl) (by kernel_rfl) (by kernel_rfl)

def exergueref09_TakePool (x0 : List Int) (x1 : Int) : Option ((List (List UInt8)) × Int × Int) :=
  (bif (decide (x1 < 0)) then (some (([] : List (List UInt8)), 0, 1)) else (Option.bind (exergueref09_Take x0 x1 2) fun y4 => (bif (decide (¬ y4.2.2 = 0)) then (some (([] : List (List UInt8)), 0, y4.2.2)) else (Option.bind (loopN (fun (s336 : Int × Int × (List (List UInt8))) => (bif (decide (s336.2.1 < (IntKind.wrap .i64 y4.1))) then (Option.bind (Option.bind (exergueref09_Take x0 s336.1 2) fun y607 => (Option.bind (Option.bind (bif (decide (¬ y607.2.2 = 0)) then (some true) else (some ((decide (((IntKind.wrap .i64 (y607.2.1 + (IntKind.wrap .i64 y607.1)))) > (x0.length : Int)))))) fun (s637 : Bool) => (bif s637 then (some (.inr (.inr (.inr (.inr (([] : List (List UInt8)), 0, 2)))))) else (some (.inl ())))) (joinX fun (s629 : Unit) => (bif inS y607.2.1 ((IntKind.wrap .i64 (y607.2.1 + (IntKind.wrap .i64 y607.1)))) x0.length then (bif room (s336.2.2.length + (([(bytesS ((cut x0 y607.2.1 ((IntKind.wrap .i64 (y607.2.1 + (IntKind.wrap .i64 y607.1)))))))] : List (List UInt8))).length) then (some (.inl ((IntKind.wrap .i64 (y607.2.1 + (IntKind.wrap .i64 y607.1))), (s336.2.2 ++ (([(bytesS ((cut x0 y607.2.1 ((IntKind.wrap .i64 (y607.2.1 + (IntKind.wrap .i64 y607.1)))))))] : List (List UInt8))))))) else none) else none)))) (joinX fun (s602 : Int × (List (List UInt8))) => (some (.inl (s602.1, (IntKind.wrap .i64 (s336.2.1 + 1)), s602.2))))) else (some (.inr (.inl (s336.1, s336.2.2)))))) big (y4.2.1, 0, ([] : List (List UInt8)))) (joinX fun (s331 : Int × (List (List UInt8))) => (Option.bind (exergueref09_Pool s331.2) fun y657 => (bif (!y657) then (some (([] : List (List UInt8)), 0, 2)) else (some (s331.2, s331.1, 0)))))))))
theorem exergueref09_TakePool_ok {x0 : List Int} {x1 : Int} {r : (List (List UInt8)) × Int × Int} (h : exergueref09_TakePool x0 x1 = some r) : SC Try.prog 26 [lsv (encI .u8) 1 x0, .int .i64 x1] [] (.tup [lsv encT 1 r.1, .int .i64 r.2.1, .int .i64 r.2.2]) [] := by
  refine K.fn (fn := Try.f26) (by kernel_rfl) (by kernel_rfl) (by kernel_rfl) (by kernel_rfl) (by kernel_rfl) (fun F hFn hFH hFD => ?_)
  unfold exergueref09_TakePool at h
  refine K.seq (by kernel_rfl) ?_
  refine K.region (by kernel_rfl) ?_
  refine RJ.seg 3 [0, 1, 4, 5, 6] (L2 := [(0, lsv (encI .u8) 1 x0), (1, .int .i64 x1), (4, .nl), (5, .int .i64 0), (6, .int .i64 0)]) (H2 := []) (by kernel_rfl) ?_
  refine RJ.end (by kernel_rfl) ?_
  refine PJ.next ?_
  refine K.seq (by kernel_rfl) ?_
  refine K.seq (by kernel_rfl) ?_
  refine K.region (by kernel_rfl) ?_
  refine RJ.seg 2 [0, 1, 4, 5, 6, 17] (L2 := [(0, lsv (encI .u8) 1 x0), (1, .int .i64 x1), (4, .nl), (5, .int .i64 0), (6, .int .i64 0), (17, .bool (decide (x1 < 0)))]) (H2 := []) (by kernel_rfl) ?_
  refine RJ.end (by kernel_rfl) ?_
  refine PJ.next ?_
  refine J.caseB 17 (b := (decide (x1 < 0))) (by kernel_rfl) (fun hb1 => ?_) (fun hb1 => ?_)
  · have h2 := condT hb1 h
    refine K.condT (by kernel_rfl) ?_
    refine K.seq (by kernel_rfl) ?_
    refine K.region (by kernel_rfl) ?_
    refine RJ.seg 3 [0, 1, 4, 5, 6] (L2 := [(0, lsv (encI .u8) 1 x0), (1, .int .i64 x1), (4, .nl), (5, .int .i64 0), (6, .int .i64 1)]) (H2 := []) (by kernel_rfl) ?_
    refine RJ.end (by kernel_rfl) ?_
    refine PJ.next ?_
    refine K.ret (by kernel_rfl) ?_
    refine PJ.passRet ?_
    obtain rfl := Option.some.inj h2
    refine PJ.res (v1 := .tup [.nl, .int .i64 0, .int .i64 1]) (Le.tup (.cons (Le.nl _) (.cons (Le.refl _) (.cons (Le.refl _) .nil)))) ?_
    exact K.ret0 (.inr rfl) hFn hFH hFD (by kernel_rfl) (by kernel_rfl) (by kernel_rfl)
  · have h3 := condF hb1 h
    refine K.condF (by kernel_rfl) ?_
    refine K.skip (by kernel_rfl) ?_
    refine PJ.next ?_
    refine K.seq (by kernel_rfl) ?_
    refine K.region (by kernel_rfl) ?_
    refine RJ.seg 2 [0, 4, 5, 6, 19, 20] (L2 := [(0, lsv (encI .u8) 1 x0), (4, .nl), (5, .int .i64 0), (6, .int .i64 0), (19, lsv (encI .u8) 1 x0), (20, .int .i64 x1)]) (H2 := []) (by kernel_rfl) ?_
    obtain ⟨y4, hy5, h6⟩ := bindS h3
    refine RJ.call0 (d := (some 21)) (f := 14) (args := [lsv (encI .u8) 1 x0, .int .i64 x1, .int .i64 2]) (v := .tup [.int .u32 y4.1, .int .i64 y4.2.1, .int .i64 y4.2.2]) (tr2 := []) (by kernel_rfl) (by kernel_rfl) (.cons (Le.refl _) (.cons (Le.refl _) (.cons (Le.refl _) .nil))) (exergueref09_Take_ok hy5) (by kernel_rfl) ?_
    refine RJ.seg 7 [0, 4, 5, 6, 7, 8, 9] (L2 := [(0, lsv (encI .u8) 1 x0), (4, .nl), (5, .int .i64 0), (6, .int .i64 0), (7, .int .u32 y4.1), (8, .int .i64 y4.2.1), (9, .int .i64 y4.2.2)]) (H2 := []) (by kernel_rfl) ?_
    refine RJ.end (by kernel_rfl) ?_
    refine PJ.next ?_
    refine K.seq (by kernel_rfl) ?_
    refine K.seq (by kernel_rfl) ?_
    refine K.region (by kernel_rfl) ?_
    refine RJ.seg 2 [0, 4, 5, 6, 7, 8, 9, 26] (L2 := [(0, lsv (encI .u8) 1 x0), (4, .nl), (5, .int .i64 0), (6, .int .i64 0), (7, .int .u32 y4.1), (8, .int .i64 y4.2.1), (9, .int .i64 y4.2.2), (26, .bool (decide (¬ y4.2.2 = 0)))]) (H2 := []) (by kernel_rfl) ?_
    refine RJ.end (by kernel_rfl) ?_
    refine PJ.next ?_
    refine J.caseB 26 (b := (decide (¬ y4.2.2 = 0))) (by kernel_rfl) (fun hb7 => ?_) (fun hb7 => ?_)
    · have h8 := condT hb7 h6
      refine K.condT (by kernel_rfl) ?_
      refine K.seq (by kernel_rfl) ?_
      refine K.region (by kernel_rfl) ?_
      refine RJ.seg 4 [0, 4, 5, 6, 7, 8] (L2 := [(0, lsv (encI .u8) 1 x0), (4, .nl), (5, .int .i64 0), (6, .int .i64 y4.2.2), (7, .int .u32 y4.1), (8, .int .i64 y4.2.1)]) (H2 := []) (by kernel_rfl) ?_
      refine RJ.end (by kernel_rfl) ?_
      refine PJ.next ?_
      refine K.ret (by kernel_rfl) ?_
      refine PJ.passRet ?_
      obtain rfl := Option.some.inj h8
      refine PJ.res (v1 := .tup [.nl, .int .i64 0, .int .i64 y4.2.2]) (Le.tup (.cons (Le.nl _) (.cons (Le.refl _) (.cons (Le.refl _) .nil)))) ?_
      exact K.ret0 (.inr rfl) hFn hFH hFD (by kernel_rfl) (by kernel_rfl) (by kernel_rfl)
    · have h9 := condF hb7 h6
      refine K.condF (by kernel_rfl) ?_
      refine K.skip (by kernel_rfl) ?_
      refine PJ.next ?_
      refine K.seq (by kernel_rfl) ?_
      refine K.region (by kernel_rfl) ?_
      refine RJ.seg 1 [0, 4, 5, 6, 7, 8, 10] (L2 := [(0, lsv (encI .u8) 1 x0), (4, .nl), (5, .int .i64 0), (6, .int .i64 0), (7, .int .u32 y4.1), (8, .int .i64 y4.2.1), (10, .nl)]) (H2 := []) (by kernel_rfl) ?_
      refine RJ.end (by kernel_rfl) ?_
      refine PJ.next ?_
      obtain ⟨y332, hy333, h334⟩ := bindS h9
      refine K.cutX (by kernel_rfl) (fun (s331 : Int × (List (List UInt8))) => ([(4, .nl), (5, .int .i64 0), (6, .int .i64 0), (8, .int .i64 s331.1), (10, .vc 0)], [vecL encT 1 9 s331.2])) y332 ?_ (fun s331 hs => ?_)
      · refine K.seq (by kernel_rfl) ?_
        refine K.region (by kernel_rfl) ?_
        refine RJ.seg 1 [0, 4, 5, 6, 7, 8, 10, 11] (L2 := [(0, lsv (encI .u8) 1 x0), (4, .nl), (5, .int .i64 0), (6, .int .i64 0), (7, .int .u32 y4.1), (8, .int .i64 y4.2.1), (10, .nl), (11, .int .i64 0)]) (H2 := []) (by kernel_rfl) ?_
        refine RJ.end (by kernel_rfl) ?_
        refine PJ.next ?_
        refine K.block 0 (by kernel_rfl) ?_
        refine J.wk (Wk.viv 10 1 9 (by kernel_rfl)) ?_
        refine K.loop (by kernel_rfl) (fun (s336 : Int × Int × (List (List UInt8))) => ([(0, lsv (encI .u8) 1 x0), (4, .nl), (5, .int .i64 0), (6, .int .i64 0), (7, .int .u32 y4.1), (8, .int .i64 s336.1), (10, .vc 0), (11, .int .i64 s336.2.1)], [vecL encT 1 9 s336.2.2])) hy333 [0, 4, 5, 6, 7, 8, 10, 11] (by kernel_rfl) (by kernel_rfl) (fun s336 x550 hs549 => ?_)
        refine K.seq (by kernel_rfl) ?_
        refine K.seq (by kernel_rfl) ?_
        refine K.region (by kernel_rfl) ?_
        refine RJ.seg 4 [0, 4, 5, 6, 7, 8, 10, 11, 31] (L2 := [(0, lsv (encI .u8) 1 x0), (4, .nl), (5, .int .i64 0), (6, .int .i64 0), (7, .int .u32 y4.1), (8, .int .i64 s336.1), (10, .vc 0), (11, .int .i64 s336.2.1), (31, .bool ((decide (s336.2.1 < (IntKind.wrap .i64 y4.1)))))]) (H2 := [vecL encT 1 9 s336.2.2]) (by kernel_rfl) ?_
        refine RJ.end (by kernel_rfl) ?_
        refine PJ.next ?_
        refine J.caseB 31 (b := (decide (s336.2.1 < (IntKind.wrap .i64 y4.1)))) (by kernel_rfl) (fun hb551 => ?_) (fun hb551 => ?_)
        · have h552 := condT hb551 hs549
          refine K.condT (by kernel_rfl) ?_
          refine K.skip (by kernel_rfl) ?_
          refine PJ.next ?_
          obtain ⟨y603, hy604, h605⟩ := bindS h552
          refine K.cutX (by kernel_rfl) (fun (s602 : Int × (List (List UInt8))) => ([(0, lsv (encI .u8) 1 x0), (4, .nl), (5, .int .i64 0), (6, .int .i64 0), (7, .int .u32 y4.1), (8, .int .i64 s602.1), (10, .vc 0), (11, .int .i64 s336.2.1)], [vecL encT 1 9 s602.2])) y603 ?_ (fun s602 hs => ?_)
          · refine K.block 1 (by kernel_rfl) ?_
            refine K.seq (by kernel_rfl) ?_
            refine K.region (by kernel_rfl) ?_
            refine RJ.seg 2 [0, 4, 5, 6, 7, 8, 10, 11, 35, 36] (L2 := [(0, lsv (encI .u8) 1 x0), (4, .nl), (5, .int .i64 0), (6, .int .i64 0), (7, .int .u32 y4.1), (8, .int .i64 s336.1), (10, .vc 0), (11, .int .i64 s336.2.1), (35, lsv (encI .u8) 1 x0), (36, .int .i64 s336.1)]) (H2 := [vecL encT 1 9 s336.2.2]) (by kernel_rfl) ?_
            obtain ⟨y607, hy608, h609⟩ := bindS hy604
            refine RJ.call0 (d := (some 37)) (f := 14) (args := [lsv (encI .u8) 1 x0, .int .i64 s336.1, .int .i64 2]) (v := .tup [.int .u32 y607.1, .int .i64 y607.2.1, .int .i64 y607.2.2]) (tr2 := []) (by kernel_rfl) (by kernel_rfl) (.cons (Le.refl _) (.cons (Le.refl _) (.cons (Le.refl _) .nil))) (exergueref09_Take_ok hy608) (by kernel_rfl) ?_
            refine RJ.seg 7 [0, 4, 5, 6, 7, 8, 10, 11, 12, 13, 14] (L2 := [(0, lsv (encI .u8) 1 x0), (4, .nl), (5, .int .i64 0), (6, .int .i64 0), (7, .int .u32 y4.1), (8, .int .i64 s336.1), (10, .vc 0), (11, .int .i64 s336.2.1), (12, .int .u32 y607.1), (13, .int .i64 y607.2.1), (14, .int .i64 y607.2.2)]) (H2 := [vecL encT 1 9 s336.2.2]) (by kernel_rfl) ?_
            refine RJ.end (by kernel_rfl) ?_
            refine PJ.next ?_
            obtain ⟨y630, hy631, h632⟩ := bindS h609
            refine K.cutX (by kernel_rfl) (fun (s629 : Unit) => ([(0, lsv (encI .u8) 1 x0), (4, .nl), (5, .int .i64 0), (6, .int .i64 0), (7, .int .u32 y4.1), (8, .int .i64 s336.1), (10, .vc 0), (11, .int .i64 s336.2.1), (12, .int .u32 y607.1), (13, .int .i64 y607.2.1)], [vecL encT 1 9 s336.2.2])) y630 ?_ (fun s629 hs => ?_)
            · obtain ⟨s637, hy639, h641⟩ := bindS hy631
              refine K.cutN (by kernel_rfl) (fun (s637 : Bool) => ([(0, lsv (encI .u8) 1 x0), (4, .nl), (5, .int .i64 0), (6, .int .i64 0), (7, .int .u32 y4.1), (8, .int .i64 s336.1), (10, .vc 0), (11, .int .i64 s336.2.1), (12, .int .u32 y607.1), (13, .int .i64 y607.2.1), (51, .bool s637)], [vecL encT 1 9 s336.2.2])) s637 ?_ ?_
              · refine K.region (by kernel_rfl) ?_
                refine RJ.seg 3 [0, 4, 5, 6, 7, 8, 10, 11, 12, 13, 43] (L2 := [(0, lsv (encI .u8) 1 x0), (4, .nl), (5, .int .i64 0), (6, .int .i64 0), (7, .int .u32 y4.1), (8, .int .i64 s336.1), (10, .vc 0), (11, .int .i64 s336.2.1), (12, .int .u32 y607.1), (13, .int .i64 y607.2.1), (43, .bool (decide (¬ y607.2.2 = 0)))]) (H2 := [vecL encT 1 9 s336.2.2]) (by kernel_rfl) ?_
                refine RJ.caseB 43 (b := (decide (¬ y607.2.2 = 0))) (by kernel_rfl) (fun hb642 => ?_) (fun hb642 => ?_)
                · have h643 := condT hb642 hy639
                  refine RJ.seg 8 [0, 4, 5, 6, 7, 8, 10, 11, 12, 13, 51] (L2 := [(0, lsv (encI .u8) 1 x0), (4, .nl), (5, .int .i64 0), (6, .int .i64 0), (7, .int .u32 y4.1), (8, .int .i64 s336.1), (10, .vc 0), (11, .int .i64 s336.2.1), (12, .int .u32 y607.1), (13, .int .i64 y607.2.1), (51, .bool true)]) (H2 := [vecL encT 1 9 s336.2.2]) (by kernel_rfl) ?_
                  refine RJ.end (by kernel_rfl) ?_
                  obtain rfl := Option.some.inj h643
                  exact PJ.cutN [0, 4, 5, 6, 7, 8, 10, 11, 12, 13, 51] (by kernel_rfl) (by kernel_rfl)
                · have h644 := condF hb642 hy639
                  refine RJ.seg 8 [0, 4, 5, 6, 7, 8, 10, 11, 12, 13, 51] (L2 := [(0, lsv (encI .u8) 1 x0), (4, .nl), (5, .int .i64 0), (6, .int .i64 0), (7, .int .u32 y4.1), (8, .int .i64 s336.1), (10, .vc 0), (11, .int .i64 s336.2.1), (12, .int .u32 y607.1), (13, .int .i64 y607.2.1), (51, .bool ((decide (((IntKind.wrap .i64 (y607.2.1 + (IntKind.wrap .i64 y607.1)))) > (x0.length : Int)))))]) (H2 := [vecL encT 1 9 s336.2.2]) (by kernel_rfl) ?_
                  refine RJ.end (by kernel_rfl) ?_
                  obtain rfl := Option.some.inj h644
                  exact PJ.cutN [0, 4, 5, 6, 7, 8, 10, 11, 12, 13, 51] (by kernel_rfl) (by kernel_rfl)
              · refine J.caseB 51 (b := s637) (by kernel_rfl) (fun hb645 => ?_) (fun hb645 => ?_)
                · have h646 := condT hb645 h641
                  refine K.condT (by kernel_rfl) ?_
                  refine K.seq (by kernel_rfl) ?_
                  refine K.region (by kernel_rfl) ?_
                  refine RJ.seg 3 [0, 4, 5, 6, 7, 8, 10, 11, 12, 13] (L2 := [(0, lsv (encI .u8) 1 x0), (4, .nl), (5, .int .i64 0), (6, .int .i64 2), (7, .int .u32 y4.1), (8, .int .i64 s336.1), (10, .vc 0), (11, .int .i64 s336.2.1), (12, .int .u32 y607.1), (13, .int .i64 y607.2.1)]) (H2 := [vecL encT 1 9 s336.2.2]) (by kernel_rfl) ?_
                  refine RJ.end (by kernel_rfl) ?_
                  refine PJ.next ?_
                  refine K.ret (by kernel_rfl) ?_
                  obtain rfl := Option.some.inj h646
                  have h648 := joinX_inr h632
                  refine PJ.cutXr (fun e => nomatch e) ?_
                  refine PJ.blockRet ?_
                  obtain rfl := Option.some.inj h648
                  have h649 := joinX_inr h605
                  refine PJ.cutXr (fun e => nomatch e) ?_
                  obtain rfl := Option.some.inj h649
                  refine PJ.loopOut (fun e => nomatch e) (fun he652 => ?_)
                  have h650 := congrArg some he652
                  refine PJ.blockRet ?_
                  obtain rfl := Option.some.inj h650
                  have h651 := joinX_inr h334
                  refine PJ.cutXr (fun e => nomatch e) ?_
                  obtain rfl := Option.some.inj h651
                  refine PJ.res (v1 := .tup [.nl, .int .i64 0, .int .i64 2]) (Le.tup (.cons (Le.nl _) (.cons (Le.refl _) (.cons (Le.refl _) .nil)))) ?_
                  exact K.ret0 (.inr rfl) hFn hFH hFD (by kernel_rfl) (by kernel_rfl) (by kernel_rfl)
                · have h647 := condF hb645 h641
                  refine K.condF (by kernel_rfl) ?_
                  refine K.skip (by kernel_rfl) ?_
                  obtain rfl := Option.some.inj h647
                  exact PJ.cutXl [0, 4, 5, 6, 7, 8, 10, 11, 12, 13] (by kernel_rfl) (by kernel_rfl)
            · subst hs
              have h633 := joinX_inl h632
              refine K.seq (by kernel_rfl) ?_
              refine K.region (by kernel_rfl) ?_
              refine RJ.seg 7 [0, 4, 5, 6, 7, 8, 10, 11, 12, 13, 52, 53, 54, 58] (L2 := [(0, lsv (encI .u8) 1 x0), (4, .nl), (5, .int .i64 0), (6, .int .i64 0), (7, .int .u32 y4.1), (8, .int .i64 s336.1), (10, .vc 0), (11, .int .i64 s336.2.1), (12, .int .u32 y607.1), (13, .int .i64 y607.2.1), (52, .vc 0), (53, lsv (encI .u8) 1 x0), (54, .int .i64 y607.2.1), (58, .int .i64 ((IntKind.wrap .i64 (y607.2.1 + (IntKind.wrap .i64 y607.1)))))]) (H2 := [vecL encT 1 9 s336.2.2]) (by kernel_rfl) ?_
              obtain ⟨hm, h653⟩ := asrt h633
              refine RJ.rel (d := (some 59)) (ef := ⟨.lst (((IntKind.wrap .i64 (y607.2.1 + (IntKind.wrap .i64 y607.1))) : Int).toNat - (y607.2.1 : Int).toNat) 1 (((x0.flatMap (encI .u8)).take (((IntKind.wrap .i64 (y607.2.1 + (IntKind.wrap .i64 y607.1))) : Int).toNat * 1)).drop ((y607.2.1 : Int).toNat * 1)), [], []⟩) (ef' := ⟨.lst (cut x0 y607.2.1 ((IntKind.wrap .i64 (y607.2.1 + (IntKind.wrap .i64 y607.1))))).length 1 ((cut x0 y607.2.1 ((IntKind.wrap .i64 (y607.2.1 + (IntKind.wrap .i64 y607.1))))).flatMap (encI .u8)), [], []⟩) (c := inS y607.2.1 ((IntKind.wrap .i64 (y607.2.1 + (IntKind.wrap .i64 y607.1)))) x0.length) (tr2 := []) (H2 := [vecL encT 1 9 s336.2.2]) (by kernel_rfl) hm (fun hc => N.slice (encI_len .u8) hc) (by kernel_rfl) ?_
              refine RJ.rel (d := (some 60)) (ef := ⟨.str ((((cut x0 y607.2.1 ((IntKind.wrap .i64 (y607.2.1 + (IntKind.wrap .i64 y607.1)))))).flatMap (encI .u8)).map Go.Sy.byteOf), [], []⟩) (ef' := ⟨.str (bytesS ((cut x0 y607.2.1 ((IntKind.wrap .i64 (y607.2.1 + (IntKind.wrap .i64 y607.1))))))), [], []⟩) (c := (((cut x0 y607.2.1 ((IntKind.wrap .i64 (y607.2.1 + (IntKind.wrap .i64 y607.1)))))).flatMap (encI .u8)).all isByte) (tr2 := []) (H2 := [vecL encT 1 9 s336.2.2]) (by kernel_rfl) (allByte ((cut x0 y607.2.1 ((IntKind.wrap .i64 (y607.2.1 + (IntKind.wrap .i64 y607.1))))))) (fun hc => N.toStr) (by kernel_rfl) ?_
              refine RJ.seg 1 [0, 4, 5, 6, 7, 8, 10, 11, 12, 13, 52, 61] (L2 := [(0, lsv (encI .u8) 1 x0), (4, .nl), (5, .int .i64 0), (6, .int .i64 0), (7, .int .u32 y4.1), (8, .int .i64 s336.1), (10, .vc 0), (11, .int .i64 s336.2.1), (12, .int .u32 y607.1), (13, .int .i64 y607.2.1), (52, .vc 0), (61, .vc 1)]) (H2 := [vecL encT 1 9 s336.2.2, vecL encT 1 9 (([(bytesS ((cut x0 y607.2.1 ((IntKind.wrap .i64 (y607.2.1 + (IntKind.wrap .i64 y607.1)))))))] : List (List UInt8)))]) (by kernel_rfl) ?_
              obtain ⟨hm, h654⟩ := asrt h653
              refine RJ.rel (d := (some 62)) (ef := ⟨.vc 2, [0, 1], [(0, .gone), (2, .vec (s336.2.2.length + (([(bytesS ((cut x0 y607.2.1 ((IntKind.wrap .i64 (y607.2.1 + (IntKind.wrap .i64 y607.1)))))))] : List (List UInt8))).length) 1 9 (s336.2.2.flatMap encT ++ (([(bytesS ((cut x0 y607.2.1 ((IntKind.wrap .i64 (y607.2.1 + (IntKind.wrap .i64 y607.1)))))))] : List (List UInt8))).flatMap encT))]⟩) (ef' := ⟨.vc 2, [0, 1], [(0, .gone), (2, vecL encT 1 9 (s336.2.2 ++ (([(bytesS ((cut x0 y607.2.1 ((IntKind.wrap .i64 (y607.2.1 + (IntKind.wrap .i64 y607.1)))))))] : List (List UInt8)))))]⟩) (c := room (s336.2.2.length + (([(bytesS ((cut x0 y607.2.1 ((IntKind.wrap .i64 (y607.2.1 + (IntKind.wrap .i64 y607.1)))))))] : List (List UInt8))).length)) (tr2 := []) (H2 := [.gone, vecL encT 1 9 (([(bytesS ((cut x0 y607.2.1 ((IntKind.wrap .i64 (y607.2.1 + (IntKind.wrap .i64 y607.1)))))))] : List (List UInt8))), vecL encT 1 9 ((s336.2.2 ++ (([(bytesS ((cut x0 y607.2.1 ((IntKind.wrap .i64 (y607.2.1 + (IntKind.wrap .i64 y607.1)))))))] : List (List UInt8)))))]) (by kernel_rfl) hm (fun hc => N.app) (by kernel_rfl) ?_
              refine RJ.seg 1 [0, 4, 5, 6, 7, 8, 10, 11, 12, 13] (L2 := [(0, lsv (encI .u8) 1 x0), (4, .nl), (5, .int .i64 0), (6, .int .i64 0), (7, .int .u32 y4.1), (8, .int .i64 s336.1), (10, .vc 2), (11, .int .i64 s336.2.1), (12, .int .u32 y607.1), (13, .int .i64 y607.2.1)]) (H2 := [.gone, vecL encT 1 9 (([(bytesS ((cut x0 y607.2.1 ((IntKind.wrap .i64 (y607.2.1 + (IntKind.wrap .i64 y607.1)))))))] : List (List UInt8))), vecL encT 1 9 ((s336.2.2 ++ (([(bytesS ((cut x0 y607.2.1 ((IntKind.wrap .i64 (y607.2.1 + (IntKind.wrap .i64 y607.1)))))))] : List (List UInt8)))))]) (by kernel_rfl) ?_
              refine RJ.end (by kernel_rfl) ?_
              refine PJ.next ?_
              refine K.region (by kernel_rfl) ?_
              refine RJ.seg 5 [0, 4, 5, 6, 7, 8, 10, 11] (L2 := [(0, lsv (encI .u8) 1 x0), (4, .nl), (5, .int .i64 0), (6, .int .i64 0), (7, .int .u32 y4.1), (8, .int .i64 ((IntKind.wrap .i64 (y607.2.1 + (IntKind.wrap .i64 y607.1))))), (10, .vc 2), (11, .int .i64 s336.2.1)]) (H2 := [.gone, vecL encT 1 9 (([(bytesS ((cut x0 y607.2.1 ((IntKind.wrap .i64 (y607.2.1 + (IntKind.wrap .i64 y607.1)))))))] : List (List UInt8))), vecL encT 1 9 ((s336.2.2 ++ (([(bytesS ((cut x0 y607.2.1 ((IntKind.wrap .i64 (y607.2.1 + (IntKind.wrap .i64 y607.1)))))))] : List (List UInt8)))))]) (by kernel_rfl) ?_
              refine RJ.end (by kernel_rfl) ?_
              refine PJ.blockNormal ?_
              obtain rfl := Option.some.inj h654
              refine PJ.wk (Wk.sel (L2 := [(0, lsv (encI .u8) 1 x0), (4, .nl), (5, .int .i64 0), (6, .int .i64 0), (7, .int .u32 y4.1), (8, .int .i64 ((IntKind.wrap .i64 (y607.2.1 + (IntKind.wrap .i64 y607.1))))), (10, .vc 0), (11, .int .i64 s336.2.1)]) (H2 := [vecL encT 1 9 ((s336.2.2 ++ (([(bytesS ((cut x0 y607.2.1 ((IntKind.wrap .i64 (y607.2.1 + (IntKind.wrap .i64 y607.1)))))))] : List (List UInt8)))))]) 0 (by rw [hFH]; rfl) hFD [2] (by kernel_rfl) (by kernel_rfl) (by decide) (by kernel_rfl) (by kernel_rfl) (by kernel_rfl) (by kernel_rfl)) ?_
              exact PJ.cutXl [0, 4, 5, 6, 7, 8, 10, 11] (by kernel_rfl) (by kernel_rfl)
          · subst hs
            have h606 := joinX_inl h605
            refine K.region (by kernel_rfl) ?_
            refine RJ.seg 3 [0, 4, 5, 6, 7, 8, 10, 11] (L2 := [(0, lsv (encI .u8) 1 x0), (4, .nl), (5, .int .i64 0), (6, .int .i64 0), (7, .int .u32 y4.1), (8, .int .i64 s602.1), (10, .vc 0), (11, .int .i64 (IntKind.wrap .i64 (s336.2.1 + 1)))]) (H2 := [vecL encT 1 9 s602.2]) (by kernel_rfl) ?_
            refine RJ.end (by kernel_rfl) ?_
            obtain rfl := Option.some.inj h606
            exact PJ.loopNext [0, 4, 5, 6, 7, 8, 10, 11] (by kernel_rfl) (by kernel_rfl)
        · have h553 := condF hb551 hs549
          refine K.condF (by kernel_rfl) ?_
          refine K.exit 0 (by kernel_rfl) ?_
          refine PJ.passExit ?_
          obtain rfl := Option.some.inj h553
          refine PJ.loopOut (fun e => nomatch e) (fun he656 => ?_)
          have h655 := congrArg some he656
          refine PJ.blockOut ?_
          obtain rfl := Option.some.inj h655
          exact PJ.cutXl [4, 5, 6, 8, 10] (by kernel_rfl) (by kernel_rfl)
      · subst hs
        have h335 := joinX_inl h334
        refine K.seq (by kernel_rfl) ?_
        refine K.region (by kernel_rfl) ?_
        refine RJ.seg 1 [4, 5, 6, 8, 10, 67] (L2 := [(4, .nl), (5, .int .i64 0), (6, .int .i64 0), (8, .int .i64 s331.1), (10, .vc 0), (67, .vc 0)]) (H2 := [vecL encT 1 9 s331.2]) (by kernel_rfl) ?_
        obtain ⟨y657, hy658, h659⟩ := bindS h335
        refine RJ.callL (d := (some 68)) (f := 28) (args := [.vc 0]) (args0 := [.vc 0]) (args1 := [lsv encT 1 s331.2]) (H0 := [vecL encT 1 9 s331.2]) (v := .bool y657) (tr2 := []) [0] (by kernel_rfl) (by kernel_rfl) (by kernel_rfl) (by kernel_rfl) (by decide) (by kernel_rfl) (by kernel_rfl) (by kernel_rfl) (by kernel_rfl) (.cons (Le.refl _) .nil) (exergueref09_Pool_ok hy658) (by kernel_rfl) (by kernel_rfl) ?_
        refine RJ.seg 1 [4, 5, 6, 8, 10, 15] (L2 := [(4, .nl), (5, .int .i64 0), (6, .int .i64 0), (8, .int .i64 s331.1), (10, .vc 0), (15, .bool y657)]) (H2 := [vecL encT 1 9 s331.2]) (by kernel_rfl) ?_
        refine RJ.end (by kernel_rfl) ?_
        refine PJ.next ?_
        refine K.seq (by kernel_rfl) ?_
        refine K.seq (by kernel_rfl) ?_
        refine K.region (by kernel_rfl) ?_
        refine RJ.seg 2 [4, 5, 6, 8, 10, 70] (L2 := [(4, .nl), (5, .int .i64 0), (6, .int .i64 0), (8, .int .i64 s331.1), (10, .vc 0), (70, .bool (!y657))]) (H2 := [vecL encT 1 9 s331.2]) (by kernel_rfl) ?_
        refine RJ.end (by kernel_rfl) ?_
        refine PJ.next ?_
        refine J.caseB 70 (b := (!y657)) (by kernel_rfl) (fun hb660 => ?_) (fun hb660 => ?_)
        · have h661 := condT hb660 h659
          refine K.condT (by kernel_rfl) ?_
          refine K.seq (by kernel_rfl) ?_
          refine K.region (by kernel_rfl) ?_
          refine RJ.seg 3 [4, 5, 6, 8, 10] (L2 := [(4, .nl), (5, .int .i64 0), (6, .int .i64 2), (8, .int .i64 s331.1), (10, .vc 0)]) (H2 := [vecL encT 1 9 s331.2]) (by kernel_rfl) ?_
          refine RJ.end (by kernel_rfl) ?_
          refine PJ.next ?_
          refine K.ret (by kernel_rfl) ?_
          refine PJ.passRet ?_
          obtain rfl := Option.some.inj h661
          refine PJ.res (v1 := .tup [.nl, .int .i64 0, .int .i64 2]) (Le.tup (.cons (Le.nl _) (.cons (Le.refl _) (.cons (Le.refl _) .nil)))) ?_
          exact K.ret0 (.inr rfl) hFn hFH hFD (by kernel_rfl) (by kernel_rfl) (by kernel_rfl)
        · have h662 := condF hb660 h659
          refine K.condF (by kernel_rfl) ?_
          refine K.skip (by kernel_rfl) ?_
          refine PJ.next ?_
          refine K.seq (by kernel_rfl) ?_
          refine K.region (by kernel_rfl) ?_
          refine RJ.seg 5 [4, 5, 6] (L2 := [(4, .vc 0), (5, .int .i64 s331.1), (6, .int .i64 0)]) (H2 := [vecL encT 1 9 s331.2]) (by kernel_rfl) ?_
          refine RJ.end (by kernel_rfl) ?_
          refine PJ.next ?_
          refine K.ret (by kernel_rfl) ?_
          obtain rfl := Option.some.inj h662
          refine PJ.wk (Wk.freeze 0 (n := s331.2.length) (k := 1) (e := 9) (cs := s331.2.flatMap encT) (by kernel_rfl)) ?_
          exact K.ret0 (.inr rfl) hFn hFH hFD (by kernel_rfl) (by kernel_rfl) (by kernel_rfl)

def exerguelaw09_PackPools (x0 : List Int) (x1 : List (List UInt8)) (x2 : Int) : Option (Bool) :=
  (Option.bind exerguelaw09_shown fun y1 => (Option.bind (Option.bind (Option.bind (exergueref09_Short x1) fun y41 => (bif (!y41) then (some true) else (some ((decide ((x0.length : Int) > 20000)))))) fun (s36 : Bool) => (bif s36 then (some (.inr y1)) else (some (.inl ())))) (joinX fun (s25 : Unit) => (Option.bind (pack_PutPool x0 x1) fun y51 => (Option.bind (exergueref09_PutPool x0 x1) fun y54 => (Option.bind (pack_TakePool x0 x2) fun y57 => (Option.bind (exergueref09_TakePool x0 x2) fun y60 => (Option.bind (bif y1 then (Option.bind (exergueref01_Row y51.1 y54.1) fun y92 => (bif y92 then (bif (decide (y51.2 = y54.2)) then (Option.bind (exergueref09_Texts y57.1 y60.1) fun y101 => (bif y101 then (bif (decide (y57.2.1 = y60.2.1)) then (some (decide (y57.2.2 = y60.2.2))) else (some false)) else (some false))) else (some false)) else (some false))) else (some false)) fun (s84 : Bool) => (some s84)))))))))
theorem exerguelaw09_PackPools_ok {x0 : List Int} {x1 : List (List UInt8)} {x2 : Int} {r : Bool} (h : exerguelaw09_PackPools x0 x1 x2 = some r) : SC Try.prog 5 [lsv (encI .u8) 1 x0, lsv encT 1 x1, .int .i64 x2] [] (.bool r) [] := by
  refine K.fn (fn := Try.f5) (by kernel_rfl) (by kernel_rfl) (by kernel_rfl) (by kernel_rfl) (by kernel_rfl) (fun F hFn hFH hFD => ?_)
  unfold exerguelaw09_PackPools at h
  refine K.seq (by kernel_rfl) ?_
  refine K.region (by kernel_rfl) ?_
  refine RJ.seg 1 [0, 1, 2, 6] (L2 := [(0, lsv (encI .u8) 1 x0), (1, lsv encT 1 x1), (2, .int .i64 x2), (6, .bool false)]) (H2 := []) (by kernel_rfl) ?_
  refine RJ.end (by kernel_rfl) ?_
  refine PJ.next ?_
  refine K.seq (by kernel_rfl) ?_
  refine K.region (by kernel_rfl) ?_
  obtain ⟨y1, hy2, h3⟩ := bindS h
  refine RJ.call0 (d := (some 18)) (f := 10) (args := []) (v := .bool y1) (tr2 := []) (by kernel_rfl) (by kernel_rfl) .nil (exerguelaw09_shown_ok hy2) (by kernel_rfl) ?_
  refine RJ.seg 1 [0, 1, 2, 6, 7] (L2 := [(0, lsv (encI .u8) 1 x0), (1, lsv encT 1 x1), (2, .int .i64 x2), (6, .bool false), (7, .bool y1)]) (H2 := []) (by kernel_rfl) ?_
  refine RJ.end (by kernel_rfl) ?_
  refine PJ.next ?_
  obtain ⟨y26, hy27, h28⟩ := bindS h3
  refine K.cutX (by kernel_rfl) (fun (s25 : Unit) => ([(0, lsv (encI .u8) 1 x0), (1, lsv encT 1 x1), (2, .int .i64 x2), (6, .bool false), (7, .bool y1)], [])) y26 ?_ (fun s25 hs => ?_)
  · obtain ⟨s36, hy38, h40⟩ := bindS hy27
    refine K.cutN (by kernel_rfl) (fun (s36 : Bool) => ([(0, lsv (encI .u8) 1 x0), (1, lsv encT 1 x1), (2, .int .i64 x2), (6, .bool false), (7, .bool y1), (26, .bool s36)], [])) s36 ?_ ?_
    · refine K.region (by kernel_rfl) ?_
      refine RJ.seg 1 [0, 1, 2, 6, 7, 19] (L2 := [(0, lsv (encI .u8) 1 x0), (1, lsv encT 1 x1), (2, .int .i64 x2), (6, .bool false), (7, .bool y1), (19, lsv encT 1 x1)]) (H2 := []) (by kernel_rfl) ?_
      obtain ⟨y41, hy42, h43⟩ := bindS hy38
      refine RJ.call0 (d := (some 20)) (f := 16) (args := [lsv encT 1 x1]) (v := .bool y41) (tr2 := []) (by kernel_rfl) (by kernel_rfl) (.cons (Le.refl _) .nil) (exergueref09_Short_ok hy42) (by kernel_rfl) ?_
      refine RJ.seg 2 [0, 1, 2, 6, 7, 22] (L2 := [(0, lsv (encI .u8) 1 x0), (1, lsv encT 1 x1), (2, .int .i64 x2), (6, .bool false), (7, .bool y1), (22, .bool (!y41))]) (H2 := []) (by kernel_rfl) ?_
      refine RJ.caseB 22 (b := (!y41)) (by kernel_rfl) (fun hb44 => ?_) (fun hb44 => ?_)
      · have h45 := condT hb44 h43
        refine RJ.seg 4 [0, 1, 2, 6, 7, 26] (L2 := [(0, lsv (encI .u8) 1 x0), (1, lsv encT 1 x1), (2, .int .i64 x2), (6, .bool false), (7, .bool y1), (26, .bool true)]) (H2 := []) (by kernel_rfl) ?_
        refine RJ.end (by kernel_rfl) ?_
        obtain rfl := Option.some.inj h45
        exact PJ.cutN [0, 1, 2, 6, 7, 26] (by kernel_rfl) (by kernel_rfl)
      · have h46 := condF hb44 h43
        refine RJ.seg 4 [0, 1, 2, 6, 7, 26] (L2 := [(0, lsv (encI .u8) 1 x0), (1, lsv encT 1 x1), (2, .int .i64 x2), (6, .bool false), (7, .bool y1), (26, .bool ((decide ((x0.length : Int) > 20000))))]) (H2 := []) (by kernel_rfl) ?_
        refine RJ.end (by kernel_rfl) ?_
        obtain rfl := Option.some.inj h46
        exact PJ.cutN [0, 1, 2, 6, 7, 26] (by kernel_rfl) (by kernel_rfl)
    · refine J.caseB 26 (b := s36) (by kernel_rfl) (fun hb47 => ?_) (fun hb47 => ?_)
      · have h48 := condT hb47 h40
        refine K.condT (by kernel_rfl) ?_
        refine K.seq (by kernel_rfl) ?_
        refine K.region (by kernel_rfl) ?_
        refine RJ.seg 2 [0, 1, 2, 6, 7] (L2 := [(0, lsv (encI .u8) 1 x0), (1, lsv encT 1 x1), (2, .int .i64 x2), (6, .bool y1), (7, .bool y1)]) (H2 := []) (by kernel_rfl) ?_
        refine RJ.end (by kernel_rfl) ?_
        refine PJ.next ?_
        refine K.ret (by kernel_rfl) ?_
        obtain rfl := Option.some.inj h48
        have h50 := joinX_inr h28
        refine PJ.cutXr (fun e => nomatch e) ?_
        obtain rfl := Option.some.inj h50
        exact K.ret0 (.inr rfl) hFn hFH hFD (by kernel_rfl) (by kernel_rfl) (by kernel_rfl)
      · have h49 := condF hb47 h40
        refine K.condF (by kernel_rfl) ?_
        refine K.skip (by kernel_rfl) ?_
        obtain rfl := Option.some.inj h49
        exact PJ.cutXl [0, 1, 2, 6, 7] (by kernel_rfl) (by kernel_rfl)
  · subst hs
    have h29 := joinX_inl h28
    refine K.seq (by kernel_rfl) ?_
    refine K.region (by kernel_rfl) ?_
    refine RJ.seg 2 [0, 1, 2, 6, 7, 29, 30] (L2 := [(0, lsv (encI .u8) 1 x0), (1, lsv encT 1 x1), (2, .int .i64 x2), (6, .bool false), (7, .bool y1), (29, lsv (encI .u8) 1 x0), (30, lsv encT 1 x1)]) (H2 := []) (by kernel_rfl) ?_
    obtain ⟨y51, hy52, h53⟩ := bindS h29
    refine RJ.call0 (d := (some 31)) (f := 23) (args := [lsv (encI .u8) 1 x0, lsv encT 1 x1]) (v := .tup [lsv (encI .u8) 1 y51.1, .int .i64 y51.2]) (tr2 := []) (by kernel_rfl) (by kernel_rfl) (.cons (Le.refl _) (.cons (Le.refl _) .nil)) (pack_PutPool_ok hy52) (by kernel_rfl) ?_
    refine RJ.seg 5 [0, 1, 2, 6, 7, 8, 9] (L2 := [(0, lsv (encI .u8) 1 x0), (1, lsv encT 1 x1), (2, .int .i64 x2), (6, .bool false), (7, .bool y1), (8, lsv (encI .u8) 1 y51.1), (9, .int .i64 y51.2)]) (H2 := []) (by kernel_rfl) ?_
    refine RJ.end (by kernel_rfl) ?_
    refine PJ.next ?_
    refine K.seq (by kernel_rfl) ?_
    refine K.region (by kernel_rfl) ?_
    refine RJ.seg 2 [0, 2, 6, 7, 8, 9, 35, 36] (L2 := [(0, lsv (encI .u8) 1 x0), (2, .int .i64 x2), (6, .bool false), (7, .bool y1), (8, lsv (encI .u8) 1 y51.1), (9, .int .i64 y51.2), (35, lsv (encI .u8) 1 x0), (36, lsv encT 1 x1)]) (H2 := []) (by kernel_rfl) ?_
    obtain ⟨y54, hy55, h56⟩ := bindS h53
    refine RJ.call0 (d := (some 37)) (f := 24) (args := [lsv (encI .u8) 1 x0, lsv encT 1 x1]) (v := .tup [lsv (encI .u8) 1 y54.1, .int .i64 y54.2]) (tr2 := []) (by kernel_rfl) (by kernel_rfl) (.cons (Le.refl _) (.cons (Le.refl _) .nil)) (exergueref09_PutPool_ok hy55) (by kernel_rfl) ?_
    refine RJ.seg 5 [0, 2, 6, 7, 8, 9, 10, 11] (L2 := [(0, lsv (encI .u8) 1 x0), (2, .int .i64 x2), (6, .bool false), (7, .bool y1), (8, lsv (encI .u8) 1 y51.1), (9, .int .i64 y51.2), (10, lsv (encI .u8) 1 y54.1), (11, .int .i64 y54.2)]) (H2 := []) (by kernel_rfl) ?_
    refine RJ.end (by kernel_rfl) ?_
    refine PJ.next ?_
    refine K.seq (by kernel_rfl) ?_
    refine K.region (by kernel_rfl) ?_
    refine RJ.seg 2 [0, 2, 6, 7, 8, 9, 10, 11, 41, 42] (L2 := [(0, lsv (encI .u8) 1 x0), (2, .int .i64 x2), (6, .bool false), (7, .bool y1), (8, lsv (encI .u8) 1 y51.1), (9, .int .i64 y51.2), (10, lsv (encI .u8) 1 y54.1), (11, .int .i64 y54.2), (41, lsv (encI .u8) 1 x0), (42, .int .i64 x2)]) (H2 := []) (by kernel_rfl) ?_
    obtain ⟨y57, hy58, h59⟩ := bindS h56
    refine RJ.call0 (d := (some 43)) (f := 25) (args := [lsv (encI .u8) 1 x0, .int .i64 x2]) (v := .tup [lsv encT 1 y57.1, .int .i64 y57.2.1, .int .i64 y57.2.2]) (tr2 := []) (by kernel_rfl) (by kernel_rfl) (.cons (Le.refl _) (.cons (Le.refl _) .nil)) (pack_TakePool_ok hy58) (by kernel_rfl) ?_
    refine RJ.seg 7 [0, 2, 6, 7, 8, 9, 10, 11, 12, 13, 14] (L2 := [(0, lsv (encI .u8) 1 x0), (2, .int .i64 x2), (6, .bool false), (7, .bool y1), (8, lsv (encI .u8) 1 y51.1), (9, .int .i64 y51.2), (10, lsv (encI .u8) 1 y54.1), (11, .int .i64 y54.2), (12, lsv encT 1 y57.1), (13, .int .i64 y57.2.1), (14, .int .i64 y57.2.2)]) (H2 := []) (by kernel_rfl) ?_
    refine RJ.end (by kernel_rfl) ?_
    refine PJ.next ?_
    refine K.seq (by kernel_rfl) ?_
    refine K.region (by kernel_rfl) ?_
    refine RJ.seg 2 [6, 7, 8, 9, 10, 11, 12, 13, 14, 48, 49] (L2 := [(6, .bool false), (7, .bool y1), (8, lsv (encI .u8) 1 y51.1), (9, .int .i64 y51.2), (10, lsv (encI .u8) 1 y54.1), (11, .int .i64 y54.2), (12, lsv encT 1 y57.1), (13, .int .i64 y57.2.1), (14, .int .i64 y57.2.2), (48, lsv (encI .u8) 1 x0), (49, .int .i64 x2)]) (H2 := []) (by kernel_rfl) ?_
    obtain ⟨y60, hy61, h62⟩ := bindS h59
    refine RJ.call0 (d := (some 50)) (f := 26) (args := [lsv (encI .u8) 1 x0, .int .i64 x2]) (v := .tup [lsv encT 1 y60.1, .int .i64 y60.2.1, .int .i64 y60.2.2]) (tr2 := []) (by kernel_rfl) (by kernel_rfl) (.cons (Le.refl _) (.cons (Le.refl _) .nil)) (exergueref09_TakePool_ok hy61) (by kernel_rfl) ?_
    refine RJ.seg 7 [6, 7, 8, 9, 10, 11, 12, 13, 14, 15, 16, 17] (L2 := [(6, .bool false), (7, .bool y1), (8, lsv (encI .u8) 1 y51.1), (9, .int .i64 y51.2), (10, lsv (encI .u8) 1 y54.1), (11, .int .i64 y54.2), (12, lsv encT 1 y57.1), (13, .int .i64 y57.2.1), (14, .int .i64 y57.2.2), (15, lsv encT 1 y60.1), (16, .int .i64 y60.2.1), (17, .int .i64 y60.2.2)]) (H2 := []) (by kernel_rfl) ?_
    refine RJ.end (by kernel_rfl) ?_
    refine PJ.next ?_
    obtain ⟨s84, hy86, h88⟩ := bindS h62
    refine K.cutN (by kernel_rfl) (fun (s84 : Bool) => ([(6, .bool s84)], [])) s84 ?_ ?_
    · refine K.region (by kernel_rfl) ?_
      refine RJ.seg 2 [6, 8, 9, 10, 11, 12, 13, 14, 15, 16, 17, 55] (L2 := [(6, .bool false), (8, lsv (encI .u8) 1 y51.1), (9, .int .i64 y51.2), (10, lsv (encI .u8) 1 y54.1), (11, .int .i64 y54.2), (12, lsv encT 1 y57.1), (13, .int .i64 y57.2.1), (14, .int .i64 y57.2.2), (15, lsv encT 1 y60.1), (16, .int .i64 y60.2.1), (17, .int .i64 y60.2.2), (55, .bool y1)]) (H2 := []) (by kernel_rfl) ?_
      refine RJ.caseB 55 (b := y1) (by kernel_rfl) (fun hb89 => ?_) (fun hb89 => ?_)
      · have h90 := condT hb89 hy86
        refine RJ.seg 2 [6, 9, 11, 12, 13, 14, 15, 16, 17, 55, 56, 57] (L2 := [(6, .bool false), (9, .int .i64 y51.2), (11, .int .i64 y54.2), (12, lsv encT 1 y57.1), (13, .int .i64 y57.2.1), (14, .int .i64 y57.2.2), (15, lsv encT 1 y60.1), (16, .int .i64 y60.2.1), (17, .int .i64 y60.2.2), (55, .bool true), (56, lsv (encI .u8) 1 y51.1), (57, lsv (encI .u8) 1 y54.1)]) (H2 := []) (by kernel_rfl) ?_
        obtain ⟨y92, hy93, h94⟩ := bindS h90
        refine RJ.call0 (d := (some 58)) (f := 15) (args := [lsv (encI .u8) 1 y51.1, lsv (encI .u8) 1 y54.1]) (v := .bool y92) (tr2 := []) (by kernel_rfl) (by kernel_rfl) (.cons (Le.refl _) (.cons (Le.refl _) .nil)) (exergueref01_Row_ok hy93) (by kernel_rfl) ?_
        refine RJ.seg 2 [6, 9, 11, 12, 13, 14, 15, 16, 17, 60] (L2 := [(6, .bool false), (9, .int .i64 y51.2), (11, .int .i64 y54.2), (12, lsv encT 1 y57.1), (13, .int .i64 y57.2.1), (14, .int .i64 y57.2.2), (15, lsv encT 1 y60.1), (16, .int .i64 y60.2.1), (17, .int .i64 y60.2.2), (60, .bool y92)]) (H2 := []) (by kernel_rfl) ?_
        refine RJ.caseB 60 (b := y92) (by kernel_rfl) (fun hb95 => ?_) (fun hb95 => ?_)
        · have h96 := condT hb95 h94
          refine RJ.seg 5 [6, 12, 13, 14, 15, 16, 17, 65] (L2 := [(6, .bool false), (12, lsv encT 1 y57.1), (13, .int .i64 y57.2.1), (14, .int .i64 y57.2.2), (15, lsv encT 1 y60.1), (16, .int .i64 y60.2.1), (17, .int .i64 y60.2.2), (65, .bool (decide (y51.2 = y54.2)))]) (H2 := []) (by kernel_rfl) ?_
          refine RJ.caseB 65 (b := (decide (y51.2 = y54.2))) (by kernel_rfl) (fun hb98 => ?_) (fun hb98 => ?_)
          · have h99 := condT hb98 h96
            refine RJ.seg 2 [6, 13, 14, 16, 17, 65, 66, 67] (L2 := [(6, .bool false), (13, .int .i64 y57.2.1), (14, .int .i64 y57.2.2), (16, .int .i64 y60.2.1), (17, .int .i64 y60.2.2), (65, .bool true), (66, lsv encT 1 y57.1), (67, lsv encT 1 y60.1)]) (H2 := []) (by kernel_rfl) ?_
            obtain ⟨y101, hy102, h103⟩ := bindS h99
            refine RJ.call0 (d := (some 68)) (f := 21) (args := [lsv encT 1 y57.1, lsv encT 1 y60.1]) (v := .bool y101) (tr2 := []) (by kernel_rfl) (by kernel_rfl) (.cons (Le.refl _) (.cons (Le.refl _) .nil)) (exergueref09_Texts_ok hy102) (by kernel_rfl) ?_
            refine RJ.seg 2 [6, 13, 14, 16, 17, 70] (L2 := [(6, .bool false), (13, .int .i64 y57.2.1), (14, .int .i64 y57.2.2), (16, .int .i64 y60.2.1), (17, .int .i64 y60.2.2), (70, .bool y101)]) (H2 := []) (by kernel_rfl) ?_
            refine RJ.caseB 70 (b := y101) (by kernel_rfl) (fun hb104 => ?_) (fun hb104 => ?_)
            · have h105 := condT hb104 h103
              refine RJ.seg 5 [6, 14, 17, 75] (L2 := [(6, .bool false), (14, .int .i64 y57.2.2), (17, .int .i64 y60.2.2), (75, .bool (decide (y57.2.1 = y60.2.1)))]) (H2 := []) (by kernel_rfl) ?_
              refine RJ.caseB 75 (b := (decide (y57.2.1 = y60.2.1))) (by kernel_rfl) (fun hb107 => ?_) (fun hb107 => ?_)
              · have h108 := condT hb107 h105
                refine RJ.seg 5 [6] (L2 := [(6, .bool (decide (y57.2.2 = y60.2.2)))]) (H2 := []) (by kernel_rfl) ?_
                refine RJ.end (by kernel_rfl) ?_
                obtain rfl := Option.some.inj h108
                exact PJ.cutN [6] (by kernel_rfl) (by kernel_rfl)
              · have h109 := condF hb107 h105
                refine RJ.seg 5 [6] (L2 := [(6, .bool false)]) (H2 := []) (by kernel_rfl) ?_
                refine RJ.end (by kernel_rfl) ?_
                obtain rfl := Option.some.inj h109
                exact PJ.cutN [6] (by kernel_rfl) (by kernel_rfl)
            · have h106 := condF hb104 h103
              refine RJ.seg 10 [6] (L2 := [(6, .bool false)]) (H2 := []) (by kernel_rfl) ?_
              refine RJ.end (by kernel_rfl) ?_
              obtain rfl := Option.some.inj h106
              exact PJ.cutN [6] (by kernel_rfl) (by kernel_rfl)
          · have h100 := condF hb98 h96
            refine RJ.seg 15 [6] (L2 := [(6, .bool false)]) (H2 := []) (by kernel_rfl) ?_
            refine RJ.end (by kernel_rfl) ?_
            obtain rfl := Option.some.inj h100
            exact PJ.cutN [6] (by kernel_rfl) (by kernel_rfl)
        · have h97 := condF hb95 h94
          refine RJ.seg 20 [6] (L2 := [(6, .bool false)]) (H2 := []) (by kernel_rfl) ?_
          refine RJ.end (by kernel_rfl) ?_
          obtain rfl := Option.some.inj h97
          exact PJ.cutN [6] (by kernel_rfl) (by kernel_rfl)
      · have h91 := condF hb89 hy86
        refine RJ.seg 25 [6] (L2 := [(6, .bool false)]) (H2 := []) (by kernel_rfl) ?_
        refine RJ.end (by kernel_rfl) ?_
        obtain rfl := Option.some.inj h91
        exact PJ.cutN [6] (by kernel_rfl) (by kernel_rfl)
    · refine K.ret (by kernel_rfl) ?_
      obtain rfl := Option.some.inj h88
      exact K.ret0 (.inr rfl) hFn hFH hFD (by kernel_rfl) (by kernel_rfl) (by kernel_rfl)

structure St57 where
  B_ : List Int
  N_ : Int
  Size_ : Int
  L_ : List (List UInt8)
  deriving Inhabited, DecidableEq
def encSt57 (x : St57) : List SV := [lsv (encI .u8) 1 x.B_, .int .u32 x.N_, .int .i64 x.Size_, lsv encT 1 x.L_]
theorem encSt57_len (x : St57) : (encSt57 x).length = 4 := rfl

def exerguelaw09_PackBack (x0 : St57) : Option (Bool) :=
  (Option.bind exerguelaw09_shown fun y1 => (Option.bind (Option.bind (Option.bind (exergueref09_Short x0.L_) fun y41 => (bif (!y41) then (some true) else (some ((decide ((x0.B_.length : Int) > 1000)))))) fun (s36 : Bool) => (bif s36 then (some (.inr y1)) else (some (.inl ())))) (joinX fun (s25 : Unit) => (Option.bind (pack_Put x0.B_ x0.N_ x0.Size_) fun y51 => (Option.bind (bif (decide (y51.2 = 0)) then (Option.bind (pack_Take y51.1 (x0.B_.length : Int) x0.Size_) fun y95 => (Option.bind (bif (decide (¬ y95.2.2 = 0)) then (some true) else (bif (decide (¬ y95.1 = x0.N_)) then (some true) else (bif (decide (¬ y95.2.1 = (y51.1.length : Int))) then (some true) else (some ((decide (¬ (y51.1.length : Int) = ((IntKind.wrap .i64 ((x0.B_.length : Int) + x0.Size_)))))))))) fun (s107 : Bool) => (bif s107 then (some (.inr false)) else (some (.inl ()))))) else (some (.inl ()))) (joinX fun (s87 : Unit) => (Option.bind (pack_Gather x0.L_) fun y125 => (Option.bind (pack_Spread y125.1 y125.2) fun y128 => (Option.bind (Option.bind (bif (decide (¬ y128.2 = 0)) then (some true) else (Option.bind (exergueref09_Texts y128.1 x0.L_) fun y180 => (bif (!y180) then (some true) else (some ((decide ((y125.1.length : Int) > (x0.L_.length : Int)))))))) fun (s172 : Bool) => (bif s172 then (some (.inr false)) else (some (.inl ())))) (joinX fun (s158 : Unit) => (Option.bind (loopN (fun (s243 : Int) => (bif (decide (s243 < (y125.1.length : Int))) then (bif inR s243 y125.1.length then (Option.bind (exergueref09_At y125.1 (nth y125.1 s243)) fun y280 => (bif (decide (¬ y280 = s243)) then (some (.inr (.inr false))) else (some (.inl (IntKind.wrap .i64 (s243 + 1)))))) else none) else (some (.inr (.inl ()))))) big 0) (joinX fun (s238 : Unit) => (Option.bind (pack_PutPool x0.B_ y125.1) fun y291 => (bif (decide (¬ y291.2 = 0)) then (Option.bind (bif y1 then (bif (decide ((y125.1.length : Int) > 500)) then (Option.bind (exergueref01_Row y291.1 x0.B_) fun y326 => (some y326)) else (Option.bind (exergueref09_Pool y125.1) fun y329 => (bif (!y329) then (Option.bind (exergueref01_Row y291.1 x0.B_) fun y335 => (some y335)) else (some false)))) else (some false)) fun (s315 : Bool) => (some s315)) else (Option.bind (pack_TakePool y291.1 (x0.B_.length : Int)) fun y338 => (Option.bind (bif y1 then (bif (decide (y338.2.2 = 0)) then (bif (decide (y338.2.1 = (y291.1.length : Int))) then (Option.bind (exergueref09_Texts y338.1 y125.1) fun y367 => (some y367)) else (some false)) else (some false)) else (some false)) fun (s353 : Bool) => (some s353)))))))))))))))))
theorem exerguelaw09_PackBack_ok {x0 : St57} {r : Bool} (h : exerguelaw09_PackBack x0 = some r) : SC Try.prog 6 [.agg [lsv (encI .u8) 1 x0.B_, .int .u32 x0.N_, .int .i64 x0.Size_, lsv encT 1 x0.L_]] [] (.bool r) [] := by
  refine K.fn (fn := Try.f6) (by kernel_rfl) (by kernel_rfl) (by kernel_rfl) (by kernel_rfl) (by kernel_rfl) (fun F hFn hFH hFD => ?_)
  unfold exerguelaw09_PackBack at h
  refine K.seq (by kernel_rfl) ?_
  refine K.region (by kernel_rfl) ?_
  refine RJ.seg 2 [1, 2] (L2 := [(1, .ptr 0 0), (2, .bool false)]) (H2 := [.box [lsv (encI .u8) 1 x0.B_, .int .u32 x0.N_, .int .i64 x0.Size_, lsv encT 1 x0.L_]]) (by kernel_rfl) ?_
  refine RJ.end (by kernel_rfl) ?_
  refine PJ.next ?_
  refine K.seq (by kernel_rfl) ?_
  refine K.region (by kernel_rfl) ?_
  refine RJ.seg 3 [1, 2, 3] (L2 := [(1, .ptr 0 0), (2, .bool false), (3, lsv (encI .u8) 1 x0.B_)]) (H2 := [.box [lsv (encI .u8) 1 x0.B_, .int .u32 x0.N_, .int .i64 x0.Size_, lsv encT 1 x0.L_]]) (by kernel_rfl) ?_
  refine RJ.end (by kernel_rfl) ?_
  refine PJ.next ?_
  refine K.seq (by kernel_rfl) ?_
  refine K.region (by kernel_rfl) ?_
  refine RJ.seg 3 [1, 2, 3, 4] (L2 := [(1, .ptr 0 0), (2, .bool false), (3, lsv (encI .u8) 1 x0.B_), (4, .int .u32 x0.N_)]) (H2 := [.box [lsv (encI .u8) 1 x0.B_, .int .u32 x0.N_, .int .i64 x0.Size_, lsv encT 1 x0.L_]]) (by kernel_rfl) ?_
  refine RJ.end (by kernel_rfl) ?_
  refine PJ.next ?_
  refine K.seq (by kernel_rfl) ?_
  refine K.region (by kernel_rfl) ?_
  refine RJ.seg 3 [1, 2, 3, 4, 5] (L2 := [(1, .ptr 0 0), (2, .bool false), (3, lsv (encI .u8) 1 x0.B_), (4, .int .u32 x0.N_), (5, .int .i64 x0.Size_)]) (H2 := [.box [lsv (encI .u8) 1 x0.B_, .int .u32 x0.N_, .int .i64 x0.Size_, lsv encT 1 x0.L_]]) (by kernel_rfl) ?_
  refine RJ.end (by kernel_rfl) ?_
  refine PJ.next ?_
  refine K.seq (by kernel_rfl) ?_
  refine K.region (by kernel_rfl) ?_
  refine RJ.seg 3 [2, 3, 4, 5, 6] (L2 := [(2, .bool false), (3, lsv (encI .u8) 1 x0.B_), (4, .int .u32 x0.N_), (5, .int .i64 x0.Size_), (6, lsv encT 1 x0.L_)]) (H2 := [.box [lsv (encI .u8) 1 x0.B_, .int .u32 x0.N_, .int .i64 x0.Size_, lsv encT 1 x0.L_]]) (by kernel_rfl) ?_
  refine RJ.end (by kernel_rfl) ?_
  refine PJ.next ?_
  refine K.seq (by kernel_rfl) ?_
  refine K.region (by kernel_rfl) ?_
  obtain ⟨y1, hy2, h3⟩ := bindS h
  refine RJ.call0 (d := (some 31)) (f := 10) (args := []) (v := .bool y1) (tr2 := []) (by kernel_rfl) (by kernel_rfl) .nil (exerguelaw09_shown_ok hy2) (by kernel_rfl) ?_
  refine RJ.seg 1 [2, 3, 4, 5, 6, 7] (L2 := [(2, .bool false), (3, lsv (encI .u8) 1 x0.B_), (4, .int .u32 x0.N_), (5, .int .i64 x0.Size_), (6, lsv encT 1 x0.L_), (7, .bool y1)]) (H2 := [.box [lsv (encI .u8) 1 x0.B_, .int .u32 x0.N_, .int .i64 x0.Size_, lsv encT 1 x0.L_]]) (by kernel_rfl) ?_
  refine RJ.end (by kernel_rfl) ?_
  refine PJ.next ?_
  obtain ⟨y26, hy27, h28⟩ := bindS h3
  refine K.cutX (by kernel_rfl) (fun (s25 : Unit) => ([(2, .bool false), (3, lsv (encI .u8) 1 x0.B_), (4, .int .u32 x0.N_), (5, .int .i64 x0.Size_), (6, lsv encT 1 x0.L_), (7, .bool y1)], [])) y26 ?_ (fun s25 hs => ?_)
  · obtain ⟨s36, hy38, h40⟩ := bindS hy27
    refine K.cutN (by kernel_rfl) (fun (s36 : Bool) => ([(2, .bool false), (3, lsv (encI .u8) 1 x0.B_), (4, .int .u32 x0.N_), (5, .int .i64 x0.Size_), (6, lsv encT 1 x0.L_), (7, .bool y1), (39, .bool s36)], [])) s36 ?_ ?_
    · refine K.region (by kernel_rfl) ?_
      refine RJ.seg 1 [2, 3, 4, 5, 6, 7, 32] (L2 := [(2, .bool false), (3, lsv (encI .u8) 1 x0.B_), (4, .int .u32 x0.N_), (5, .int .i64 x0.Size_), (6, lsv encT 1 x0.L_), (7, .bool y1), (32, lsv encT 1 x0.L_)]) (H2 := [.box [lsv (encI .u8) 1 x0.B_, .int .u32 x0.N_, .int .i64 x0.Size_, lsv encT 1 x0.L_]]) (by kernel_rfl) ?_
      obtain ⟨y41, hy42, h43⟩ := bindS hy38
      refine RJ.call0 (d := (some 33)) (f := 16) (args := [lsv encT 1 x0.L_]) (v := .bool y41) (tr2 := []) (by kernel_rfl) (by kernel_rfl) (.cons (Le.refl _) .nil) (exergueref09_Short_ok hy42) (by kernel_rfl) ?_
      refine RJ.seg 2 [2, 3, 4, 5, 6, 7, 35] (L2 := [(2, .bool false), (3, lsv (encI .u8) 1 x0.B_), (4, .int .u32 x0.N_), (5, .int .i64 x0.Size_), (6, lsv encT 1 x0.L_), (7, .bool y1), (35, .bool (!y41))]) (H2 := [.box [lsv (encI .u8) 1 x0.B_, .int .u32 x0.N_, .int .i64 x0.Size_, lsv encT 1 x0.L_]]) (by kernel_rfl) ?_
      refine RJ.caseB 35 (b := (!y41)) (by kernel_rfl) (fun hb44 => ?_) (fun hb44 => ?_)
      · have h45 := condT hb44 h43
        refine RJ.seg 4 [2, 3, 4, 5, 6, 7, 39] (L2 := [(2, .bool false), (3, lsv (encI .u8) 1 x0.B_), (4, .int .u32 x0.N_), (5, .int .i64 x0.Size_), (6, lsv encT 1 x0.L_), (7, .bool y1), (39, .bool true)]) (H2 := [.box [lsv (encI .u8) 1 x0.B_, .int .u32 x0.N_, .int .i64 x0.Size_, lsv encT 1 x0.L_]]) (by kernel_rfl) ?_
        refine RJ.end (by kernel_rfl) ?_
        obtain rfl := Option.some.inj h45
        refine PJ.wk (Wk.sel (L2 := [(2, .bool false), (3, lsv (encI .u8) 1 x0.B_), (4, .int .u32 x0.N_), (5, .int .i64 x0.Size_), (6, lsv encT 1 x0.L_), (7, .bool y1), (39, .bool true)]) (H2 := []) 0 (by rw [hFH]; rfl) hFD [] (by kernel_rfl) (by kernel_rfl) (by decide) (by kernel_rfl) (by kernel_rfl) (by kernel_rfl) (by kernel_rfl)) ?_
        exact PJ.cutN [2, 3, 4, 5, 6, 7, 39] (by kernel_rfl) (by kernel_rfl)
      · have h46 := condF hb44 h43
        refine RJ.seg 4 [2, 3, 4, 5, 6, 7, 39] (L2 := [(2, .bool false), (3, lsv (encI .u8) 1 x0.B_), (4, .int .u32 x0.N_), (5, .int .i64 x0.Size_), (6, lsv encT 1 x0.L_), (7, .bool y1), (39, .bool ((decide ((x0.B_.length : Int) > 1000))))]) (H2 := [.box [lsv (encI .u8) 1 x0.B_, .int .u32 x0.N_, .int .i64 x0.Size_, lsv encT 1 x0.L_]]) (by kernel_rfl) ?_
        refine RJ.end (by kernel_rfl) ?_
        obtain rfl := Option.some.inj h46
        refine PJ.wk (Wk.sel (L2 := [(2, .bool false), (3, lsv (encI .u8) 1 x0.B_), (4, .int .u32 x0.N_), (5, .int .i64 x0.Size_), (6, lsv encT 1 x0.L_), (7, .bool y1), (39, .bool ((decide ((x0.B_.length : Int) > 1000))))]) (H2 := []) 0 (by rw [hFH]; rfl) hFD [] (by kernel_rfl) (by kernel_rfl) (by decide) (by kernel_rfl) (by kernel_rfl) (by kernel_rfl) (by kernel_rfl)) ?_
        exact PJ.cutN [2, 3, 4, 5, 6, 7, 39] (by kernel_rfl) (by kernel_rfl)
    · refine J.caseB 39 (b := s36) (by kernel_rfl) (fun hb47 => ?_) (fun hb47 => ?_)
      · have h48 := condT hb47 h40
        refine K.condT (by kernel_rfl) ?_
        refine K.seq (by kernel_rfl) ?_
        refine K.region (by kernel_rfl) ?_
        refine RJ.seg 2 [2, 3, 4, 5, 6, 7] (L2 := [(2, .bool y1), (3, lsv (encI .u8) 1 x0.B_), (4, .int .u32 x0.N_), (5, .int .i64 x0.Size_), (6, lsv encT 1 x0.L_), (7, .bool y1)]) (H2 := []) (by kernel_rfl) ?_
        refine RJ.end (by kernel_rfl) ?_
        refine PJ.next ?_
        refine K.ret (by kernel_rfl) ?_
        obtain rfl := Option.some.inj h48
        have h50 := joinX_inr h28
        refine PJ.cutXr (fun e => nomatch e) ?_
        obtain rfl := Option.some.inj h50
        exact K.ret0 (.inr rfl) hFn hFH hFD (by kernel_rfl) (by kernel_rfl) (by kernel_rfl)
      · have h49 := condF hb47 h40
        refine K.condF (by kernel_rfl) ?_
        refine K.skip (by kernel_rfl) ?_
        obtain rfl := Option.some.inj h49
        exact PJ.cutXl [2, 3, 4, 5, 6, 7] (by kernel_rfl) (by kernel_rfl)
  · subst hs
    have h29 := joinX_inl h28
    refine K.seq (by kernel_rfl) ?_
    refine K.region (by kernel_rfl) ?_
    refine RJ.seg 3 [2, 3, 4, 5, 6, 7, 42, 43, 44] (L2 := [(2, .bool false), (3, lsv (encI .u8) 1 x0.B_), (4, .int .u32 x0.N_), (5, .int .i64 x0.Size_), (6, lsv encT 1 x0.L_), (7, .bool y1), (42, lsv (encI .u8) 1 x0.B_), (43, .int .u32 x0.N_), (44, .int .i64 x0.Size_)]) (H2 := []) (by kernel_rfl) ?_
    obtain ⟨y51, hy52, h53⟩ := bindS h29
    refine RJ.call0 (d := (some 45)) (f := 11) (args := [lsv (encI .u8) 1 x0.B_, .int .u32 x0.N_, .int .i64 x0.Size_]) (v := .tup [lsv (encI .u8) 1 y51.1, .int .i64 y51.2]) (tr2 := []) (by kernel_rfl) (by kernel_rfl) (.cons (Le.refl _) (.cons (Le.refl _) (.cons (Le.refl _) .nil))) (pack_Put_ok hy52) (by kernel_rfl) ?_
    refine RJ.seg 5 [2, 3, 4, 5, 6, 7, 8, 9] (L2 := [(2, .bool false), (3, lsv (encI .u8) 1 x0.B_), (4, .int .u32 x0.N_), (5, .int .i64 x0.Size_), (6, lsv encT 1 x0.L_), (7, .bool y1), (8, lsv (encI .u8) 1 y51.1), (9, .int .i64 y51.2)]) (H2 := []) (by kernel_rfl) ?_
    refine RJ.end (by kernel_rfl) ?_
    refine PJ.next ?_
    obtain ⟨y88, hy89, h90⟩ := bindS h53
    refine K.cutX (by kernel_rfl) (fun (s87 : Unit) => ([(2, .bool false), (3, lsv (encI .u8) 1 x0.B_), (6, lsv encT 1 x0.L_), (7, .bool y1)], [])) y88 ?_ (fun s87 hs => ?_)
    · refine K.seq (by kernel_rfl) ?_
      refine K.region (by kernel_rfl) ?_
      refine RJ.seg 2 [2, 3, 4, 5, 6, 7, 8, 49] (L2 := [(2, .bool false), (3, lsv (encI .u8) 1 x0.B_), (4, .int .u32 x0.N_), (5, .int .i64 x0.Size_), (6, lsv encT 1 x0.L_), (7, .bool y1), (8, lsv (encI .u8) 1 y51.1), (49, .bool (decide (y51.2 = 0)))]) (H2 := []) (by kernel_rfl) ?_
      refine RJ.end (by kernel_rfl) ?_
      refine PJ.next ?_
      refine J.caseB 49 (b := (decide (y51.2 = 0))) (by kernel_rfl) (fun hb92 => ?_) (fun hb92 => ?_)
      · have h93 := condT hb92 hy89
        refine K.condT (by kernel_rfl) ?_
        refine K.seq (by kernel_rfl) ?_
        refine K.region (by kernel_rfl) ?_
        refine RJ.seg 4 [2, 3, 4, 5, 6, 7, 8, 51, 53, 54] (L2 := [(2, .bool false), (3, lsv (encI .u8) 1 x0.B_), (4, .int .u32 x0.N_), (5, .int .i64 x0.Size_), (6, lsv encT 1 x0.L_), (7, .bool y1), (8, lsv (encI .u8) 1 y51.1), (51, lsv (encI .u8) 1 y51.1), (53, .int .i64 (x0.B_.length : Int)), (54, .int .i64 x0.Size_)]) (H2 := []) (by kernel_rfl) ?_
        obtain ⟨y95, hy96, h97⟩ := bindS h93
        refine RJ.call0 (d := (some 55)) (f := 13) (args := [lsv (encI .u8) 1 y51.1, .int .i64 (x0.B_.length : Int), .int .i64 x0.Size_]) (v := .tup [.int .u32 y95.1, .int .i64 y95.2.1, .int .i64 y95.2.2]) (tr2 := []) (by kernel_rfl) (by kernel_rfl) (.cons (Le.refl _) (.cons (Le.refl _) (.cons (Le.refl _) .nil))) (pack_Take_ok hy96) (by kernel_rfl) ?_
        refine RJ.seg 7 [2, 3, 4, 5, 6, 7, 8, 10, 11, 12] (L2 := [(2, .bool false), (3, lsv (encI .u8) 1 x0.B_), (4, .int .u32 x0.N_), (5, .int .i64 x0.Size_), (6, lsv encT 1 x0.L_), (7, .bool y1), (8, lsv (encI .u8) 1 y51.1), (10, .int .u32 y95.1), (11, .int .i64 y95.2.1), (12, .int .i64 y95.2.2)]) (H2 := []) (by kernel_rfl) ?_
        refine RJ.end (by kernel_rfl) ?_
        refine PJ.next ?_
        obtain ⟨s107, hy109, h111⟩ := bindS h97
        refine K.cutN (by kernel_rfl) (fun (s107 : Bool) => ([(2, .bool false), (3, lsv (encI .u8) 1 x0.B_), (6, lsv encT 1 x0.L_), (7, .bool y1), (80, .bool s107)], [])) s107 ?_ ?_
        · refine K.region (by kernel_rfl) ?_
          refine RJ.seg 3 [2, 3, 4, 5, 6, 7, 8, 10, 11, 61] (L2 := [(2, .bool false), (3, lsv (encI .u8) 1 x0.B_), (4, .int .u32 x0.N_), (5, .int .i64 x0.Size_), (6, lsv encT 1 x0.L_), (7, .bool y1), (8, lsv (encI .u8) 1 y51.1), (10, .int .u32 y95.1), (11, .int .i64 y95.2.1), (61, .bool (decide (¬ y95.2.2 = 0)))]) (H2 := []) (by kernel_rfl) ?_
          refine RJ.caseB 61 (b := (decide (¬ y95.2.2 = 0))) (by kernel_rfl) (fun hb112 => ?_) (fun hb112 => ?_)
          · have h113 := condT hb112 hy109
            refine RJ.seg 19 [2, 3, 6, 7, 80] (L2 := [(2, .bool false), (3, lsv (encI .u8) 1 x0.B_), (6, lsv encT 1 x0.L_), (7, .bool y1), (80, .bool true)]) (H2 := []) (by kernel_rfl) ?_
            refine RJ.end (by kernel_rfl) ?_
            obtain rfl := Option.some.inj h113
            exact PJ.cutN [2, 3, 6, 7, 80] (by kernel_rfl) (by kernel_rfl)
          · have h114 := condF hb112 hy109
            refine RJ.seg 5 [2, 3, 5, 6, 7, 8, 11, 66] (L2 := [(2, .bool false), (3, lsv (encI .u8) 1 x0.B_), (5, .int .i64 x0.Size_), (6, lsv encT 1 x0.L_), (7, .bool y1), (8, lsv (encI .u8) 1 y51.1), (11, .int .i64 y95.2.1), (66, .bool (decide (¬ y95.1 = x0.N_)))]) (H2 := []) (by kernel_rfl) ?_
            refine RJ.caseB 66 (b := (decide (¬ y95.1 = x0.N_))) (by kernel_rfl) (fun hb115 => ?_) (fun hb115 => ?_)
            · have h116 := condT hb115 h114
              refine RJ.seg 14 [2, 3, 6, 7, 80] (L2 := [(2, .bool false), (3, lsv (encI .u8) 1 x0.B_), (6, lsv encT 1 x0.L_), (7, .bool y1), (80, .bool true)]) (H2 := []) (by kernel_rfl) ?_
              refine RJ.end (by kernel_rfl) ?_
              obtain rfl := Option.some.inj h116
              exact PJ.cutN [2, 3, 6, 7, 80] (by kernel_rfl) (by kernel_rfl)
            · have h117 := condF hb115 h114
              refine RJ.seg 6 [2, 3, 5, 6, 7, 8, 72] (L2 := [(2, .bool false), (3, lsv (encI .u8) 1 x0.B_), (5, .int .i64 x0.Size_), (6, lsv encT 1 x0.L_), (7, .bool y1), (8, lsv (encI .u8) 1 y51.1), (72, .bool ((decide (¬ y95.2.1 = (y51.1.length : Int)))))]) (H2 := []) (by kernel_rfl) ?_
              refine RJ.caseB 72 (b := (decide (¬ y95.2.1 = (y51.1.length : Int)))) (by kernel_rfl) (fun hb118 => ?_) (fun hb118 => ?_)
              · have h119 := condT hb118 h117
                refine RJ.seg 8 [2, 3, 6, 7, 80] (L2 := [(2, .bool false), (3, lsv (encI .u8) 1 x0.B_), (6, lsv encT 1 x0.L_), (7, .bool y1), (80, .bool true)]) (H2 := []) (by kernel_rfl) ?_
                refine RJ.end (by kernel_rfl) ?_
                obtain rfl := Option.some.inj h119
                exact PJ.cutN [2, 3, 6, 7, 80] (by kernel_rfl) (by kernel_rfl)
              · have h120 := condF hb118 h117
                refine RJ.seg 8 [2, 3, 6, 7, 80] (L2 := [(2, .bool false), (3, lsv (encI .u8) 1 x0.B_), (6, lsv encT 1 x0.L_), (7, .bool y1), (80, .bool ((decide (¬ (y51.1.length : Int) = ((IntKind.wrap .i64 ((x0.B_.length : Int) + x0.Size_)))))))]) (H2 := []) (by kernel_rfl) ?_
                refine RJ.end (by kernel_rfl) ?_
                obtain rfl := Option.some.inj h120
                exact PJ.cutN [2, 3, 6, 7, 80] (by kernel_rfl) (by kernel_rfl)
        · refine J.caseB 80 (b := s107) (by kernel_rfl) (fun hb121 => ?_) (fun hb121 => ?_)
          · have h122 := condT hb121 h111
            refine K.condT (by kernel_rfl) ?_
            refine K.seq (by kernel_rfl) ?_
            refine K.region (by kernel_rfl) ?_
            refine RJ.seg 1 [2, 3, 6, 7] (L2 := [(2, .bool false), (3, lsv (encI .u8) 1 x0.B_), (6, lsv encT 1 x0.L_), (7, .bool y1)]) (H2 := []) (by kernel_rfl) ?_
            refine RJ.end (by kernel_rfl) ?_
            refine PJ.next ?_
            refine K.ret (by kernel_rfl) ?_
            obtain rfl := Option.some.inj h122
            have h124 := joinX_inr h90
            refine PJ.cutXr (fun e => nomatch e) ?_
            obtain rfl := Option.some.inj h124
            exact K.ret0 (.inr rfl) hFn hFH hFD (by kernel_rfl) (by kernel_rfl) (by kernel_rfl)
          · have h123 := condF hb121 h111
            refine K.condF (by kernel_rfl) ?_
            refine K.skip (by kernel_rfl) ?_
            obtain rfl := Option.some.inj h123
            exact PJ.cutXl [2, 3, 6, 7] (by kernel_rfl) (by kernel_rfl)
      · have h94 := condF hb92 hy89
        refine K.condF (by kernel_rfl) ?_
        refine K.skip (by kernel_rfl) ?_
        obtain rfl := Option.some.inj h94
        exact PJ.cutXl [2, 3, 6, 7] (by kernel_rfl) (by kernel_rfl)
    · subst hs
      have h91 := joinX_inl h90
      refine K.seq (by kernel_rfl) ?_
      refine K.region (by kernel_rfl) ?_
      refine RJ.seg 1 [2, 3, 6, 7, 82] (L2 := [(2, .bool false), (3, lsv (encI .u8) 1 x0.B_), (6, lsv encT 1 x0.L_), (7, .bool y1), (82, lsv encT 1 x0.L_)]) (H2 := []) (by kernel_rfl) ?_
      obtain ⟨y125, hy126, h127⟩ := bindS h91
      refine RJ.call0 (d := (some 83)) (f := 17) (args := [lsv encT 1 x0.L_]) (v := .tup [lsv encT 1 y125.1, lsv (encI .i64) 1 y125.2]) (tr2 := []) (by kernel_rfl) (by kernel_rfl) (.cons (Le.refl _) .nil) (pack_Gather_ok hy126) (by kernel_rfl) ?_
      refine RJ.seg 5 [2, 3, 6, 7, 13, 14] (L2 := [(2, .bool false), (3, lsv (encI .u8) 1 x0.B_), (6, lsv encT 1 x0.L_), (7, .bool y1), (13, lsv encT 1 y125.1), (14, lsv (encI .i64) 1 y125.2)]) (H2 := []) (by kernel_rfl) ?_
      refine RJ.end (by kernel_rfl) ?_
      refine PJ.next ?_
      refine K.seq (by kernel_rfl) ?_
      refine K.region (by kernel_rfl) ?_
      refine RJ.seg 2 [2, 3, 6, 7, 13, 87, 88] (L2 := [(2, .bool false), (3, lsv (encI .u8) 1 x0.B_), (6, lsv encT 1 x0.L_), (7, .bool y1), (13, lsv encT 1 y125.1), (87, lsv encT 1 y125.1), (88, lsv (encI .i64) 1 y125.2)]) (H2 := []) (by kernel_rfl) ?_
      obtain ⟨y128, hy129, h130⟩ := bindS h127
      refine RJ.call0 (d := (some 89)) (f := 19) (args := [lsv encT 1 y125.1, lsv (encI .i64) 1 y125.2]) (v := .tup [lsv encT 1 y128.1, .int .i64 y128.2]) (tr2 := []) (by kernel_rfl) (by kernel_rfl) (.cons (Le.refl _) (.cons (Le.refl _) .nil)) (pack_Spread_ok hy129) (by kernel_rfl) ?_
      refine RJ.seg 5 [2, 3, 6, 7, 13, 15, 16] (L2 := [(2, .bool false), (3, lsv (encI .u8) 1 x0.B_), (6, lsv encT 1 x0.L_), (7, .bool y1), (13, lsv encT 1 y125.1), (15, lsv encT 1 y128.1), (16, .int .i64 y128.2)]) (H2 := []) (by kernel_rfl) ?_
      refine RJ.end (by kernel_rfl) ?_
      refine PJ.next ?_
      obtain ⟨y159, hy160, h161⟩ := bindS h130
      refine K.cutX (by kernel_rfl) (fun (s158 : Unit) => ([(2, .bool false), (3, lsv (encI .u8) 1 x0.B_), (7, .bool y1), (13, lsv encT 1 y125.1)], [])) y159 ?_ (fun s158 hs => ?_)
      · obtain ⟨s172, hy174, h176⟩ := bindS hy160
        refine K.cutN (by kernel_rfl) (fun (s172 : Bool) => ([(2, .bool false), (3, lsv (encI .u8) 1 x0.B_), (7, .bool y1), (13, lsv encT 1 y125.1), (106, .bool s172)], [])) s172 ?_ ?_
        · refine K.region (by kernel_rfl) ?_
          refine RJ.seg 3 [2, 3, 6, 7, 13, 15, 94] (L2 := [(2, .bool false), (3, lsv (encI .u8) 1 x0.B_), (6, lsv encT 1 x0.L_), (7, .bool y1), (13, lsv encT 1 y125.1), (15, lsv encT 1 y128.1), (94, .bool (decide (¬ y128.2 = 0)))]) (H2 := []) (by kernel_rfl) ?_
          refine RJ.caseB 94 (b := (decide (¬ y128.2 = 0))) (by kernel_rfl) (fun hb177 => ?_) (fun hb177 => ?_)
          · have h178 := condT hb177 hy174
            refine RJ.seg 12 [2, 3, 7, 13, 106] (L2 := [(2, .bool false), (3, lsv (encI .u8) 1 x0.B_), (7, .bool y1), (13, lsv encT 1 y125.1), (106, .bool true)]) (H2 := []) (by kernel_rfl) ?_
            refine RJ.end (by kernel_rfl) ?_
            obtain rfl := Option.some.inj h178
            exact PJ.cutN [2, 3, 7, 13, 106] (by kernel_rfl) (by kernel_rfl)
          · have h179 := condF hb177 hy174
            refine RJ.seg 2 [2, 3, 6, 7, 13, 94, 95, 96] (L2 := [(2, .bool false), (3, lsv (encI .u8) 1 x0.B_), (6, lsv encT 1 x0.L_), (7, .bool y1), (13, lsv encT 1 y125.1), (94, .bool false), (95, lsv encT 1 y128.1), (96, lsv encT 1 x0.L_)]) (H2 := []) (by kernel_rfl) ?_
            obtain ⟨y180, hy181, h182⟩ := bindS h179
            refine RJ.call0 (d := (some 97)) (f := 21) (args := [lsv encT 1 y128.1, lsv encT 1 x0.L_]) (v := .bool y180) (tr2 := []) (by kernel_rfl) (by kernel_rfl) (.cons (Le.refl _) (.cons (Le.refl _) .nil)) (exergueref09_Texts_ok hy181) (by kernel_rfl) ?_
            refine RJ.seg 3 [2, 3, 6, 7, 13, 100] (L2 := [(2, .bool false), (3, lsv (encI .u8) 1 x0.B_), (6, lsv encT 1 x0.L_), (7, .bool y1), (13, lsv encT 1 y125.1), (100, .bool (!y180))]) (H2 := []) (by kernel_rfl) ?_
            refine RJ.caseB 100 (b := (!y180)) (by kernel_rfl) (fun hb183 => ?_) (fun hb183 => ?_)
            · have h184 := condT hb183 h182
              refine RJ.seg 6 [2, 3, 7, 13, 106] (L2 := [(2, .bool false), (3, lsv (encI .u8) 1 x0.B_), (7, .bool y1), (13, lsv encT 1 y125.1), (106, .bool true)]) (H2 := []) (by kernel_rfl) ?_
              refine RJ.end (by kernel_rfl) ?_
              obtain rfl := Option.some.inj h184
              exact PJ.cutN [2, 3, 7, 13, 106] (by kernel_rfl) (by kernel_rfl)
            · have h185 := condF hb183 h182
              refine RJ.seg 6 [2, 3, 7, 13, 106] (L2 := [(2, .bool false), (3, lsv (encI .u8) 1 x0.B_), (7, .bool y1), (13, lsv encT 1 y125.1), (106, .bool ((decide ((y125.1.length : Int) > (x0.L_.length : Int)))))]) (H2 := []) (by kernel_rfl) ?_
              refine RJ.end (by kernel_rfl) ?_
              obtain rfl := Option.some.inj h185
              exact PJ.cutN [2, 3, 7, 13, 106] (by kernel_rfl) (by kernel_rfl)
        · refine J.caseB 106 (b := s172) (by kernel_rfl) (fun hb186 => ?_) (fun hb186 => ?_)
          · have h187 := condT hb186 h176
            refine K.condT (by kernel_rfl) ?_
            refine K.seq (by kernel_rfl) ?_
            refine K.region (by kernel_rfl) ?_
            refine RJ.seg 1 [2, 3, 7, 13] (L2 := [(2, .bool false), (3, lsv (encI .u8) 1 x0.B_), (7, .bool y1), (13, lsv encT 1 y125.1)]) (H2 := []) (by kernel_rfl) ?_
            refine RJ.end (by kernel_rfl) ?_
            refine PJ.next ?_
            refine K.ret (by kernel_rfl) ?_
            obtain rfl := Option.some.inj h187
            have h189 := joinX_inr h161
            refine PJ.cutXr (fun e => nomatch e) ?_
            obtain rfl := Option.some.inj h189
            exact K.ret0 (.inr rfl) hFn hFH hFD (by kernel_rfl) (by kernel_rfl) (by kernel_rfl)
          · have h188 := condF hb186 h176
            refine K.condF (by kernel_rfl) ?_
            refine K.skip (by kernel_rfl) ?_
            obtain rfl := Option.some.inj h188
            exact PJ.cutXl [2, 3, 7, 13] (by kernel_rfl) (by kernel_rfl)
      · subst hs
        have h162 := joinX_inl h161
        obtain ⟨y239, hy240, h241⟩ := bindS h162
        refine K.cutX (by kernel_rfl) (fun (s238 : Unit) => ([(2, .bool false), (3, lsv (encI .u8) 1 x0.B_), (7, .bool y1), (13, lsv encT 1 y125.1)], [])) y239 ?_ (fun s238 hs => ?_)
        · refine K.seq (by kernel_rfl) ?_
          refine K.region (by kernel_rfl) ?_
          refine RJ.seg 1 [2, 3, 7, 13, 17] (L2 := [(2, .bool false), (3, lsv (encI .u8) 1 x0.B_), (7, .bool y1), (13, lsv encT 1 y125.1), (17, .int .i64 0)]) (H2 := []) (by kernel_rfl) ?_
          refine RJ.end (by kernel_rfl) ?_
          refine PJ.next ?_
          refine K.block 0 (by kernel_rfl) ?_
          refine K.loop (by kernel_rfl) (fun (s243 : Int) => ([(2, .bool false), (3, lsv (encI .u8) 1 x0.B_), (7, .bool y1), (13, lsv encT 1 y125.1), (17, .int .i64 s243)], [])) hy240 [2, 3, 7, 13, 17] (by kernel_rfl) (by kernel_rfl) (fun s243 x275 hs274 => ?_)
          refine K.seq (by kernel_rfl) ?_
          refine K.seq (by kernel_rfl) ?_
          refine K.region (by kernel_rfl) ?_
          refine RJ.seg 4 [2, 3, 7, 13, 17, 110] (L2 := [(2, .bool false), (3, lsv (encI .u8) 1 x0.B_), (7, .bool y1), (13, lsv encT 1 y125.1), (17, .int .i64 s243), (110, .bool ((decide (s243 < (y125.1.length : Int)))))]) (H2 := []) (by kernel_rfl) ?_
          refine RJ.end (by kernel_rfl) ?_
          refine PJ.next ?_
          refine J.caseB 110 (b := (decide (s243 < (y125.1.length : Int)))) (by kernel_rfl) (fun hb276 => ?_) (fun hb276 => ?_)
          · have h277 := condT hb276 hs274
            refine K.condT (by kernel_rfl) ?_
            refine K.skip (by kernel_rfl) ?_
            refine PJ.next ?_
            refine K.seq (by kernel_rfl) ?_
            refine K.block 1 (by kernel_rfl) ?_
            refine K.seq (by kernel_rfl) ?_
            refine K.region (by kernel_rfl) ?_
            refine RJ.seg 3 [2, 3, 7, 13, 17, 113, 114, 115] (L2 := [(2, .bool false), (3, lsv (encI .u8) 1 x0.B_), (7, .bool y1), (13, lsv encT 1 y125.1), (17, .int .i64 s243), (113, lsv encT 1 y125.1), (114, lsv encT 1 y125.1), (115, .int .i64 s243)]) (H2 := []) (by kernel_rfl) ?_
            obtain ⟨hm, h279⟩ := asrt h277
            refine RJ.rel (d := (some 116)) (ef := ⟨.ep (((y125.1.flatMap encT).drop ((s243 : Int).toNat * 1)).take 1), [], []⟩) (ef' := ⟨.ep (encT (nth y125.1 s243)), [], []⟩) (c := inR s243 y125.1.length) (tr2 := []) (H2 := []) (by kernel_rfl) hm (fun hc => N.idx encT_len hc) (by kernel_rfl) ?_
            refine RJ.seg 1 [2, 3, 7, 13, 17, 113, 117] (L2 := [(2, .bool false), (3, lsv (encI .u8) 1 x0.B_), (7, .bool y1), (13, lsv encT 1 y125.1), (17, .int .i64 s243), (113, lsv encT 1 y125.1), (117, .str (nth y125.1 s243))]) (H2 := []) (by kernel_rfl) ?_
            obtain ⟨y280, hy281, h282⟩ := bindS h279
            refine RJ.call0 (d := (some 118)) (f := 27) (args := [lsv encT 1 y125.1, .str (nth y125.1 s243)]) (v := .int .i64 y280) (tr2 := []) (by kernel_rfl) (by kernel_rfl) (.cons (Le.refl _) (.cons (Le.refl _) .nil)) (exergueref09_At_ok hy281) (by kernel_rfl) ?_
            refine RJ.seg 2 [2, 3, 7, 13, 17, 120] (L2 := [(2, .bool false), (3, lsv (encI .u8) 1 x0.B_), (7, .bool y1), (13, lsv encT 1 y125.1), (17, .int .i64 s243), (120, .bool (decide (¬ y280 = s243)))]) (H2 := []) (by kernel_rfl) ?_
            refine RJ.end (by kernel_rfl) ?_
            refine PJ.next ?_
            refine J.caseB 120 (b := (decide (¬ y280 = s243))) (by kernel_rfl) (fun hb283 => ?_) (fun hb283 => ?_)
            · have h284 := condT hb283 h282
              refine K.condT (by kernel_rfl) ?_
              refine K.seq (by kernel_rfl) ?_
              refine K.region (by kernel_rfl) ?_
              refine RJ.seg 1 [2, 3, 7, 13, 17] (L2 := [(2, .bool false), (3, lsv (encI .u8) 1 x0.B_), (7, .bool y1), (13, lsv encT 1 y125.1), (17, .int .i64 s243)]) (H2 := []) (by kernel_rfl) ?_
              refine RJ.end (by kernel_rfl) ?_
              refine PJ.next ?_
              refine K.ret (by kernel_rfl) ?_
              refine PJ.blockRet ?_
              refine PJ.passRet ?_
              obtain rfl := Option.some.inj h284
              refine PJ.loopOut (fun e => nomatch e) (fun he288 => ?_)
              have h286 := congrArg some he288
              refine PJ.blockRet ?_
              obtain rfl := Option.some.inj h286
              have h287 := joinX_inr h241
              refine PJ.cutXr (fun e => nomatch e) ?_
              obtain rfl := Option.some.inj h287
              exact K.ret0 (.inr rfl) hFn hFH hFD (by kernel_rfl) (by kernel_rfl) (by kernel_rfl)
            · have h285 := condF hb283 h282
              refine K.condF (by kernel_rfl) ?_
              refine K.skip (by kernel_rfl) ?_
              refine PJ.blockNormal ?_
              refine PJ.next ?_
              refine K.region (by kernel_rfl) ?_
              refine RJ.seg 3 [2, 3, 7, 13, 17] (L2 := [(2, .bool false), (3, lsv (encI .u8) 1 x0.B_), (7, .bool y1), (13, lsv encT 1 y125.1), (17, .int .i64 (IntKind.wrap .i64 (s243 + 1)))]) (H2 := []) (by kernel_rfl) ?_
              refine RJ.end (by kernel_rfl) ?_
              obtain rfl := Option.some.inj h285
              exact PJ.loopNext [2, 3, 7, 13, 17] (by kernel_rfl) (by kernel_rfl)
          · have h278 := condF hb276 hs274
            refine K.condF (by kernel_rfl) ?_
            refine K.exit 0 (by kernel_rfl) ?_
            refine PJ.passExit ?_
            obtain rfl := Option.some.inj h278
            refine PJ.loopOut (fun e => nomatch e) (fun he290 => ?_)
            have h289 := congrArg some he290
            refine PJ.blockOut ?_
            obtain rfl := Option.some.inj h289
            exact PJ.cutXl [2, 3, 7, 13] (by kernel_rfl) (by kernel_rfl)
        · subst hs
          have h242 := joinX_inl h241
          refine K.seq (by kernel_rfl) ?_
          refine K.region (by kernel_rfl) ?_
          refine RJ.seg 2 [2, 3, 7, 13, 122, 123] (L2 := [(2, .bool false), (3, lsv (encI .u8) 1 x0.B_), (7, .bool y1), (13, lsv encT 1 y125.1), (122, lsv (encI .u8) 1 x0.B_), (123, lsv encT 1 y125.1)]) (H2 := []) (by kernel_rfl) ?_
          obtain ⟨y291, hy292, h293⟩ := bindS h242
          refine RJ.call0 (d := (some 124)) (f := 23) (args := [lsv (encI .u8) 1 x0.B_, lsv encT 1 y125.1]) (v := .tup [lsv (encI .u8) 1 y291.1, .int .i64 y291.2]) (tr2 := []) (by kernel_rfl) (by kernel_rfl) (.cons (Le.refl _) (.cons (Le.refl _) .nil)) (pack_PutPool_ok hy292) (by kernel_rfl) ?_
          refine RJ.seg 5 [2, 3, 7, 13, 18, 19] (L2 := [(2, .bool false), (3, lsv (encI .u8) 1 x0.B_), (7, .bool y1), (13, lsv encT 1 y125.1), (18, lsv (encI .u8) 1 y291.1), (19, .int .i64 y291.2)]) (H2 := []) (by kernel_rfl) ?_
          refine RJ.end (by kernel_rfl) ?_
          refine PJ.next ?_
          refine K.seq (by kernel_rfl) ?_
          refine K.seq (by kernel_rfl) ?_
          refine K.region (by kernel_rfl) ?_
          refine RJ.seg 2 [2, 3, 7, 13, 18, 128] (L2 := [(2, .bool false), (3, lsv (encI .u8) 1 x0.B_), (7, .bool y1), (13, lsv encT 1 y125.1), (18, lsv (encI .u8) 1 y291.1), (128, .bool (decide (¬ y291.2 = 0)))]) (H2 := []) (by kernel_rfl) ?_
          refine RJ.end (by kernel_rfl) ?_
          refine PJ.next ?_
          refine J.caseB 128 (b := (decide (¬ y291.2 = 0))) (by kernel_rfl) (fun hb294 => ?_) (fun hb294 => ?_)
          · have h295 := condT hb294 h293
            refine K.condT (by kernel_rfl) ?_
            obtain ⟨s315, hy317, h319⟩ := bindS h295
            refine K.cutN (by kernel_rfl) (fun (s315 : Bool) => ([(2, .bool s315), (3, lsv (encI .u8) 1 x0.B_), (7, .bool y1), (13, lsv encT 1 y125.1), (18, lsv (encI .u8) 1 y291.1)], [])) s315 ?_ ?_
            · refine K.region (by kernel_rfl) ?_
              refine RJ.seg 2 [2, 3, 7, 13, 18, 130] (L2 := [(2, .bool false), (3, lsv (encI .u8) 1 x0.B_), (7, .bool y1), (13, lsv encT 1 y125.1), (18, lsv (encI .u8) 1 y291.1), (130, .bool y1)]) (H2 := []) (by kernel_rfl) ?_
              refine RJ.caseB 130 (b := y1) (by kernel_rfl) (fun hb320 => ?_) (fun hb320 => ?_)
              · have h321 := condT hb320 hy317
                refine RJ.seg 4 [2, 3, 7, 13, 18, 130, 134] (L2 := [(2, .bool false), (3, lsv (encI .u8) 1 x0.B_), (7, .bool y1), (13, lsv encT 1 y125.1), (18, lsv (encI .u8) 1 y291.1), (130, .bool true), (134, .bool ((decide ((y125.1.length : Int) > 500))))]) (H2 := []) (by kernel_rfl) ?_
                refine RJ.caseB 134 (b := (decide ((y125.1.length : Int) > 500))) (by kernel_rfl) (fun hb323 => ?_) (fun hb323 => ?_)
                · have h324 := condT hb323 h321
                  refine RJ.seg 8 [2, 3, 7, 13, 18, 140, 141, 142] (L2 := [(2, .bool false), (3, lsv (encI .u8) 1 x0.B_), (7, .bool y1), (13, lsv encT 1 y125.1), (18, lsv (encI .u8) 1 y291.1), (140, .bool true), (141, lsv (encI .u8) 1 y291.1), (142, lsv (encI .u8) 1 x0.B_)]) (H2 := []) (by kernel_rfl) ?_
                  obtain ⟨y326, hy327, h328⟩ := bindS h324
                  refine RJ.call0 (d := (some 143)) (f := 15) (args := [lsv (encI .u8) 1 y291.1, lsv (encI .u8) 1 x0.B_]) (v := .bool y326) (tr2 := []) (by kernel_rfl) (by kernel_rfl) (.cons (Le.refl _) (.cons (Le.refl _) .nil)) (exergueref01_Row_ok hy327) (by kernel_rfl) ?_
                  refine RJ.seg 2 [2, 3, 7, 13, 18] (L2 := [(2, .bool y326), (3, lsv (encI .u8) 1 x0.B_), (7, .bool y1), (13, lsv encT 1 y125.1), (18, lsv (encI .u8) 1 y291.1)]) (H2 := []) (by kernel_rfl) ?_
                  refine RJ.end (by kernel_rfl) ?_
                  obtain rfl := Option.some.inj h328
                  exact PJ.cutN [2, 3, 7, 13, 18] (by kernel_rfl) (by kernel_rfl)
                · have h325 := condF hb323 h321
                  refine RJ.seg 1 [2, 3, 7, 13, 18, 130, 134, 135] (L2 := [(2, .bool false), (3, lsv (encI .u8) 1 x0.B_), (7, .bool y1), (13, lsv encT 1 y125.1), (18, lsv (encI .u8) 1 y291.1), (130, .bool true), (134, .bool false), (135, lsv encT 1 y125.1)]) (H2 := []) (by kernel_rfl) ?_
                  obtain ⟨y329, hy330, h331⟩ := bindS h325
                  refine RJ.call0 (d := (some 136)) (f := 28) (args := [lsv encT 1 y125.1]) (v := .bool y329) (tr2 := []) (by kernel_rfl) (by kernel_rfl) (.cons (Le.refl _) .nil) (exergueref09_Pool_ok hy330) (by kernel_rfl) ?_
                  refine RJ.seg 4 [2, 3, 7, 13, 18, 140] (L2 := [(2, .bool false), (3, lsv (encI .u8) 1 x0.B_), (7, .bool y1), (13, lsv encT 1 y125.1), (18, lsv (encI .u8) 1 y291.1), (140, .bool (!y329))]) (H2 := []) (by kernel_rfl) ?_
                  refine RJ.caseB 140 (b := (!y329)) (by kernel_rfl) (fun hb332 => ?_) (fun hb332 => ?_)
                  · have h333 := condT hb332 h331
                    refine RJ.seg 2 [2, 3, 7, 13, 18, 140, 141, 142] (L2 := [(2, .bool false), (3, lsv (encI .u8) 1 x0.B_), (7, .bool y1), (13, lsv encT 1 y125.1), (18, lsv (encI .u8) 1 y291.1), (140, .bool true), (141, lsv (encI .u8) 1 y291.1), (142, lsv (encI .u8) 1 x0.B_)]) (H2 := []) (by kernel_rfl) ?_
                    obtain ⟨y335, hy336, h337⟩ := bindS h333
                    refine RJ.call0 (d := (some 143)) (f := 15) (args := [lsv (encI .u8) 1 y291.1, lsv (encI .u8) 1 x0.B_]) (v := .bool y335) (tr2 := []) (by kernel_rfl) (by kernel_rfl) (.cons (Le.refl _) (.cons (Le.refl _) .nil)) (exergueref01_Row_ok hy336) (by kernel_rfl) ?_
                    refine RJ.seg 2 [2, 3, 7, 13, 18] (L2 := [(2, .bool y335), (3, lsv (encI .u8) 1 x0.B_), (7, .bool y1), (13, lsv encT 1 y125.1), (18, lsv (encI .u8) 1 y291.1)]) (H2 := []) (by kernel_rfl) ?_
                    refine RJ.end (by kernel_rfl) ?_
                    obtain rfl := Option.some.inj h337
                    exact PJ.cutN [2, 3, 7, 13, 18] (by kernel_rfl) (by kernel_rfl)
                  · have h334 := condF hb332 h331
                    refine RJ.seg 5 [2, 3, 7, 13, 18] (L2 := [(2, .bool false), (3, lsv (encI .u8) 1 x0.B_), (7, .bool y1), (13, lsv encT 1 y125.1), (18, lsv (encI .u8) 1 y291.1)]) (H2 := []) (by kernel_rfl) ?_
                    refine RJ.end (by kernel_rfl) ?_
                    obtain rfl := Option.some.inj h334
                    exact PJ.cutN [2, 3, 7, 13, 18] (by kernel_rfl) (by kernel_rfl)
              · have h322 := condF hb320 hy317
                refine RJ.seg 15 [2, 3, 7, 13, 18] (L2 := [(2, .bool false), (3, lsv (encI .u8) 1 x0.B_), (7, .bool y1), (13, lsv encT 1 y125.1), (18, lsv (encI .u8) 1 y291.1)]) (H2 := []) (by kernel_rfl) ?_
                refine RJ.end (by kernel_rfl) ?_
                obtain rfl := Option.some.inj h322
                exact PJ.cutN [2, 3, 7, 13, 18] (by kernel_rfl) (by kernel_rfl)
            · refine K.ret (by kernel_rfl) ?_
              refine PJ.passRet ?_
              obtain rfl := Option.some.inj h319
              exact K.ret0 (.inr rfl) hFn hFH hFD (by kernel_rfl) (by kernel_rfl) (by kernel_rfl)
          · have h296 := condF hb294 h293
            refine K.condF (by kernel_rfl) ?_
            refine K.skip (by kernel_rfl) ?_
            refine PJ.next ?_
            refine K.seq (by kernel_rfl) ?_
            refine K.region (by kernel_rfl) ?_
            refine RJ.seg 3 [2, 7, 13, 18, 146, 148] (L2 := [(2, .bool false), (7, .bool y1), (13, lsv encT 1 y125.1), (18, lsv (encI .u8) 1 y291.1), (146, lsv (encI .u8) 1 y291.1), (148, .int .i64 (x0.B_.length : Int))]) (H2 := []) (by kernel_rfl) ?_
            obtain ⟨y338, hy339, h340⟩ := bindS h296
            refine RJ.call0 (d := (some 149)) (f := 25) (args := [lsv (encI .u8) 1 y291.1, .int .i64 (x0.B_.length : Int)]) (v := .tup [lsv encT 1 y338.1, .int .i64 y338.2.1, .int .i64 y338.2.2]) (tr2 := []) (by kernel_rfl) (by kernel_rfl) (.cons (Le.refl _) (.cons (Le.refl _) .nil)) (pack_TakePool_ok hy339) (by kernel_rfl) ?_
            refine RJ.seg 7 [2, 7, 13, 18, 20, 21, 22] (L2 := [(2, .bool false), (7, .bool y1), (13, lsv encT 1 y125.1), (18, lsv (encI .u8) 1 y291.1), (20, lsv encT 1 y338.1), (21, .int .i64 y338.2.1), (22, .int .i64 y338.2.2)]) (H2 := []) (by kernel_rfl) ?_
            refine RJ.end (by kernel_rfl) ?_
            refine PJ.next ?_
            obtain ⟨s353, hy355, h357⟩ := bindS h340
            refine K.cutN (by kernel_rfl) (fun (s353 : Bool) => ([(2, .bool s353)], [])) s353 ?_ ?_
            · refine K.region (by kernel_rfl) ?_
              refine RJ.seg 2 [2, 13, 18, 20, 21, 22, 154] (L2 := [(2, .bool false), (13, lsv encT 1 y125.1), (18, lsv (encI .u8) 1 y291.1), (20, lsv encT 1 y338.1), (21, .int .i64 y338.2.1), (22, .int .i64 y338.2.2), (154, .bool y1)]) (H2 := []) (by kernel_rfl) ?_
              refine RJ.caseB 154 (b := y1) (by kernel_rfl) (fun hb358 => ?_) (fun hb358 => ?_)
              · have h359 := condT hb358 hy355
                refine RJ.seg 4 [2, 13, 18, 20, 21, 158] (L2 := [(2, .bool false), (13, lsv encT 1 y125.1), (18, lsv (encI .u8) 1 y291.1), (20, lsv encT 1 y338.1), (21, .int .i64 y338.2.1), (158, .bool (decide (y338.2.2 = 0)))]) (H2 := []) (by kernel_rfl) ?_
                refine RJ.caseB 158 (b := (decide (y338.2.2 = 0))) (by kernel_rfl) (fun hb361 => ?_) (fun hb361 => ?_)
                · have h362 := condT hb361 h359
                  refine RJ.seg 6 [2, 13, 20, 164] (L2 := [(2, .bool false), (13, lsv encT 1 y125.1), (20, lsv encT 1 y338.1), (164, .bool ((decide (y338.2.1 = (y291.1.length : Int)))))]) (H2 := []) (by kernel_rfl) ?_
                  refine RJ.caseB 164 (b := (decide (y338.2.1 = (y291.1.length : Int)))) (by kernel_rfl) (fun hb364 => ?_) (fun hb364 => ?_)
                  · have h365 := condT hb364 h362
                    refine RJ.seg 2 [2, 164, 165, 166] (L2 := [(2, .bool false), (164, .bool true), (165, lsv encT 1 y338.1), (166, lsv encT 1 y125.1)]) (H2 := []) (by kernel_rfl) ?_
                    obtain ⟨y367, hy368, h369⟩ := bindS h365
                    refine RJ.call0 (d := (some 167)) (f := 21) (args := [lsv encT 1 y338.1, lsv encT 1 y125.1]) (v := .bool y367) (tr2 := []) (by kernel_rfl) (by kernel_rfl) (.cons (Le.refl _) (.cons (Le.refl _) .nil)) (exergueref09_Texts_ok hy368) (by kernel_rfl) ?_
                    refine RJ.seg 2 [2] (L2 := [(2, .bool y367)]) (H2 := []) (by kernel_rfl) ?_
                    refine RJ.end (by kernel_rfl) ?_
                    obtain rfl := Option.some.inj h369
                    exact PJ.cutN [2] (by kernel_rfl) (by kernel_rfl)
                  · have h366 := condF hb364 h362
                    refine RJ.seg 5 [2] (L2 := [(2, .bool false)]) (H2 := []) (by kernel_rfl) ?_
                    refine RJ.end (by kernel_rfl) ?_
                    obtain rfl := Option.some.inj h366
                    exact PJ.cutN [2] (by kernel_rfl) (by kernel_rfl)
                · have h363 := condF hb361 h359
                  refine RJ.seg 11 [2] (L2 := [(2, .bool false)]) (H2 := []) (by kernel_rfl) ?_
                  refine RJ.end (by kernel_rfl) ?_
                  obtain rfl := Option.some.inj h363
                  exact PJ.cutN [2] (by kernel_rfl) (by kernel_rfl)
              · have h360 := condF hb358 hy355
                refine RJ.seg 15 [2] (L2 := [(2, .bool false)]) (H2 := []) (by kernel_rfl) ?_
                refine RJ.end (by kernel_rfl) ?_
                obtain rfl := Option.some.inj h360
                exact PJ.cutN [2] (by kernel_rfl) (by kernel_rfl)
            · refine K.ret (by kernel_rfl) ?_
              obtain rfl := Option.some.inj h357
              exact K.ret0 (.inr rfl) hFn hFH hFD (by kernel_rfl) (by kernel_rfl) (by kernel_rfl)

def exerguelaw09_PackRow (x0 : List Int) (x1 : Int) : Option (Bool) :=
  (Option.bind exerguelaw09_shown fun y1 => (bif (decide ((x0.length : Int) > 100)) then (some y1) else (Option.bind (loopN (fun (s129 : (List Int) × Int) => (bif (decide (s129.2 < (x0.length : Int))) then (bif inR s129.2 x0.length then (Option.bind (pack_Put s129.1 (nth x0 s129.2) x1) fun y212 => (bif (decide (¬ y212.2 = 0)) then (Option.bind (bif y1 then (bif (decide (y212.2 = 1)) then (Option.bind (exergueref01_Row y212.1 s129.1) fun y238 => (some y238)) else (some false)) else (some false)) fun (s227 : Bool) => (some (.inr (.inr s227)))) else (some (.inl (y212.1, (IntKind.wrap .i64 (s129.2 + 1))))))) else none) else (some (.inr (.inl s129.1))))) big (([] : List Int), 0)) (joinX fun (s124 : (List Int)) => (Option.bind (loopN (fun (s656 : Int × Int) => (bif (decide (s656.2 < (x0.length : Int))) then (Option.bind (Option.bind (pack_Take s124 s656.1 x1) fun y997 => (Option.bind (Option.bind (bif (decide (¬ y997.2.2 = 0)) then (some true) else (bif inR s656.2 x0.length then (bif (decide (¬ y997.1 = (nth x0 s656.2))) then (some true) else (some ((decide (¬ y997.2.1 = (IntKind.wrap .i64 (s656.1 + x1))))))) else none)) fun (s1039 : Bool) => (bif s1039 then (some (.inr (.inr (.inr (.inr false))))) else (some (.inl ())))) (joinX fun (s1027 : Unit) => (some (.inl y997.2.1))))) (joinX fun (s992 : Int) => (some (.inl (s992, (IntKind.wrap .i64 (s656.2 + 1))))))) else (some (.inr (.inl s656.1))))) big (0, 0)) (joinX fun (s651 : Int) => (Option.bind (pack_Take s124 s651 x1) fun y1061 => (Option.bind (bif y1 then (bif (decide (s651 = (s124.length : Int))) then (some (decide (¬ y1061.2.2 = 0))) else (some false)) else (some false)) fun (s1070 : Bool) => (some s1070)))))))))
theorem exerguelaw09_PackRow_ok {x0 : List Int} {x1 : Int} {r : Bool} (h : exerguelaw09_PackRow x0 x1 = some r) : SC Try.prog 7 [lsv (encI .u32) 1 x0, .int .i64 x1] [] (.bool r) [] := by
  refine K.fn (fn := Try.f7) (by kernel_rfl) (by kernel_rfl) (by kernel_rfl) (by kernel_rfl) (by kernel_rfl) (fun F hFn hFH hFD => ?_)
  unfold exerguelaw09_PackRow at h
  refine K.seq (by kernel_rfl) ?_
  refine K.region (by kernel_rfl) ?_
  refine RJ.seg 1 [0, 1, 4] (L2 := [(0, lsv (encI .u32) 1 x0), (1, .int .i64 x1), (4, .bool false)]) (H2 := []) (by kernel_rfl) ?_
  refine RJ.end (by kernel_rfl) ?_
  refine PJ.next ?_
  refine K.seq (by kernel_rfl) ?_
  refine K.region (by kernel_rfl) ?_
  obtain ⟨y1, hy2, h3⟩ := bindS h
  refine RJ.call0 (d := (some 18)) (f := 10) (args := []) (v := .bool y1) (tr2 := []) (by kernel_rfl) (by kernel_rfl) .nil (exerguelaw09_shown_ok hy2) (by kernel_rfl) ?_
  refine RJ.seg 1 [0, 1, 4, 5] (L2 := [(0, lsv (encI .u32) 1 x0), (1, .int .i64 x1), (4, .bool false), (5, .bool y1)]) (H2 := []) (by kernel_rfl) ?_
  refine RJ.end (by kernel_rfl) ?_
  refine PJ.next ?_
  refine K.seq (by kernel_rfl) ?_
  refine K.seq (by kernel_rfl) ?_
  refine K.region (by kernel_rfl) ?_
  refine RJ.seg 3 [0, 1, 4, 5, 21] (L2 := [(0, lsv (encI .u32) 1 x0), (1, .int .i64 x1), (4, .bool false), (5, .bool y1), (21, .bool ((decide ((x0.length : Int) > 100))))]) (H2 := []) (by kernel_rfl) ?_
  refine RJ.end (by kernel_rfl) ?_
  refine PJ.next ?_
  refine J.caseB 21 (b := (decide ((x0.length : Int) > 100))) (by kernel_rfl) (fun hb4 => ?_) (fun hb4 => ?_)
  · have h5 := condT hb4 h3
    refine K.condT (by kernel_rfl) ?_
    refine K.seq (by kernel_rfl) ?_
    refine K.region (by kernel_rfl) ?_
    refine RJ.seg 2 [0, 1, 4, 5] (L2 := [(0, lsv (encI .u32) 1 x0), (1, .int .i64 x1), (4, .bool y1), (5, .bool y1)]) (H2 := []) (by kernel_rfl) ?_
    refine RJ.end (by kernel_rfl) ?_
    refine PJ.next ?_
    refine K.ret (by kernel_rfl) ?_
    refine PJ.passRet ?_
    obtain rfl := Option.some.inj h5
    exact K.ret0 (.inr rfl) hFn hFH hFD (by kernel_rfl) (by kernel_rfl) (by kernel_rfl)
  · have h6 := condF hb4 h3
    refine K.condF (by kernel_rfl) ?_
    refine K.skip (by kernel_rfl) ?_
    refine PJ.next ?_
    refine K.seq (by kernel_rfl) ?_
    refine K.region (by kernel_rfl) ?_
    refine RJ.seg 1 [0, 1, 4, 5, 6] (L2 := [(0, lsv (encI .u32) 1 x0), (1, .int .i64 x1), (4, .bool false), (5, .bool y1), (6, .nl)]) (H2 := []) (by kernel_rfl) ?_
    refine RJ.end (by kernel_rfl) ?_
    refine PJ.next ?_
    obtain ⟨y125, hy126, h127⟩ := bindS h6
    refine K.cutX (by kernel_rfl) (fun (s124 : (List Int)) => ([(0, lsv (encI .u32) 1 x0), (1, .int .i64 x1), (4, .bool false), (5, .bool y1), (6, lsv (encI .u8) 1 s124)], [])) y125 ?_ (fun s124 hs => ?_)
    · refine K.seq (by kernel_rfl) ?_
      refine K.region (by kernel_rfl) ?_
      refine RJ.seg 1 [0, 1, 4, 5, 6, 7] (L2 := [(0, lsv (encI .u32) 1 x0), (1, .int .i64 x1), (4, .bool false), (5, .bool y1), (6, .nl), (7, .int .i64 0)]) (H2 := []) (by kernel_rfl) ?_
      refine RJ.end (by kernel_rfl) ?_
      refine PJ.next ?_
      refine K.block 0 (by kernel_rfl) ?_
      refine J.wk (Wk.le 6 (v := .nl) (v' := lsv (encI .u8) 1 []) (by kernel_rfl) (Le.nl _)) ?_
      refine K.loop (by kernel_rfl) (fun (s129 : (List Int) × Int) => ([(0, lsv (encI .u32) 1 x0), (1, .int .i64 x1), (4, .bool false), (5, .bool y1), (6, lsv (encI .u8) 1 s129.1), (7, .int .i64 s129.2)], [])) hy126 [0, 1, 4, 5, 6, 7] (by kernel_rfl) (by kernel_rfl) (fun s129 x207 hs206 => ?_)
      refine K.seq (by kernel_rfl) ?_
      refine K.seq (by kernel_rfl) ?_
      refine K.region (by kernel_rfl) ?_
      refine RJ.seg 4 [0, 1, 4, 5, 6, 7, 26] (L2 := [(0, lsv (encI .u32) 1 x0), (1, .int .i64 x1), (4, .bool false), (5, .bool y1), (6, lsv (encI .u8) 1 s129.1), (7, .int .i64 s129.2), (26, .bool ((decide (s129.2 < (x0.length : Int)))))]) (H2 := []) (by kernel_rfl) ?_
      refine RJ.end (by kernel_rfl) ?_
      refine PJ.next ?_
      refine J.caseB 26 (b := (decide (s129.2 < (x0.length : Int)))) (by kernel_rfl) (fun hb208 => ?_) (fun hb208 => ?_)
      · have h209 := condT hb208 hs206
        refine K.condT (by kernel_rfl) ?_
        refine K.skip (by kernel_rfl) ?_
        refine PJ.next ?_
        refine K.seq (by kernel_rfl) ?_
        refine K.block 1 (by kernel_rfl) ?_
        refine K.seq (by kernel_rfl) ?_
        refine K.region (by kernel_rfl) ?_
        refine RJ.seg 3 [0, 1, 4, 5, 6, 7, 30, 31, 32] (L2 := [(0, lsv (encI .u32) 1 x0), (1, .int .i64 x1), (4, .bool false), (5, .bool y1), (6, lsv (encI .u8) 1 s129.1), (7, .int .i64 s129.2), (30, lsv (encI .u8) 1 s129.1), (31, lsv (encI .u32) 1 x0), (32, .int .i64 s129.2)]) (H2 := []) (by kernel_rfl) ?_
        obtain ⟨hm, h211⟩ := asrt h209
        refine RJ.rel (d := (some 33)) (ef := ⟨.ep (((x0.flatMap (encI .u32)).drop ((s129.2 : Int).toNat * 1)).take 1), [], []⟩) (ef' := ⟨.ep ((encI .u32) (nth x0 s129.2)), [], []⟩) (c := inR s129.2 x0.length) (tr2 := []) (H2 := []) (by kernel_rfl) hm (fun hc => N.idx (encI_len .u32) hc) (by kernel_rfl) ?_
        refine RJ.seg 2 [0, 1, 4, 5, 6, 7, 30, 34, 35] (L2 := [(0, lsv (encI .u32) 1 x0), (1, .int .i64 x1), (4, .bool false), (5, .bool y1), (6, lsv (encI .u8) 1 s129.1), (7, .int .i64 s129.2), (30, lsv (encI .u8) 1 s129.1), (34, .int .u32 (nth x0 s129.2)), (35, .int .i64 x1)]) (H2 := []) (by kernel_rfl) ?_
        obtain ⟨y212, hy213, h214⟩ := bindS h211
        refine RJ.call0 (d := (some 36)) (f := 11) (args := [lsv (encI .u8) 1 s129.1, .int .u32 (nth x0 s129.2), .int .i64 x1]) (v := .tup [lsv (encI .u8) 1 y212.1, .int .i64 y212.2]) (tr2 := []) (by kernel_rfl) (by kernel_rfl) (.cons (Le.refl _) (.cons (Le.refl _) (.cons (Le.refl _) .nil))) (pack_Put_ok hy213) (by kernel_rfl) ?_
        refine RJ.seg 5 [0, 1, 4, 5, 6, 7, 8, 9] (L2 := [(0, lsv (encI .u32) 1 x0), (1, .int .i64 x1), (4, .bool false), (5, .bool y1), (6, lsv (encI .u8) 1 s129.1), (7, .int .i64 s129.2), (8, lsv (encI .u8) 1 y212.1), (9, .int .i64 y212.2)]) (H2 := []) (by kernel_rfl) ?_
        refine RJ.end (by kernel_rfl) ?_
        refine PJ.next ?_
        refine K.seq (by kernel_rfl) ?_
        refine K.seq (by kernel_rfl) ?_
        refine K.region (by kernel_rfl) ?_
        refine RJ.seg 2 [0, 1, 4, 5, 6, 7, 8, 9, 40] (L2 := [(0, lsv (encI .u32) 1 x0), (1, .int .i64 x1), (4, .bool false), (5, .bool y1), (6, lsv (encI .u8) 1 s129.1), (7, .int .i64 s129.2), (8, lsv (encI .u8) 1 y212.1), (9, .int .i64 y212.2), (40, .bool (decide (¬ y212.2 = 0)))]) (H2 := []) (by kernel_rfl) ?_
        refine RJ.end (by kernel_rfl) ?_
        refine PJ.next ?_
        refine J.caseB 40 (b := (decide (¬ y212.2 = 0))) (by kernel_rfl) (fun hb215 => ?_) (fun hb215 => ?_)
        · have h216 := condT hb215 h214
          refine K.condT (by kernel_rfl) ?_
          obtain ⟨s227, hy229, h231⟩ := bindS h216
          refine K.cutN (by kernel_rfl) (fun (s227 : Bool) => ([(0, lsv (encI .u32) 1 x0), (1, .int .i64 x1), (4, .bool s227), (5, .bool y1), (6, lsv (encI .u8) 1 s129.1), (7, .int .i64 s129.2), (8, lsv (encI .u8) 1 y212.1)], [])) s227 ?_ ?_
          · refine K.region (by kernel_rfl) ?_
            refine RJ.seg 2 [0, 1, 4, 5, 6, 7, 8, 9, 42] (L2 := [(0, lsv (encI .u32) 1 x0), (1, .int .i64 x1), (4, .bool false), (5, .bool y1), (6, lsv (encI .u8) 1 s129.1), (7, .int .i64 s129.2), (8, lsv (encI .u8) 1 y212.1), (9, .int .i64 y212.2), (42, .bool y1)]) (H2 := []) (by kernel_rfl) ?_
            refine RJ.caseB 42 (b := y1) (by kernel_rfl) (fun hb232 => ?_) (fun hb232 => ?_)
            · have h233 := condT hb232 hy229
              refine RJ.seg 4 [0, 1, 4, 5, 6, 7, 8, 46] (L2 := [(0, lsv (encI .u32) 1 x0), (1, .int .i64 x1), (4, .bool false), (5, .bool y1), (6, lsv (encI .u8) 1 s129.1), (7, .int .i64 s129.2), (8, lsv (encI .u8) 1 y212.1), (46, .bool (decide (y212.2 = 1)))]) (H2 := []) (by kernel_rfl) ?_
              refine RJ.caseB 46 (b := (decide (y212.2 = 1))) (by kernel_rfl) (fun hb235 => ?_) (fun hb235 => ?_)
              · have h236 := condT hb235 h233
                refine RJ.seg 2 [0, 1, 4, 5, 6, 7, 8, 46, 47, 48] (L2 := [(0, lsv (encI .u32) 1 x0), (1, .int .i64 x1), (4, .bool false), (5, .bool y1), (6, lsv (encI .u8) 1 s129.1), (7, .int .i64 s129.2), (8, lsv (encI .u8) 1 y212.1), (46, .bool true), (47, lsv (encI .u8) 1 y212.1), (48, lsv (encI .u8) 1 s129.1)]) (H2 := []) (by kernel_rfl) ?_
                obtain ⟨y238, hy239, h240⟩ := bindS h236
                refine RJ.call0 (d := (some 49)) (f := 15) (args := [lsv (encI .u8) 1 y212.1, lsv (encI .u8) 1 s129.1]) (v := .bool y238) (tr2 := []) (by kernel_rfl) (by kernel_rfl) (.cons (Le.refl _) (.cons (Le.refl _) .nil)) (exergueref01_Row_ok hy239) (by kernel_rfl) ?_
                refine RJ.seg 2 [0, 1, 4, 5, 6, 7, 8] (L2 := [(0, lsv (encI .u32) 1 x0), (1, .int .i64 x1), (4, .bool y238), (5, .bool y1), (6, lsv (encI .u8) 1 s129.1), (7, .int .i64 s129.2), (8, lsv (encI .u8) 1 y212.1)]) (H2 := []) (by kernel_rfl) ?_
                refine RJ.end (by kernel_rfl) ?_
                obtain rfl := Option.some.inj h240
                exact PJ.cutN [0, 1, 4, 5, 6, 7, 8] (by kernel_rfl) (by kernel_rfl)
              · have h237 := condF hb235 h233
                refine RJ.seg 5 [0, 1, 4, 5, 6, 7, 8] (L2 := [(0, lsv (encI .u32) 1 x0), (1, .int .i64 x1), (4, .bool false), (5, .bool y1), (6, lsv (encI .u8) 1 s129.1), (7, .int .i64 s129.2), (8, lsv (encI .u8) 1 y212.1)]) (H2 := []) (by kernel_rfl) ?_
                refine RJ.end (by kernel_rfl) ?_
                obtain rfl := Option.some.inj h237
                exact PJ.cutN [0, 1, 4, 5, 6, 7, 8] (by kernel_rfl) (by kernel_rfl)
            · have h234 := condF hb232 hy229
              refine RJ.seg 9 [0, 1, 4, 5, 6, 7, 8] (L2 := [(0, lsv (encI .u32) 1 x0), (1, .int .i64 x1), (4, .bool false), (5, .bool y1), (6, lsv (encI .u8) 1 s129.1), (7, .int .i64 s129.2), (8, lsv (encI .u8) 1 y212.1)]) (H2 := []) (by kernel_rfl) ?_
              refine RJ.end (by kernel_rfl) ?_
              obtain rfl := Option.some.inj h234
              exact PJ.cutN [0, 1, 4, 5, 6, 7, 8] (by kernel_rfl) (by kernel_rfl)
          · refine K.ret (by kernel_rfl) ?_
            refine PJ.passRet ?_
            refine PJ.blockRet ?_
            refine PJ.passRet ?_
            obtain rfl := Option.some.inj h231
            refine PJ.loopOut (fun e => nomatch e) (fun he243 => ?_)
            have h241 := congrArg some he243
            refine PJ.blockRet ?_
            obtain rfl := Option.some.inj h241
            have h242 := joinX_inr h127
            refine PJ.cutXr (fun e => nomatch e) ?_
            obtain rfl := Option.some.inj h242
            exact K.ret0 (.inr rfl) hFn hFH hFD (by kernel_rfl) (by kernel_rfl) (by kernel_rfl)
        · have h217 := condF hb215 h214
          refine K.condF (by kernel_rfl) ?_
          refine K.skip (by kernel_rfl) ?_
          refine PJ.next ?_
          refine K.region (by kernel_rfl) ?_
          refine RJ.seg 2 [0, 1, 4, 5, 6, 7] (L2 := [(0, lsv (encI .u32) 1 x0), (1, .int .i64 x1), (4, .bool false), (5, .bool y1), (6, lsv (encI .u8) 1 y212.1), (7, .int .i64 s129.2)]) (H2 := []) (by kernel_rfl) ?_
          refine RJ.end (by kernel_rfl) ?_
          refine PJ.blockNormal ?_
          refine PJ.next ?_
          refine K.region (by kernel_rfl) ?_
          refine RJ.seg 3 [0, 1, 4, 5, 6, 7] (L2 := [(0, lsv (encI .u32) 1 x0), (1, .int .i64 x1), (4, .bool false), (5, .bool y1), (6, lsv (encI .u8) 1 y212.1), (7, .int .i64 (IntKind.wrap .i64 (s129.2 + 1)))]) (H2 := []) (by kernel_rfl) ?_
          refine RJ.end (by kernel_rfl) ?_
          obtain rfl := Option.some.inj h217
          exact PJ.loopNext [0, 1, 4, 5, 6, 7] (by kernel_rfl) (by kernel_rfl)
      · have h210 := condF hb208 hs206
        refine K.condF (by kernel_rfl) ?_
        refine K.exit 0 (by kernel_rfl) ?_
        refine PJ.passExit ?_
        obtain rfl := Option.some.inj h210
        refine PJ.loopOut (fun e => nomatch e) (fun he245 => ?_)
        have h244 := congrArg some he245
        refine PJ.blockOut ?_
        obtain rfl := Option.some.inj h244
        exact PJ.cutXl [0, 1, 4, 5, 6] (by kernel_rfl) (by kernel_rfl)
    · subst hs
      have h128 := joinX_inl h127
      refine K.seq (by kernel_rfl) ?_
      refine K.region (by kernel_rfl) ?_
      refine RJ.seg 1 [0, 1, 4, 5, 6, 10] (L2 := [(0, lsv (encI .u32) 1 x0), (1, .int .i64 x1), (4, .bool false), (5, .bool y1), (6, lsv (encI .u8) 1 s124), (10, .int .i64 0)]) (H2 := []) (by kernel_rfl) ?_
      refine RJ.end (by kernel_rfl) ?_
      refine PJ.next ?_
      obtain ⟨y652, hy653, h654⟩ := bindS h128
      refine K.cutX (by kernel_rfl) (fun (s651 : Int) => ([(1, .int .i64 x1), (4, .bool false), (5, .bool y1), (6, lsv (encI .u8) 1 s124), (10, .int .i64 s651)], [])) y652 ?_ (fun s651 hs => ?_)
      · refine K.seq (by kernel_rfl) ?_
        refine K.region (by kernel_rfl) ?_
        refine RJ.seg 1 [0, 1, 4, 5, 6, 10, 11] (L2 := [(0, lsv (encI .u32) 1 x0), (1, .int .i64 x1), (4, .bool false), (5, .bool y1), (6, lsv (encI .u8) 1 s124), (10, .int .i64 0), (11, .int .i64 0)]) (H2 := []) (by kernel_rfl) ?_
        refine RJ.end (by kernel_rfl) ?_
        refine PJ.next ?_
        refine K.block 2 (by kernel_rfl) ?_
        refine K.loop (by kernel_rfl) (fun (s656 : Int × Int) => ([(0, lsv (encI .u32) 1 x0), (1, .int .i64 x1), (4, .bool false), (5, .bool y1), (6, lsv (encI .u8) 1 s124), (10, .int .i64 s656.1), (11, .int .i64 s656.2)], [])) hy653 [0, 1, 4, 5, 6, 10, 11] (by kernel_rfl) (by kernel_rfl) (fun s656 x926 hs925 => ?_)
        refine K.seq (by kernel_rfl) ?_
        refine K.seq (by kernel_rfl) ?_
        refine K.region (by kernel_rfl) ?_
        refine RJ.seg 4 [0, 1, 4, 5, 6, 10, 11, 55] (L2 := [(0, lsv (encI .u32) 1 x0), (1, .int .i64 x1), (4, .bool false), (5, .bool y1), (6, lsv (encI .u8) 1 s124), (10, .int .i64 s656.1), (11, .int .i64 s656.2), (55, .bool ((decide (s656.2 < (x0.length : Int)))))]) (H2 := []) (by kernel_rfl) ?_
        refine RJ.end (by kernel_rfl) ?_
        refine PJ.next ?_
        refine J.caseB 55 (b := (decide (s656.2 < (x0.length : Int)))) (by kernel_rfl) (fun hb927 => ?_) (fun hb927 => ?_)
        · have h928 := condT hb927 hs925
          refine K.condT (by kernel_rfl) ?_
          refine K.skip (by kernel_rfl) ?_
          refine PJ.next ?_
          obtain ⟨y993, hy994, h995⟩ := bindS h928
          refine K.cutX (by kernel_rfl) (fun (s992 : Int) => ([(0, lsv (encI .u32) 1 x0), (1, .int .i64 x1), (4, .bool false), (5, .bool y1), (6, lsv (encI .u8) 1 s124), (10, .int .i64 s992), (11, .int .i64 s656.2)], [])) y993 ?_ (fun s992 hs => ?_)
          · refine K.block 3 (by kernel_rfl) ?_
            refine K.seq (by kernel_rfl) ?_
            refine K.region (by kernel_rfl) ?_
            refine RJ.seg 3 [0, 1, 4, 5, 6, 10, 11, 59, 60, 61] (L2 := [(0, lsv (encI .u32) 1 x0), (1, .int .i64 x1), (4, .bool false), (5, .bool y1), (6, lsv (encI .u8) 1 s124), (10, .int .i64 s656.1), (11, .int .i64 s656.2), (59, lsv (encI .u8) 1 s124), (60, .int .i64 s656.1), (61, .int .i64 x1)]) (H2 := []) (by kernel_rfl) ?_
            obtain ⟨y997, hy998, h999⟩ := bindS hy994
            refine RJ.call0 (d := (some 62)) (f := 13) (args := [lsv (encI .u8) 1 s124, .int .i64 s656.1, .int .i64 x1]) (v := .tup [.int .u32 y997.1, .int .i64 y997.2.1, .int .i64 y997.2.2]) (tr2 := []) (by kernel_rfl) (by kernel_rfl) (.cons (Le.refl _) (.cons (Le.refl _) (.cons (Le.refl _) .nil))) (pack_Take_ok hy998) (by kernel_rfl) ?_
            refine RJ.seg 7 [0, 1, 4, 5, 6, 10, 11, 12, 13, 14] (L2 := [(0, lsv (encI .u32) 1 x0), (1, .int .i64 x1), (4, .bool false), (5, .bool y1), (6, lsv (encI .u8) 1 s124), (10, .int .i64 s656.1), (11, .int .i64 s656.2), (12, .int .u32 y997.1), (13, .int .i64 y997.2.1), (14, .int .i64 y997.2.2)]) (H2 := []) (by kernel_rfl) ?_
            refine RJ.end (by kernel_rfl) ?_
            refine PJ.next ?_
            obtain ⟨y1028, hy1029, h1030⟩ := bindS h999
            refine K.cutX (by kernel_rfl) (fun (s1027 : Unit) => ([(0, lsv (encI .u32) 1 x0), (1, .int .i64 x1), (4, .bool false), (5, .bool y1), (6, lsv (encI .u8) 1 s124), (10, .int .i64 s656.1), (11, .int .i64 s656.2), (13, .int .i64 y997.2.1)], [])) y1028 ?_ (fun s1027 hs => ?_)
            · obtain ⟨s1039, hy1041, h1043⟩ := bindS hy1029
              refine K.cutN (by kernel_rfl) (fun (s1039 : Bool) => ([(0, lsv (encI .u32) 1 x0), (1, .int .i64 x1), (4, .bool false), (5, .bool y1), (6, lsv (encI .u8) 1 s124), (10, .int .i64 s656.1), (11, .int .i64 s656.2), (13, .int .i64 y997.2.1), (82, .bool s1039)], [])) s1039 ?_ ?_
              · refine K.region (by kernel_rfl) ?_
                refine RJ.seg 3 [0, 1, 4, 5, 6, 10, 11, 12, 13, 68] (L2 := [(0, lsv (encI .u32) 1 x0), (1, .int .i64 x1), (4, .bool false), (5, .bool y1), (6, lsv (encI .u8) 1 s124), (10, .int .i64 s656.1), (11, .int .i64 s656.2), (12, .int .u32 y997.1), (13, .int .i64 y997.2.1), (68, .bool (decide (¬ y997.2.2 = 0)))]) (H2 := []) (by kernel_rfl) ?_
                refine RJ.caseB 68 (b := (decide (¬ y997.2.2 = 0))) (by kernel_rfl) (fun hb1044 => ?_) (fun hb1044 => ?_)
                · have h1045 := condT hb1044 hy1041
                  refine RJ.seg 14 [0, 1, 4, 5, 6, 10, 11, 13, 82] (L2 := [(0, lsv (encI .u32) 1 x0), (1, .int .i64 x1), (4, .bool false), (5, .bool y1), (6, lsv (encI .u8) 1 s124), (10, .int .i64 s656.1), (11, .int .i64 s656.2), (13, .int .i64 y997.2.1), (82, .bool true)]) (H2 := []) (by kernel_rfl) ?_
                  refine RJ.end (by kernel_rfl) ?_
                  obtain rfl := Option.some.inj h1045
                  exact PJ.cutN [0, 1, 4, 5, 6, 10, 11, 13, 82] (by kernel_rfl) (by kernel_rfl)
                · have h1046 := condF hb1044 hy1041
                  refine RJ.seg 3 [0, 1, 4, 5, 6, 10, 11, 13, 68, 69, 70, 71] (L2 := [(0, lsv (encI .u32) 1 x0), (1, .int .i64 x1), (4, .bool false), (5, .bool y1), (6, lsv (encI .u8) 1 s124), (10, .int .i64 s656.1), (11, .int .i64 s656.2), (13, .int .i64 y997.2.1), (68, .bool false), (69, .int .u32 y997.1), (70, lsv (encI .u32) 1 x0), (71, .int .i64 s656.2)]) (H2 := []) (by kernel_rfl) ?_
                  obtain ⟨hm, h1047⟩ := asrt h1046
                  refine RJ.rel (d := (some 72)) (ef := ⟨.ep (((x0.flatMap (encI .u32)).drop ((s656.2 : Int).toNat * 1)).take 1), [], []⟩) (ef' := ⟨.ep ((encI .u32) (nth x0 s656.2)), [], []⟩) (c := inR s656.2 x0.length) (tr2 := []) (H2 := []) (by kernel_rfl) hm (fun hc => N.idx (encI_len .u32) hc) (by kernel_rfl) ?_
                  refine RJ.seg 4 [0, 1, 4, 5, 6, 10, 11, 13, 76] (L2 := [(0, lsv (encI .u32) 1 x0), (1, .int .i64 x1), (4, .bool false), (5, .bool y1), (6, lsv (encI .u8) 1 s124), (10, .int .i64 s656.1), (11, .int .i64 s656.2), (13, .int .i64 y997.2.1), (76, .bool ((decide (¬ y997.1 = (nth x0 s656.2)))))]) (H2 := []) (by kernel_rfl) ?_
                  refine RJ.caseB 76 (b := (decide (¬ y997.1 = (nth x0 s656.2)))) (by kernel_rfl) (fun hb1048 => ?_) (fun hb1048 => ?_)
                  · have h1049 := condT hb1048 h1047
                    refine RJ.seg 6 [0, 1, 4, 5, 6, 10, 11, 13, 82] (L2 := [(0, lsv (encI .u32) 1 x0), (1, .int .i64 x1), (4, .bool false), (5, .bool y1), (6, lsv (encI .u8) 1 s124), (10, .int .i64 s656.1), (11, .int .i64 s656.2), (13, .int .i64 y997.2.1), (82, .bool true)]) (H2 := []) (by kernel_rfl) ?_
                    refine RJ.end (by kernel_rfl) ?_
                    obtain rfl := Option.some.inj h1049
                    exact PJ.cutN [0, 1, 4, 5, 6, 10, 11, 13, 82] (by kernel_rfl) (by kernel_rfl)
                  · have h1050 := condF hb1048 h1047
                    refine RJ.seg 6 [0, 1, 4, 5, 6, 10, 11, 13, 82] (L2 := [(0, lsv (encI .u32) 1 x0), (1, .int .i64 x1), (4, .bool false), (5, .bool y1), (6, lsv (encI .u8) 1 s124), (10, .int .i64 s656.1), (11, .int .i64 s656.2), (13, .int .i64 y997.2.1), (82, .bool ((decide (¬ y997.2.1 = (IntKind.wrap .i64 (s656.1 + x1))))))]) (H2 := []) (by kernel_rfl) ?_
                    refine RJ.end (by kernel_rfl) ?_
                    obtain rfl := Option.some.inj h1050
                    exact PJ.cutN [0, 1, 4, 5, 6, 10, 11, 13, 82] (by kernel_rfl) (by kernel_rfl)
              · refine J.caseB 82 (b := s1039) (by kernel_rfl) (fun hb1051 => ?_) (fun hb1051 => ?_)
                · have h1052 := condT hb1051 h1043
                  refine K.condT (by kernel_rfl) ?_
                  refine K.seq (by kernel_rfl) ?_
                  refine K.region (by kernel_rfl) ?_
                  refine RJ.seg 1 [0, 1, 4, 5, 6, 10, 11, 13] (L2 := [(0, lsv (encI .u32) 1 x0), (1, .int .i64 x1), (4, .bool false), (5, .bool y1), (6, lsv (encI .u8) 1 s124), (10, .int .i64 s656.1), (11, .int .i64 s656.2), (13, .int .i64 y997.2.1)]) (H2 := []) (by kernel_rfl) ?_
                  refine RJ.end (by kernel_rfl) ?_
                  refine PJ.next ?_
                  refine K.ret (by kernel_rfl) ?_
                  obtain rfl := Option.some.inj h1052
                  have h1054 := joinX_inr h1030
                  refine PJ.cutXr (fun e => nomatch e) ?_
                  refine PJ.blockRet ?_
                  obtain rfl := Option.some.inj h1054
                  have h1055 := joinX_inr h995
                  refine PJ.cutXr (fun e => nomatch e) ?_
                  obtain rfl := Option.some.inj h1055
                  refine PJ.loopOut (fun e => nomatch e) (fun he1058 => ?_)
                  have h1056 := congrArg some he1058
                  refine PJ.blockRet ?_
                  obtain rfl := Option.some.inj h1056
                  have h1057 := joinX_inr h654
                  refine PJ.cutXr (fun e => nomatch e) ?_
                  obtain rfl := Option.some.inj h1057
                  exact K.ret0 (.inr rfl) hFn hFH hFD (by kernel_rfl) (by kernel_rfl) (by kernel_rfl)
                · have h1053 := condF hb1051 h1043
                  refine K.condF (by kernel_rfl) ?_
                  refine K.skip (by kernel_rfl) ?_
                  obtain rfl := Option.some.inj h1053
                  exact PJ.cutXl [0, 1, 4, 5, 6, 10, 11, 13] (by kernel_rfl) (by kernel_rfl)
            · subst hs
              have h1031 := joinX_inl h1030
              refine K.region (by kernel_rfl) ?_
              refine RJ.seg 2 [0, 1, 4, 5, 6, 10, 11] (L2 := [(0, lsv (encI .u32) 1 x0), (1, .int .i64 x1), (4, .bool false), (5, .bool y1), (6, lsv (encI .u8) 1 s124), (10, .int .i64 y997.2.1), (11, .int .i64 s656.2)]) (H2 := []) (by kernel_rfl) ?_
              refine RJ.end (by kernel_rfl) ?_
              refine PJ.blockNormal ?_
              obtain rfl := Option.some.inj h1031
              exact PJ.cutXl [0, 1, 4, 5, 6, 10, 11] (by kernel_rfl) (by kernel_rfl)
          · subst hs
            have h996 := joinX_inl h995
            refine K.region (by kernel_rfl) ?_
            refine RJ.seg 3 [0, 1, 4, 5, 6, 10, 11] (L2 := [(0, lsv (encI .u32) 1 x0), (1, .int .i64 x1), (4, .bool false), (5, .bool y1), (6, lsv (encI .u8) 1 s124), (10, .int .i64 s992), (11, .int .i64 (IntKind.wrap .i64 (s656.2 + 1)))]) (H2 := []) (by kernel_rfl) ?_
            refine RJ.end (by kernel_rfl) ?_
            obtain rfl := Option.some.inj h996
            exact PJ.loopNext [0, 1, 4, 5, 6, 10, 11] (by kernel_rfl) (by kernel_rfl)
        · have h929 := condF hb927 hs925
          refine K.condF (by kernel_rfl) ?_
          refine K.exit 2 (by kernel_rfl) ?_
          refine PJ.passExit ?_
          obtain rfl := Option.some.inj h929
          refine PJ.loopOut (fun e => nomatch e) (fun he1060 => ?_)
          have h1059 := congrArg some he1060
          refine PJ.blockOut ?_
          obtain rfl := Option.some.inj h1059
          exact PJ.cutXl [1, 4, 5, 6, 10] (by kernel_rfl) (by kernel_rfl)
      · subst hs
        have h655 := joinX_inl h654
        refine K.seq (by kernel_rfl) ?_
        refine K.region (by kernel_rfl) ?_
        refine RJ.seg 3 [4, 5, 6, 10, 85, 86, 87] (L2 := [(4, .bool false), (5, .bool y1), (6, lsv (encI .u8) 1 s124), (10, .int .i64 s651), (85, lsv (encI .u8) 1 s124), (86, .int .i64 s651), (87, .int .i64 x1)]) (H2 := []) (by kernel_rfl) ?_
        obtain ⟨y1061, hy1062, h1063⟩ := bindS h655
        refine RJ.call0 (d := (some 88)) (f := 13) (args := [lsv (encI .u8) 1 s124, .int .i64 s651, .int .i64 x1]) (v := .tup [.int .u32 y1061.1, .int .i64 y1061.2.1, .int .i64 y1061.2.2]) (tr2 := []) (by kernel_rfl) (by kernel_rfl) (.cons (Le.refl _) (.cons (Le.refl _) (.cons (Le.refl _) .nil))) (pack_Take_ok hy1062) (by kernel_rfl) ?_
        refine RJ.seg 7 [4, 5, 6, 10, 17] (L2 := [(4, .bool false), (5, .bool y1), (6, lsv (encI .u8) 1 s124), (10, .int .i64 s651), (17, .int .i64 y1061.2.2)]) (H2 := []) (by kernel_rfl) ?_
        refine RJ.end (by kernel_rfl) ?_
        refine PJ.next ?_
        obtain ⟨s1070, hy1072, h1074⟩ := bindS h1063
        refine K.cutN (by kernel_rfl) (fun (s1070 : Bool) => ([(4, .bool s1070)], [])) s1070 ?_ ?_
        · refine K.region (by kernel_rfl) ?_
          refine RJ.seg 2 [4, 6, 10, 17, 93] (L2 := [(4, .bool false), (6, lsv (encI .u8) 1 s124), (10, .int .i64 s651), (17, .int .i64 y1061.2.2), (93, .bool y1)]) (H2 := []) (by kernel_rfl) ?_
          refine RJ.caseB 93 (b := y1) (by kernel_rfl) (fun hb1075 => ?_) (fun hb1075 => ?_)
          · have h1076 := condT hb1075 hy1072
            refine RJ.seg 6 [4, 17, 99] (L2 := [(4, .bool false), (17, .int .i64 y1061.2.2), (99, .bool ((decide (s651 = (s124.length : Int)))))]) (H2 := []) (by kernel_rfl) ?_
            refine RJ.caseB 99 (b := (decide (s651 = (s124.length : Int)))) (by kernel_rfl) (fun hb1078 => ?_) (fun hb1078 => ?_)
            · have h1079 := condT hb1078 h1076
              refine RJ.seg 4 [4] (L2 := [(4, .bool (decide (¬ y1061.2.2 = 0)))]) (H2 := []) (by kernel_rfl) ?_
              refine RJ.end (by kernel_rfl) ?_
              obtain rfl := Option.some.inj h1079
              exact PJ.cutN [4] (by kernel_rfl) (by kernel_rfl)
            · have h1080 := condF hb1078 h1076
              refine RJ.seg 4 [4] (L2 := [(4, .bool false)]) (H2 := []) (by kernel_rfl) ?_
              refine RJ.end (by kernel_rfl) ?_
              obtain rfl := Option.some.inj h1080
              exact PJ.cutN [4] (by kernel_rfl) (by kernel_rfl)
          · have h1077 := condF hb1075 hy1072
            refine RJ.seg 10 [4] (L2 := [(4, .bool false)]) (H2 := []) (by kernel_rfl) ?_
            refine RJ.end (by kernel_rfl) ?_
            obtain rfl := Option.some.inj h1077
            exact PJ.cutN [4] (by kernel_rfl) (by kernel_rfl)
        · refine K.ret (by kernel_rfl) ?_
          obtain rfl := Option.some.inj h1074
          exact K.ret0 (.inr rfl) hFn hFH hFD (by kernel_rfl) (by kernel_rfl) (by kernel_rfl)

def exerguelaw09_PackTaken (x0 : List Int) (x1 : Int) (x2 : Int) : Option (Bool) :=
  (Option.bind exerguelaw09_shown fun y1 => (bif (decide ((x0.length : Int) > 20000)) then (some y1) else (Option.bind (pack_Take x0 x1 x2) fun y7 => (Option.bind (bif (decide (y7.2.2 = 0)) then (Option.bind (pack_Put ([] : List Int) y7.1 x2) fun y59 => (Option.bind (bif (decide (¬ y59.2 = 0)) then (some true) else (bif (decide (¬ y7.2.1 = (IntKind.wrap .i64 (x1 + x2)))) then (some true) else (bif (decide (y7.2.1 > (x0.length : Int))) then (some true) else (bif inS x1 y7.2.1 x0.length then (Option.bind (exergueref01_Row y59.1 (cut x0 x1 y7.2.1)) fun y90 => (some (!y90))) else none)))) fun (s75 : Bool) => (bif s75 then (some (.inr false)) else (some (.inl ()))))) else (some (.inl ()))) (joinX fun (s51 : Unit) => (Option.bind (pack_TakePool x0 x1) fun y97 => (bif (decide (¬ y97.2.2 = 0)) then (Option.bind (bif y1 then (bif (decide ((y97.1.length : Int) = 0)) then (some (decide (y97.2.1 = 0))) else (some false)) else (some false)) fun (s109 : Bool) => (some s109)) else (Option.bind (pack_PutPool ([] : List Int) y97.1) fun y120 => (Option.bind (bif y1 then (bif (decide (y120.2 = 0)) then (bif (decide (y97.2.1 ≥ x1)) then (bif (decide (y97.2.1 ≤ (x0.length : Int))) then (bif inS x1 y97.2.1 x0.length then (Option.bind (exergueref01_Row y120.1 (cut x0 x1 y97.2.1)) fun y157 => (some y157)) else none) else (some false)) else (some false)) else (some false)) else (some false)) fun (s139 : Bool) => (some s139))))))))))
theorem exerguelaw09_PackTaken_ok {x0 : List Int} {x1 : Int} {x2 : Int} {r : Bool} (h : exerguelaw09_PackTaken x0 x1 x2 = some r) : SC Try.prog 8 [lsv (encI .u8) 1 x0, .int .i64 x1, .int .i64 x2] [] (.bool r) [] := by
  refine K.fn (fn := Try.f8) (by kernel_rfl) (by kernel_rfl) (by kernel_rfl) (by kernel_rfl) (by kernel_rfl) (fun F hFn hFH hFD => ?_)
  unfold exerguelaw09_PackTaken at h
  refine K.seq (by kernel_rfl) ?_
  refine K.region (by kernel_rfl) ?_
  refine RJ.seg 1 [0, 1, 2, 6] (L2 := [(0, lsv (encI .u8) 1 x0), (1, .int .i64 x1), (2, .int .i64 x2), (6, .bool false)]) (H2 := []) (by kernel_rfl) ?_
  refine RJ.end (by kernel_rfl) ?_
  refine PJ.next ?_
  refine K.seq (by kernel_rfl) ?_
  refine K.region (by kernel_rfl) ?_
  obtain ⟨y1, hy2, h3⟩ := bindS h
  refine RJ.call0 (d := (some 18)) (f := 10) (args := []) (v := .bool y1) (tr2 := []) (by kernel_rfl) (by kernel_rfl) .nil (exerguelaw09_shown_ok hy2) (by kernel_rfl) ?_
  refine RJ.seg 1 [0, 1, 2, 6, 7] (L2 := [(0, lsv (encI .u8) 1 x0), (1, .int .i64 x1), (2, .int .i64 x2), (6, .bool false), (7, .bool y1)]) (H2 := []) (by kernel_rfl) ?_
  refine RJ.end (by kernel_rfl) ?_
  refine PJ.next ?_
  refine K.seq (by kernel_rfl) ?_
  refine K.seq (by kernel_rfl) ?_
  refine K.region (by kernel_rfl) ?_
  refine RJ.seg 3 [0, 1, 2, 6, 7, 21] (L2 := [(0, lsv (encI .u8) 1 x0), (1, .int .i64 x1), (2, .int .i64 x2), (6, .bool false), (7, .bool y1), (21, .bool ((decide ((x0.length : Int) > 20000))))]) (H2 := []) (by kernel_rfl) ?_
  refine RJ.end (by kernel_rfl) ?_
  refine PJ.next ?_
  refine J.caseB 21 (b := (decide ((x0.length : Int) > 20000))) (by kernel_rfl) (fun hb4 => ?_) (fun hb4 => ?_)
  · have h5 := condT hb4 h3
    refine K.condT (by kernel_rfl) ?_
    refine K.seq (by kernel_rfl) ?_
    refine K.region (by kernel_rfl) ?_
    refine RJ.seg 2 [0, 1, 2, 6, 7] (L2 := [(0, lsv (encI .u8) 1 x0), (1, .int .i64 x1), (2, .int .i64 x2), (6, .bool y1), (7, .bool y1)]) (H2 := []) (by kernel_rfl) ?_
    refine RJ.end (by kernel_rfl) ?_
    refine PJ.next ?_
    refine K.ret (by kernel_rfl) ?_
    refine PJ.passRet ?_
    obtain rfl := Option.some.inj h5
    exact K.ret0 (.inr rfl) hFn hFH hFD (by kernel_rfl) (by kernel_rfl) (by kernel_rfl)
  · have h6 := condF hb4 h3
    refine K.condF (by kernel_rfl) ?_
    refine K.skip (by kernel_rfl) ?_
    refine PJ.next ?_
    refine K.seq (by kernel_rfl) ?_
    refine K.region (by kernel_rfl) ?_
    refine RJ.seg 3 [0, 1, 2, 6, 7, 24, 25, 26] (L2 := [(0, lsv (encI .u8) 1 x0), (1, .int .i64 x1), (2, .int .i64 x2), (6, .bool false), (7, .bool y1), (24, lsv (encI .u8) 1 x0), (25, .int .i64 x1), (26, .int .i64 x2)]) (H2 := []) (by kernel_rfl) ?_
    obtain ⟨y7, hy8, h9⟩ := bindS h6
    refine RJ.call0 (d := (some 27)) (f := 13) (args := [lsv (encI .u8) 1 x0, .int .i64 x1, .int .i64 x2]) (v := .tup [.int .u32 y7.1, .int .i64 y7.2.1, .int .i64 y7.2.2]) (tr2 := []) (by kernel_rfl) (by kernel_rfl) (.cons (Le.refl _) (.cons (Le.refl _) (.cons (Le.refl _) .nil))) (pack_Take_ok hy8) (by kernel_rfl) ?_
    refine RJ.seg 7 [0, 1, 2, 6, 7, 8, 9, 10] (L2 := [(0, lsv (encI .u8) 1 x0), (1, .int .i64 x1), (2, .int .i64 x2), (6, .bool false), (7, .bool y1), (8, .int .u32 y7.1), (9, .int .i64 y7.2.1), (10, .int .i64 y7.2.2)]) (H2 := []) (by kernel_rfl) ?_
    refine RJ.end (by kernel_rfl) ?_
    refine PJ.next ?_
    obtain ⟨y52, hy53, h54⟩ := bindS h9
    refine K.cutX (by kernel_rfl) (fun (s51 : Unit) => ([(0, lsv (encI .u8) 1 x0), (1, .int .i64 x1), (6, .bool false), (7, .bool y1)], [])) y52 ?_ (fun s51 hs => ?_)
    · refine K.seq (by kernel_rfl) ?_
      refine K.region (by kernel_rfl) ?_
      refine RJ.seg 2 [0, 1, 2, 6, 7, 8, 9, 32] (L2 := [(0, lsv (encI .u8) 1 x0), (1, .int .i64 x1), (2, .int .i64 x2), (6, .bool false), (7, .bool y1), (8, .int .u32 y7.1), (9, .int .i64 y7.2.1), (32, .bool (decide (y7.2.2 = 0)))]) (H2 := []) (by kernel_rfl) ?_
      refine RJ.end (by kernel_rfl) ?_
      refine PJ.next ?_
      refine J.caseB 32 (b := (decide (y7.2.2 = 0))) (by kernel_rfl) (fun hb56 => ?_) (fun hb56 => ?_)
      · have h57 := condT hb56 hy53
        refine K.condT (by kernel_rfl) ?_
        refine K.seq (by kernel_rfl) ?_
        refine K.region (by kernel_rfl) ?_
        refine RJ.seg 2 [0, 1, 2, 6, 7, 9, 34, 35] (L2 := [(0, lsv (encI .u8) 1 x0), (1, .int .i64 x1), (2, .int .i64 x2), (6, .bool false), (7, .bool y1), (9, .int .i64 y7.2.1), (34, .int .u32 y7.1), (35, .int .i64 x2)]) (H2 := []) (by kernel_rfl) ?_
        obtain ⟨y59, hy60, h61⟩ := bindS h57
        refine RJ.call0 (d := (some 36)) (f := 11) (args := [.nl, .int .u32 y7.1, .int .i64 x2]) (v := .tup [lsv (encI .u8) 1 y59.1, .int .i64 y59.2]) (tr2 := []) (by kernel_rfl) (by kernel_rfl) (.cons (Le.nl _) (.cons (Le.refl _) (.cons (Le.refl _) .nil))) (pack_Put_ok hy60) (by kernel_rfl) ?_
        refine RJ.seg 5 [0, 1, 2, 6, 7, 9, 11, 12] (L2 := [(0, lsv (encI .u8) 1 x0), (1, .int .i64 x1), (2, .int .i64 x2), (6, .bool false), (7, .bool y1), (9, .int .i64 y7.2.1), (11, lsv (encI .u8) 1 y59.1), (12, .int .i64 y59.2)]) (H2 := []) (by kernel_rfl) ?_
        refine RJ.end (by kernel_rfl) ?_
        refine PJ.next ?_
        obtain ⟨s75, hy77, h79⟩ := bindS h61
        refine K.cutN (by kernel_rfl) (fun (s75 : Bool) => ([(0, lsv (encI .u8) 1 x0), (1, .int .i64 x1), (6, .bool false), (7, .bool y1), (62, .bool s75)], [])) s75 ?_ ?_
        · refine K.region (by kernel_rfl) ?_
          refine RJ.seg 3 [0, 1, 2, 6, 7, 9, 11, 41] (L2 := [(0, lsv (encI .u8) 1 x0), (1, .int .i64 x1), (2, .int .i64 x2), (6, .bool false), (7, .bool y1), (9, .int .i64 y7.2.1), (11, lsv (encI .u8) 1 y59.1), (41, .bool (decide (¬ y59.2 = 0)))]) (H2 := []) (by kernel_rfl) ?_
          refine RJ.caseB 41 (b := (decide (¬ y59.2 = 0))) (by kernel_rfl) (fun hb80 => ?_) (fun hb80 => ?_)
          · have h81 := condT hb80 hy77
            refine RJ.seg 21 [0, 1, 6, 7, 62] (L2 := [(0, lsv (encI .u8) 1 x0), (1, .int .i64 x1), (6, .bool false), (7, .bool y1), (62, .bool true)]) (H2 := []) (by kernel_rfl) ?_
            refine RJ.end (by kernel_rfl) ?_
            obtain rfl := Option.some.inj h81
            exact PJ.cutN [0, 1, 6, 7, 62] (by kernel_rfl) (by kernel_rfl)
          · have h82 := condF hb80 hy77
            refine RJ.seg 7 [0, 1, 6, 7, 9, 11, 48] (L2 := [(0, lsv (encI .u8) 1 x0), (1, .int .i64 x1), (6, .bool false), (7, .bool y1), (9, .int .i64 y7.2.1), (11, lsv (encI .u8) 1 y59.1), (48, .bool ((decide (¬ y7.2.1 = (IntKind.wrap .i64 (x1 + x2))))))]) (H2 := []) (by kernel_rfl) ?_
            refine RJ.caseB 48 (b := (decide (¬ y7.2.1 = (IntKind.wrap .i64 (x1 + x2))))) (by kernel_rfl) (fun hb83 => ?_) (fun hb83 => ?_)
            · have h84 := condT hb83 h82
              refine RJ.seg 14 [0, 1, 6, 7, 62] (L2 := [(0, lsv (encI .u8) 1 x0), (1, .int .i64 x1), (6, .bool false), (7, .bool y1), (62, .bool true)]) (H2 := []) (by kernel_rfl) ?_
              refine RJ.end (by kernel_rfl) ?_
              obtain rfl := Option.some.inj h84
              exact PJ.cutN [0, 1, 6, 7, 62] (by kernel_rfl) (by kernel_rfl)
            · have h85 := condF hb83 h82
              refine RJ.seg 6 [0, 1, 6, 7, 9, 11, 54] (L2 := [(0, lsv (encI .u8) 1 x0), (1, .int .i64 x1), (6, .bool false), (7, .bool y1), (9, .int .i64 y7.2.1), (11, lsv (encI .u8) 1 y59.1), (54, .bool ((decide (y7.2.1 > (x0.length : Int)))))]) (H2 := []) (by kernel_rfl) ?_
              refine RJ.caseB 54 (b := (decide (y7.2.1 > (x0.length : Int)))) (by kernel_rfl) (fun hb86 => ?_) (fun hb86 => ?_)
              · have h87 := condT hb86 h85
                refine RJ.seg 8 [0, 1, 6, 7, 62] (L2 := [(0, lsv (encI .u8) 1 x0), (1, .int .i64 x1), (6, .bool false), (7, .bool y1), (62, .bool true)]) (H2 := []) (by kernel_rfl) ?_
                refine RJ.end (by kernel_rfl) ?_
                obtain rfl := Option.some.inj h87
                exact PJ.cutN [0, 1, 6, 7, 62] (by kernel_rfl) (by kernel_rfl)
              · have h88 := condF hb86 h85
                refine RJ.seg 4 [0, 1, 6, 7, 54, 55, 56, 57, 58] (L2 := [(0, lsv (encI .u8) 1 x0), (1, .int .i64 x1), (6, .bool false), (7, .bool y1), (54, .bool false), (55, lsv (encI .u8) 1 y59.1), (56, lsv (encI .u8) 1 x0), (57, .int .i64 x1), (58, .int .i64 y7.2.1)]) (H2 := []) (by kernel_rfl) ?_
                obtain ⟨hm, h89⟩ := asrt h88
                refine RJ.rel (d := (some 59)) (ef := ⟨.lst ((y7.2.1 : Int).toNat - (x1 : Int).toNat) 1 (((x0.flatMap (encI .u8)).take ((y7.2.1 : Int).toNat * 1)).drop ((x1 : Int).toNat * 1)), [], []⟩) (ef' := ⟨.lst (cut x0 x1 y7.2.1).length 1 ((cut x0 x1 y7.2.1).flatMap (encI .u8)), [], []⟩) (c := inS x1 y7.2.1 x0.length) (tr2 := []) (H2 := []) (by kernel_rfl) hm (fun hc => N.slice (encI_len .u8) hc) (by kernel_rfl) ?_
                obtain ⟨y90, hy91, h92⟩ := bindS h89
                refine RJ.call0 (d := (some 60)) (f := 15) (args := [lsv (encI .u8) 1 y59.1, lsv (encI .u8) 1 (cut x0 x1 y7.2.1)]) (v := .bool y90) (tr2 := []) (by kernel_rfl) (by kernel_rfl) (.cons (Le.refl _) (.cons (Le.refl _) .nil)) (exergueref01_Row_ok hy91) (by kernel_rfl) ?_
                refine RJ.seg 2 [0, 1, 6, 7, 62] (L2 := [(0, lsv (encI .u8) 1 x0), (1, .int .i64 x1), (6, .bool false), (7, .bool y1), (62, .bool (!y90))]) (H2 := []) (by kernel_rfl) ?_
                refine RJ.end (by kernel_rfl) ?_
                obtain rfl := Option.some.inj h92
                exact PJ.cutN [0, 1, 6, 7, 62] (by kernel_rfl) (by kernel_rfl)
        · refine J.caseB 62 (b := s75) (by kernel_rfl) (fun hb93 => ?_) (fun hb93 => ?_)
          · have h94 := condT hb93 h79
            refine K.condT (by kernel_rfl) ?_
            refine K.seq (by kernel_rfl) ?_
            refine K.region (by kernel_rfl) ?_
            refine RJ.seg 1 [0, 1, 6, 7] (L2 := [(0, lsv (encI .u8) 1 x0), (1, .int .i64 x1), (6, .bool false), (7, .bool y1)]) (H2 := []) (by kernel_rfl) ?_
            refine RJ.end (by kernel_rfl) ?_
            refine PJ.next ?_
            refine K.ret (by kernel_rfl) ?_
            obtain rfl := Option.some.inj h94
            have h96 := joinX_inr h54
            refine PJ.cutXr (fun e => nomatch e) ?_
            obtain rfl := Option.some.inj h96
            exact K.ret0 (.inr rfl) hFn hFH hFD (by kernel_rfl) (by kernel_rfl) (by kernel_rfl)
          · have h95 := condF hb93 h79
            refine K.condF (by kernel_rfl) ?_
            refine K.skip (by kernel_rfl) ?_
            obtain rfl := Option.some.inj h95
            exact PJ.cutXl [0, 1, 6, 7] (by kernel_rfl) (by kernel_rfl)
      · have h58 := condF hb56 hy53
        refine K.condF (by kernel_rfl) ?_
        refine K.skip (by kernel_rfl) ?_
        obtain rfl := Option.some.inj h58
        exact PJ.cutXl [0, 1, 6, 7] (by kernel_rfl) (by kernel_rfl)
    · subst hs
      have h55 := joinX_inl h54
      refine K.seq (by kernel_rfl) ?_
      refine K.region (by kernel_rfl) ?_
      refine RJ.seg 2 [0, 1, 6, 7, 64, 65] (L2 := [(0, lsv (encI .u8) 1 x0), (1, .int .i64 x1), (6, .bool false), (7, .bool y1), (64, lsv (encI .u8) 1 x0), (65, .int .i64 x1)]) (H2 := []) (by kernel_rfl) ?_
      obtain ⟨y97, hy98, h99⟩ := bindS h55
      refine RJ.call0 (d := (some 66)) (f := 25) (args := [lsv (encI .u8) 1 x0, .int .i64 x1]) (v := .tup [lsv encT 1 y97.1, .int .i64 y97.2.1, .int .i64 y97.2.2]) (tr2 := []) (by kernel_rfl) (by kernel_rfl) (.cons (Le.refl _) (.cons (Le.refl _) .nil)) (pack_TakePool_ok hy98) (by kernel_rfl) ?_
      refine RJ.seg 7 [0, 1, 6, 7, 13, 14, 15] (L2 := [(0, lsv (encI .u8) 1 x0), (1, .int .i64 x1), (6, .bool false), (7, .bool y1), (13, lsv encT 1 y97.1), (14, .int .i64 y97.2.1), (15, .int .i64 y97.2.2)]) (H2 := []) (by kernel_rfl) ?_
      refine RJ.end (by kernel_rfl) ?_
      refine PJ.next ?_
      refine K.seq (by kernel_rfl) ?_
      refine K.seq (by kernel_rfl) ?_
      refine K.region (by kernel_rfl) ?_
      refine RJ.seg 2 [0, 1, 6, 7, 13, 14, 71] (L2 := [(0, lsv (encI .u8) 1 x0), (1, .int .i64 x1), (6, .bool false), (7, .bool y1), (13, lsv encT 1 y97.1), (14, .int .i64 y97.2.1), (71, .bool (decide (¬ y97.2.2 = 0)))]) (H2 := []) (by kernel_rfl) ?_
      refine RJ.end (by kernel_rfl) ?_
      refine PJ.next ?_
      refine J.caseB 71 (b := (decide (¬ y97.2.2 = 0))) (by kernel_rfl) (fun hb100 => ?_) (fun hb100 => ?_)
      · have h101 := condT hb100 h99
        refine K.condT (by kernel_rfl) ?_
        obtain ⟨s109, hy111, h113⟩ := bindS h101
        refine K.cutN (by kernel_rfl) (fun (s109 : Bool) => ([(0, lsv (encI .u8) 1 x0), (1, .int .i64 x1), (6, .bool s109), (7, .bool y1), (13, lsv encT 1 y97.1), (14, .int .i64 y97.2.1)], [])) s109 ?_ ?_
        · refine K.region (by kernel_rfl) ?_
          refine RJ.seg 2 [0, 1, 6, 7, 13, 14, 73] (L2 := [(0, lsv (encI .u8) 1 x0), (1, .int .i64 x1), (6, .bool false), (7, .bool y1), (13, lsv encT 1 y97.1), (14, .int .i64 y97.2.1), (73, .bool y1)]) (H2 := []) (by kernel_rfl) ?_
          refine RJ.caseB 73 (b := y1) (by kernel_rfl) (fun hb114 => ?_) (fun hb114 => ?_)
          · have h115 := condT hb114 hy111
            refine RJ.seg 5 [0, 1, 6, 7, 13, 14, 78] (L2 := [(0, lsv (encI .u8) 1 x0), (1, .int .i64 x1), (6, .bool false), (7, .bool y1), (13, lsv encT 1 y97.1), (14, .int .i64 y97.2.1), (78, .bool ((decide ((y97.1.length : Int) = 0))))]) (H2 := []) (by kernel_rfl) ?_
            refine RJ.caseB 78 (b := (decide ((y97.1.length : Int) = 0))) (by kernel_rfl) (fun hb117 => ?_) (fun hb117 => ?_)
            · have h118 := condT hb117 h115
              refine RJ.seg 4 [0, 1, 6, 7, 13, 14] (L2 := [(0, lsv (encI .u8) 1 x0), (1, .int .i64 x1), (6, .bool (decide (y97.2.1 = 0))), (7, .bool y1), (13, lsv encT 1 y97.1), (14, .int .i64 y97.2.1)]) (H2 := []) (by kernel_rfl) ?_
              refine RJ.end (by kernel_rfl) ?_
              obtain rfl := Option.some.inj h118
              exact PJ.cutN [0, 1, 6, 7, 13, 14] (by kernel_rfl) (by kernel_rfl)
            · have h119 := condF hb117 h115
              refine RJ.seg 4 [0, 1, 6, 7, 13, 14] (L2 := [(0, lsv (encI .u8) 1 x0), (1, .int .i64 x1), (6, .bool false), (7, .bool y1), (13, lsv encT 1 y97.1), (14, .int .i64 y97.2.1)]) (H2 := []) (by kernel_rfl) ?_
              refine RJ.end (by kernel_rfl) ?_
              obtain rfl := Option.some.inj h119
              exact PJ.cutN [0, 1, 6, 7, 13, 14] (by kernel_rfl) (by kernel_rfl)
          · have h116 := condF hb114 hy111
            refine RJ.seg 9 [0, 1, 6, 7, 13, 14] (L2 := [(0, lsv (encI .u8) 1 x0), (1, .int .i64 x1), (6, .bool false), (7, .bool y1), (13, lsv encT 1 y97.1), (14, .int .i64 y97.2.1)]) (H2 := []) (by kernel_rfl) ?_
            refine RJ.end (by kernel_rfl) ?_
            obtain rfl := Option.some.inj h116
            exact PJ.cutN [0, 1, 6, 7, 13, 14] (by kernel_rfl) (by kernel_rfl)
        · refine K.ret (by kernel_rfl) ?_
          refine PJ.passRet ?_
          obtain rfl := Option.some.inj h113
          exact K.ret0 (.inr rfl) hFn hFH hFD (by kernel_rfl) (by kernel_rfl) (by kernel_rfl)
      · have h102 := condF hb100 h99
        refine K.condF (by kernel_rfl) ?_
        refine K.skip (by kernel_rfl) ?_
        refine PJ.next ?_
        refine K.seq (by kernel_rfl) ?_
        refine K.region (by kernel_rfl) ?_
        refine RJ.seg 1 [0, 1, 6, 7, 14, 83] (L2 := [(0, lsv (encI .u8) 1 x0), (1, .int .i64 x1), (6, .bool false), (7, .bool y1), (14, .int .i64 y97.2.1), (83, lsv encT 1 y97.1)]) (H2 := []) (by kernel_rfl) ?_
        obtain ⟨y120, hy121, h122⟩ := bindS h102
        refine RJ.call0 (d := (some 84)) (f := 23) (args := [.nl, lsv encT 1 y97.1]) (v := .tup [lsv (encI .u8) 1 y120.1, .int .i64 y120.2]) (tr2 := []) (by kernel_rfl) (by kernel_rfl) (.cons (Le.nl _) (.cons (Le.refl _) .nil)) (pack_PutPool_ok hy121) (by kernel_rfl) ?_
        refine RJ.seg 5 [0, 1, 6, 7, 14, 16, 17] (L2 := [(0, lsv (encI .u8) 1 x0), (1, .int .i64 x1), (6, .bool false), (7, .bool y1), (14, .int .i64 y97.2.1), (16, lsv (encI .u8) 1 y120.1), (17, .int .i64 y120.2)]) (H2 := []) (by kernel_rfl) ?_
        refine RJ.end (by kernel_rfl) ?_
        refine PJ.next ?_
        obtain ⟨s139, hy141, h143⟩ := bindS h122
        refine K.cutN (by kernel_rfl) (fun (s139 : Bool) => ([(6, .bool s139)], [])) s139 ?_ ?_
        · refine K.region (by kernel_rfl) ?_
          refine RJ.seg 2 [0, 1, 6, 14, 16, 17, 88] (L2 := [(0, lsv (encI .u8) 1 x0), (1, .int .i64 x1), (6, .bool false), (14, .int .i64 y97.2.1), (16, lsv (encI .u8) 1 y120.1), (17, .int .i64 y120.2), (88, .bool y1)]) (H2 := []) (by kernel_rfl) ?_
          refine RJ.caseB 88 (b := y1) (by kernel_rfl) (fun hb144 => ?_) (fun hb144 => ?_)
          · have h145 := condT hb144 hy141
            refine RJ.seg 4 [0, 1, 6, 14, 16, 92] (L2 := [(0, lsv (encI .u8) 1 x0), (1, .int .i64 x1), (6, .bool false), (14, .int .i64 y97.2.1), (16, lsv (encI .u8) 1 y120.1), (92, .bool (decide (y120.2 = 0)))]) (H2 := []) (by kernel_rfl) ?_
            refine RJ.caseB 92 (b := (decide (y120.2 = 0))) (by kernel_rfl) (fun hb147 => ?_) (fun hb147 => ?_)
            · have h148 := condT hb147 h145
              refine RJ.seg 5 [0, 1, 6, 14, 16, 97] (L2 := [(0, lsv (encI .u8) 1 x0), (1, .int .i64 x1), (6, .bool false), (14, .int .i64 y97.2.1), (16, lsv (encI .u8) 1 y120.1), (97, .bool (decide (y97.2.1 ≥ x1)))]) (H2 := []) (by kernel_rfl) ?_
              refine RJ.caseB 97 (b := (decide (y97.2.1 ≥ x1))) (by kernel_rfl) (fun hb150 => ?_) (fun hb150 => ?_)
              · have h151 := condT hb150 h148
                refine RJ.seg 6 [0, 1, 6, 14, 16, 103] (L2 := [(0, lsv (encI .u8) 1 x0), (1, .int .i64 x1), (6, .bool false), (14, .int .i64 y97.2.1), (16, lsv (encI .u8) 1 y120.1), (103, .bool ((decide (y97.2.1 ≤ (x0.length : Int)))))]) (H2 := []) (by kernel_rfl) ?_
                refine RJ.caseB 103 (b := (decide (y97.2.1 ≤ (x0.length : Int)))) (by kernel_rfl) (fun hb153 => ?_) (fun hb153 => ?_)
                · have h154 := condT hb153 h151
                  refine RJ.seg 4 [6, 103, 104, 105, 106, 107] (L2 := [(6, .bool false), (103, .bool true), (104, lsv (encI .u8) 1 y120.1), (105, lsv (encI .u8) 1 x0), (106, .int .i64 x1), (107, .int .i64 y97.2.1)]) (H2 := []) (by kernel_rfl) ?_
                  obtain ⟨hm, h156⟩ := asrt h154
                  refine RJ.rel (d := (some 108)) (ef := ⟨.lst ((y97.2.1 : Int).toNat - (x1 : Int).toNat) 1 (((x0.flatMap (encI .u8)).take ((y97.2.1 : Int).toNat * 1)).drop ((x1 : Int).toNat * 1)), [], []⟩) (ef' := ⟨.lst (cut x0 x1 y97.2.1).length 1 ((cut x0 x1 y97.2.1).flatMap (encI .u8)), [], []⟩) (c := inS x1 y97.2.1 x0.length) (tr2 := []) (H2 := []) (by kernel_rfl) hm (fun hc => N.slice (encI_len .u8) hc) (by kernel_rfl) ?_
                  obtain ⟨y157, hy158, h159⟩ := bindS h156
                  refine RJ.call0 (d := (some 109)) (f := 15) (args := [lsv (encI .u8) 1 y120.1, lsv (encI .u8) 1 (cut x0 x1 y97.2.1)]) (v := .bool y157) (tr2 := []) (by kernel_rfl) (by kernel_rfl) (.cons (Le.refl _) (.cons (Le.refl _) .nil)) (exergueref01_Row_ok hy158) (by kernel_rfl) ?_
                  refine RJ.seg 2 [6] (L2 := [(6, .bool y157)]) (H2 := []) (by kernel_rfl) ?_
                  refine RJ.end (by kernel_rfl) ?_
                  obtain rfl := Option.some.inj h159
                  exact PJ.cutN [6] (by kernel_rfl) (by kernel_rfl)
                · have h155 := condF hb153 h151
                  refine RJ.seg 8 [6] (L2 := [(6, .bool false)]) (H2 := []) (by kernel_rfl) ?_
                  refine RJ.end (by kernel_rfl) ?_
                  obtain rfl := Option.some.inj h155
                  exact PJ.cutN [6] (by kernel_rfl) (by kernel_rfl)
              · have h152 := condF hb150 h148
                refine RJ.seg 14 [6] (L2 := [(6, .bool false)]) (H2 := []) (by kernel_rfl) ?_
                refine RJ.end (by kernel_rfl) ?_
                obtain rfl := Option.some.inj h152
                exact PJ.cutN [6] (by kernel_rfl) (by kernel_rfl)
            · have h149 := condF hb147 h145
              refine RJ.seg 19 [6] (L2 := [(6, .bool false)]) (H2 := []) (by kernel_rfl) ?_
              refine RJ.end (by kernel_rfl) ?_
              obtain rfl := Option.some.inj h149
              exact PJ.cutN [6] (by kernel_rfl) (by kernel_rfl)
          · have h146 := condF hb144 hy141
            refine RJ.seg 23 [6] (L2 := [(6, .bool false)]) (H2 := []) (by kernel_rfl) ?_
            refine RJ.end (by kernel_rfl) ?_
            obtain rfl := Option.some.inj h146
            exact PJ.cutN [6] (by kernel_rfl) (by kernel_rfl)
        · refine K.ret (by kernel_rfl) ?_
          obtain rfl := Option.some.inj h143
          exact K.ret0 (.inr rfl) hFn hFH hFD (by kernel_rfl) (by kernel_rfl) (by kernel_rfl)

def exerguelaw09_PackSpreads (x0 : List (List UInt8)) (x1 : List Int) : Option (Bool) :=
  (Option.bind exerguelaw09_shown fun y1 => (Option.bind (Option.bind (Option.bind (exergueref09_Short x0) fun y41 => (bif (!y41) then (some true) else (some ((decide ((x1.length : Int) > 600)))))) fun (s36 : Bool) => (bif s36 then (some (.inr y1)) else (some (.inl ())))) (joinX fun (s25 : Unit) => (Option.bind (pack_Spread x0 x1) fun y51 => (Option.bind (loopN (fun (s134 : Bool × Int) => (bif (decide (s134.2 < (x1.length : Int))) then (Option.bind (bif s134.1 then (bif inR s134.2 x1.length then (bif (decide ((nth x1 s134.2) ≥ 0)) then (bif inR s134.2 x1.length then (some ((decide ((nth x1 s134.2) < (x0.length : Int))))) else none) else (some false)) else none) else (some false)) fun (s194 : Bool) => (some (.inl (s194, (IntKind.wrap .i64 (s134.2 + 1)))))) else (some (.inr s134.1)))) big (true, 0)) fun (s129 : Bool) => (bif (!s129) then (Option.bind (bif y1 then (bif (decide (y51.2 = 7)) then (some ((decide ((y51.1.length : Int) = 0)))) else (some false)) else (some false)) fun (s218 : Bool) => (some s218)) else (Option.bind (Option.bind (bif (decide (¬ y51.2 = 0)) then (some true) else (some ((decide (¬ (y51.1.length : Int) = (x1.length : Int)))))) fun (s252 : Bool) => (bif s252 then (some (.inr false)) else (some (.inl ())))) (joinX fun (s244 : Unit) => (Option.bind (loopN (fun (s314 : Int) => (bif (decide (s314 < (x1.length : Int))) then (bif inR s314 y51.1.length then (bif inR s314 x1.length then (bif inR (nth x1 s314) x0.length then (bif ((nth y51.1 s314) != (nth x0 (nth x1 s314))) then (some (.inr (.inr false))) else (some (.inl (IntKind.wrap .i64 (s314 + 1))))) else none) else none) else none) else (some (.inr (.inl ()))))) big 0) (joinX fun (s309 : Unit) => (some y1)))))))))))
theorem exerguelaw09_PackSpreads_ok {x0 : List (List UInt8)} {x1 : List Int} {r : Bool} (h : exerguelaw09_PackSpreads x0 x1 = some r) : SC Try.prog 9 [lsv encT 1 x0, lsv (encI .i64) 1 x1] [] (.bool r) [] := by
  refine K.fn (fn := Try.f9) (by kernel_rfl) (by kernel_rfl) (by kernel_rfl) (by kernel_rfl) (by kernel_rfl) (fun F hFn hFH hFD => ?_)
  unfold exerguelaw09_PackSpreads at h
  refine K.seq (by kernel_rfl) ?_
  refine K.region (by kernel_rfl) ?_
  refine RJ.seg 1 [0, 1, 4] (L2 := [(0, lsv encT 1 x0), (1, lsv (encI .i64) 1 x1), (4, .bool false)]) (H2 := []) (by kernel_rfl) ?_
  refine RJ.end (by kernel_rfl) ?_
  refine PJ.next ?_
  refine K.seq (by kernel_rfl) ?_
  refine K.region (by kernel_rfl) ?_
  obtain ⟨y1, hy2, h3⟩ := bindS h
  refine RJ.call0 (d := (some 11)) (f := 10) (args := []) (v := .bool y1) (tr2 := []) (by kernel_rfl) (by kernel_rfl) .nil (exerguelaw09_shown_ok hy2) (by kernel_rfl) ?_
  refine RJ.seg 1 [0, 1, 4, 5] (L2 := [(0, lsv encT 1 x0), (1, lsv (encI .i64) 1 x1), (4, .bool false), (5, .bool y1)]) (H2 := []) (by kernel_rfl) ?_
  refine RJ.end (by kernel_rfl) ?_
  refine PJ.next ?_
  obtain ⟨y26, hy27, h28⟩ := bindS h3
  refine K.cutX (by kernel_rfl) (fun (s25 : Unit) => ([(0, lsv encT 1 x0), (1, lsv (encI .i64) 1 x1), (4, .bool false), (5, .bool y1)], [])) y26 ?_ (fun s25 hs => ?_)
  · obtain ⟨s36, hy38, h40⟩ := bindS hy27
    refine K.cutN (by kernel_rfl) (fun (s36 : Bool) => ([(0, lsv encT 1 x0), (1, lsv (encI .i64) 1 x1), (4, .bool false), (5, .bool y1), (19, .bool s36)], [])) s36 ?_ ?_
    · refine K.region (by kernel_rfl) ?_
      refine RJ.seg 1 [0, 1, 4, 5, 12] (L2 := [(0, lsv encT 1 x0), (1, lsv (encI .i64) 1 x1), (4, .bool false), (5, .bool y1), (12, lsv encT 1 x0)]) (H2 := []) (by kernel_rfl) ?_
      obtain ⟨y41, hy42, h43⟩ := bindS hy38
      refine RJ.call0 (d := (some 13)) (f := 16) (args := [lsv encT 1 x0]) (v := .bool y41) (tr2 := []) (by kernel_rfl) (by kernel_rfl) (.cons (Le.refl _) .nil) (exergueref09_Short_ok hy42) (by kernel_rfl) ?_
      refine RJ.seg 2 [0, 1, 4, 5, 15] (L2 := [(0, lsv encT 1 x0), (1, lsv (encI .i64) 1 x1), (4, .bool false), (5, .bool y1), (15, .bool (!y41))]) (H2 := []) (by kernel_rfl) ?_
      refine RJ.caseB 15 (b := (!y41)) (by kernel_rfl) (fun hb44 => ?_) (fun hb44 => ?_)
      · have h45 := condT hb44 h43
        refine RJ.seg 4 [0, 1, 4, 5, 19] (L2 := [(0, lsv encT 1 x0), (1, lsv (encI .i64) 1 x1), (4, .bool false), (5, .bool y1), (19, .bool true)]) (H2 := []) (by kernel_rfl) ?_
        refine RJ.end (by kernel_rfl) ?_
        obtain rfl := Option.some.inj h45
        exact PJ.cutN [0, 1, 4, 5, 19] (by kernel_rfl) (by kernel_rfl)
      · have h46 := condF hb44 h43
        refine RJ.seg 4 [0, 1, 4, 5, 19] (L2 := [(0, lsv encT 1 x0), (1, lsv (encI .i64) 1 x1), (4, .bool false), (5, .bool y1), (19, .bool ((decide ((x1.length : Int) > 600))))]) (H2 := []) (by kernel_rfl) ?_
        refine RJ.end (by kernel_rfl) ?_
        obtain rfl := Option.some.inj h46
        exact PJ.cutN [0, 1, 4, 5, 19] (by kernel_rfl) (by kernel_rfl)
    · refine J.caseB 19 (b := s36) (by kernel_rfl) (fun hb47 => ?_) (fun hb47 => ?_)
      · have h48 := condT hb47 h40
        refine K.condT (by kernel_rfl) ?_
        refine K.seq (by kernel_rfl) ?_
        refine K.region (by kernel_rfl) ?_
        refine RJ.seg 2 [0, 1, 4, 5] (L2 := [(0, lsv encT 1 x0), (1, lsv (encI .i64) 1 x1), (4, .bool y1), (5, .bool y1)]) (H2 := []) (by kernel_rfl) ?_
        refine RJ.end (by kernel_rfl) ?_
        refine PJ.next ?_
        refine K.ret (by kernel_rfl) ?_
        obtain rfl := Option.some.inj h48
        have h50 := joinX_inr h28
        refine PJ.cutXr (fun e => nomatch e) ?_
        obtain rfl := Option.some.inj h50
        exact K.ret0 (.inr rfl) hFn hFH hFD (by kernel_rfl) (by kernel_rfl) (by kernel_rfl)
      · have h49 := condF hb47 h40
        refine K.condF (by kernel_rfl) ?_
        refine K.skip (by kernel_rfl) ?_
        obtain rfl := Option.some.inj h49
        exact PJ.cutXl [0, 1, 4, 5] (by kernel_rfl) (by kernel_rfl)
  · subst hs
    have h29 := joinX_inl h28
    refine K.seq (by kernel_rfl) ?_
    refine K.region (by kernel_rfl) ?_
    refine RJ.seg 2 [0, 1, 4, 5, 22, 23] (L2 := [(0, lsv encT 1 x0), (1, lsv (encI .i64) 1 x1), (4, .bool false), (5, .bool y1), (22, lsv encT 1 x0), (23, lsv (encI .i64) 1 x1)]) (H2 := []) (by kernel_rfl) ?_
    obtain ⟨y51, hy52, h53⟩ := bindS h29
    refine RJ.call0 (d := (some 24)) (f := 19) (args := [lsv encT 1 x0, lsv (encI .i64) 1 x1]) (v := .tup [lsv encT 1 y51.1, .int .i64 y51.2]) (tr2 := []) (by kernel_rfl) (by kernel_rfl) (.cons (Le.refl _) (.cons (Le.refl _) .nil)) (pack_Spread_ok hy52) (by kernel_rfl) ?_
    refine RJ.seg 5 [0, 1, 4, 5, 6, 7] (L2 := [(0, lsv encT 1 x0), (1, lsv (encI .i64) 1 x1), (4, .bool false), (5, .bool y1), (6, lsv encT 1 y51.1), (7, .int .i64 y51.2)]) (H2 := []) (by kernel_rfl) ?_
    refine RJ.end (by kernel_rfl) ?_
    refine PJ.next ?_
    refine K.seq (by kernel_rfl) ?_
    refine K.region (by kernel_rfl) ?_
    refine RJ.seg 1 [0, 1, 4, 5, 6, 7, 8] (L2 := [(0, lsv encT 1 x0), (1, lsv (encI .i64) 1 x1), (4, .bool false), (5, .bool y1), (6, lsv encT 1 y51.1), (7, .int .i64 y51.2), (8, .bool true)]) (H2 := []) (by kernel_rfl) ?_
    refine RJ.end (by kernel_rfl) ?_
    refine PJ.next ?_
    obtain ⟨s129, hy131, h133⟩ := bindS h53
    refine K.cutN (by kernel_rfl) (fun (s129 : Bool) => ([(0, lsv encT 1 x0), (1, lsv (encI .i64) 1 x1), (4, .bool false), (5, .bool y1), (6, lsv encT 1 y51.1), (7, .int .i64 y51.2), (8, .bool s129)], [])) s129 ?_ ?_
    · refine K.seq (by kernel_rfl) ?_
      refine K.region (by kernel_rfl) ?_
      refine RJ.seg 1 [0, 1, 4, 5, 6, 7, 8, 9] (L2 := [(0, lsv encT 1 x0), (1, lsv (encI .i64) 1 x1), (4, .bool false), (5, .bool y1), (6, lsv encT 1 y51.1), (7, .int .i64 y51.2), (8, .bool true), (9, .int .i64 0)]) (H2 := []) (by kernel_rfl) ?_
      refine RJ.end (by kernel_rfl) ?_
      refine PJ.next ?_
      refine K.block 0 (by kernel_rfl) ?_
      refine K.loop (by kernel_rfl) (fun (s134 : Bool × Int) => ([(0, lsv encT 1 x0), (1, lsv (encI .i64) 1 x1), (4, .bool false), (5, .bool y1), (6, lsv encT 1 y51.1), (7, .int .i64 y51.2), (8, .bool s134.1), (9, .int .i64 s134.2)], [])) hy131 [0, 1, 4, 5, 6, 7, 8, 9] (by kernel_rfl) (by kernel_rfl) (fun s134 x182 hs181 => ?_)
      refine K.seq (by kernel_rfl) ?_
      refine K.seq (by kernel_rfl) ?_
      refine K.region (by kernel_rfl) ?_
      refine RJ.seg 4 [0, 1, 4, 5, 6, 7, 8, 9, 30] (L2 := [(0, lsv encT 1 x0), (1, lsv (encI .i64) 1 x1), (4, .bool false), (5, .bool y1), (6, lsv encT 1 y51.1), (7, .int .i64 y51.2), (8, .bool s134.1), (9, .int .i64 s134.2), (30, .bool ((decide (s134.2 < (x1.length : Int)))))]) (H2 := []) (by kernel_rfl) ?_
      refine RJ.end (by kernel_rfl) ?_
      refine PJ.next ?_
      refine J.caseB 30 (b := (decide (s134.2 < (x1.length : Int)))) (by kernel_rfl) (fun hb183 => ?_) (fun hb183 => ?_)
      · have h184 := condT hb183 hs181
        refine K.condT (by kernel_rfl) ?_
        refine K.skip (by kernel_rfl) ?_
        refine PJ.next ?_
        obtain ⟨s194, hy196, h198⟩ := bindS h184
        refine K.cutN (by kernel_rfl) (fun (s194 : Bool) => ([(0, lsv encT 1 x0), (1, lsv (encI .i64) 1 x1), (4, .bool false), (5, .bool y1), (6, lsv encT 1 y51.1), (7, .int .i64 y51.2), (8, .bool s194), (9, .int .i64 s134.2)], [])) s194 ?_ ?_
        · refine K.block 1 (by kernel_rfl) ?_
          refine K.region (by kernel_rfl) ?_
          refine RJ.seg 2 [0, 1, 4, 5, 6, 7, 8, 9, 34] (L2 := [(0, lsv encT 1 x0), (1, lsv (encI .i64) 1 x1), (4, .bool false), (5, .bool y1), (6, lsv encT 1 y51.1), (7, .int .i64 y51.2), (8, .bool s134.1), (9, .int .i64 s134.2), (34, .bool s134.1)]) (H2 := []) (by kernel_rfl) ?_
          refine RJ.caseB 34 (b := s134.1) (by kernel_rfl) (fun hb199 => ?_) (fun hb199 => ?_)
          · have h200 := condT hb199 hy196
            refine RJ.seg 2 [0, 1, 4, 5, 6, 7, 8, 9, 34, 35, 36] (L2 := [(0, lsv encT 1 x0), (1, lsv (encI .i64) 1 x1), (4, .bool false), (5, .bool y1), (6, lsv encT 1 y51.1), (7, .int .i64 y51.2), (8, .bool s134.1), (9, .int .i64 s134.2), (34, .bool true), (35, lsv (encI .i64) 1 x1), (36, .int .i64 s134.2)]) (H2 := []) (by kernel_rfl) ?_
            obtain ⟨hm, h202⟩ := asrt h200
            refine RJ.rel (d := (some 37)) (ef := ⟨.ep (((x1.flatMap (encI .i64)).drop ((s134.2 : Int).toNat * 1)).take 1), [], []⟩) (ef' := ⟨.ep ((encI .i64) (nth x1 s134.2)), [], []⟩) (c := inR s134.2 x1.length) (tr2 := []) (H2 := []) (by kernel_rfl) hm (fun hc => N.idx (encI_len .i64) hc) (by kernel_rfl) ?_
            refine RJ.seg 4 [0, 1, 4, 5, 6, 7, 8, 9, 41] (L2 := [(0, lsv encT 1 x0), (1, lsv (encI .i64) 1 x1), (4, .bool false), (5, .bool y1), (6, lsv encT 1 y51.1), (7, .int .i64 y51.2), (8, .bool s134.1), (9, .int .i64 s134.2), (41, .bool ((decide ((nth x1 s134.2) ≥ 0))))]) (H2 := []) (by kernel_rfl) ?_
            refine RJ.caseB 41 (b := (decide ((nth x1 s134.2) ≥ 0))) (by kernel_rfl) (fun hb203 => ?_) (fun hb203 => ?_)
            · have h204 := condT hb203 h202
              refine RJ.seg 2 [0, 1, 4, 5, 6, 7, 8, 9, 41, 42, 43] (L2 := [(0, lsv encT 1 x0), (1, lsv (encI .i64) 1 x1), (4, .bool false), (5, .bool y1), (6, lsv encT 1 y51.1), (7, .int .i64 y51.2), (8, .bool s134.1), (9, .int .i64 s134.2), (41, .bool true), (42, lsv (encI .i64) 1 x1), (43, .int .i64 s134.2)]) (H2 := []) (by kernel_rfl) ?_
              obtain ⟨hm, h206⟩ := asrt h204
              refine RJ.rel (d := (some 44)) (ef := ⟨.ep (((x1.flatMap (encI .i64)).drop ((s134.2 : Int).toNat * 1)).take 1), [], []⟩) (ef' := ⟨.ep ((encI .i64) (nth x1 s134.2)), [], []⟩) (c := inR s134.2 x1.length) (tr2 := []) (H2 := []) (by kernel_rfl) hm (fun hc => N.idx (encI_len .i64) hc) (by kernel_rfl) ?_
              refine RJ.seg 6 [0, 1, 4, 5, 6, 7, 8, 9] (L2 := [(0, lsv encT 1 x0), (1, lsv (encI .i64) 1 x1), (4, .bool false), (5, .bool y1), (6, lsv encT 1 y51.1), (7, .int .i64 y51.2), (8, .bool ((decide ((nth x1 s134.2) < (x0.length : Int))))), (9, .int .i64 s134.2)]) (H2 := []) (by kernel_rfl) ?_
              refine RJ.end (by kernel_rfl) ?_
              refine PJ.blockNormal ?_
              obtain rfl := Option.some.inj h206
              exact PJ.cutN [0, 1, 4, 5, 6, 7, 8, 9] (by kernel_rfl) (by kernel_rfl)
            · have h205 := condF hb203 h202
              refine RJ.seg 9 [0, 1, 4, 5, 6, 7, 8, 9] (L2 := [(0, lsv encT 1 x0), (1, lsv (encI .i64) 1 x1), (4, .bool false), (5, .bool y1), (6, lsv encT 1 y51.1), (7, .int .i64 y51.2), (8, .bool false), (9, .int .i64 s134.2)]) (H2 := []) (by kernel_rfl) ?_
              refine RJ.end (by kernel_rfl) ?_
              refine PJ.blockNormal ?_
              obtain rfl := Option.some.inj h205
              exact PJ.cutN [0, 1, 4, 5, 6, 7, 8, 9] (by kernel_rfl) (by kernel_rfl)
          · have h201 := condF hb199 hy196
            refine RJ.seg 16 [0, 1, 4, 5, 6, 7, 8, 9] (L2 := [(0, lsv encT 1 x0), (1, lsv (encI .i64) 1 x1), (4, .bool false), (5, .bool y1), (6, lsv encT 1 y51.1), (7, .int .i64 y51.2), (8, .bool false), (9, .int .i64 s134.2)]) (H2 := []) (by kernel_rfl) ?_
            refine RJ.end (by kernel_rfl) ?_
            refine PJ.blockNormal ?_
            obtain rfl := Option.some.inj h201
            exact PJ.cutN [0, 1, 4, 5, 6, 7, 8, 9] (by kernel_rfl) (by kernel_rfl)
        · refine K.region (by kernel_rfl) ?_
          refine RJ.seg 3 [0, 1, 4, 5, 6, 7, 8, 9] (L2 := [(0, lsv encT 1 x0), (1, lsv (encI .i64) 1 x1), (4, .bool false), (5, .bool y1), (6, lsv encT 1 y51.1), (7, .int .i64 y51.2), (8, .bool s194), (9, .int .i64 (IntKind.wrap .i64 (s134.2 + 1)))]) (H2 := []) (by kernel_rfl) ?_
          refine RJ.end (by kernel_rfl) ?_
          obtain rfl := Option.some.inj h198
          exact PJ.loopNext [0, 1, 4, 5, 6, 7, 8, 9] (by kernel_rfl) (by kernel_rfl)
      · have h185 := condF hb183 hs181
        refine K.condF (by kernel_rfl) ?_
        refine K.exit 0 (by kernel_rfl) ?_
        refine PJ.passExit ?_
        obtain rfl := Option.some.inj h185
        refine PJ.loopOut (fun e => nomatch e) (fun he208 => ?_)
        have h207 := congrArg some he208
        refine PJ.blockOut ?_
        obtain rfl := Option.some.inj h207
        exact PJ.cutN [0, 1, 4, 5, 6, 7, 8] (by kernel_rfl) (by kernel_rfl)
    · refine K.seq (by kernel_rfl) ?_
      refine K.seq (by kernel_rfl) ?_
      refine K.region (by kernel_rfl) ?_
      refine RJ.seg 2 [0, 1, 4, 5, 6, 7, 51] (L2 := [(0, lsv encT 1 x0), (1, lsv (encI .i64) 1 x1), (4, .bool false), (5, .bool y1), (6, lsv encT 1 y51.1), (7, .int .i64 y51.2), (51, .bool (!s129))]) (H2 := []) (by kernel_rfl) ?_
      refine RJ.end (by kernel_rfl) ?_
      refine PJ.next ?_
      refine J.caseB 51 (b := (!s129)) (by kernel_rfl) (fun hb209 => ?_) (fun hb209 => ?_)
      · have h210 := condT hb209 h133
        refine K.condT (by kernel_rfl) ?_
        obtain ⟨s218, hy220, h222⟩ := bindS h210
        refine K.cutN (by kernel_rfl) (fun (s218 : Bool) => ([(0, lsv encT 1 x0), (1, lsv (encI .i64) 1 x1), (4, .bool s218), (5, .bool y1), (6, lsv encT 1 y51.1), (7, .int .i64 y51.2)], [])) s218 ?_ ?_
        · refine K.region (by kernel_rfl) ?_
          refine RJ.seg 2 [0, 1, 4, 5, 6, 7, 53] (L2 := [(0, lsv encT 1 x0), (1, lsv (encI .i64) 1 x1), (4, .bool false), (5, .bool y1), (6, lsv encT 1 y51.1), (7, .int .i64 y51.2), (53, .bool y1)]) (H2 := []) (by kernel_rfl) ?_
          refine RJ.caseB 53 (b := y1) (by kernel_rfl) (fun hb223 => ?_) (fun hb223 => ?_)
          · have h224 := condT hb223 hy220
            refine RJ.seg 4 [0, 1, 4, 5, 6, 7, 57] (L2 := [(0, lsv encT 1 x0), (1, lsv (encI .i64) 1 x1), (4, .bool false), (5, .bool y1), (6, lsv encT 1 y51.1), (7, .int .i64 y51.2), (57, .bool (decide (y51.2 = 7)))]) (H2 := []) (by kernel_rfl) ?_
            refine RJ.caseB 57 (b := (decide (y51.2 = 7))) (by kernel_rfl) (fun hb226 => ?_) (fun hb226 => ?_)
            · have h227 := condT hb226 h224
              refine RJ.seg 5 [0, 1, 4, 5, 6, 7] (L2 := [(0, lsv encT 1 x0), (1, lsv (encI .i64) 1 x1), (4, .bool ((decide ((y51.1.length : Int) = 0)))), (5, .bool y1), (6, lsv encT 1 y51.1), (7, .int .i64 y51.2)]) (H2 := []) (by kernel_rfl) ?_
              refine RJ.end (by kernel_rfl) ?_
              obtain rfl := Option.some.inj h227
              exact PJ.cutN [0, 1, 4, 5, 6, 7] (by kernel_rfl) (by kernel_rfl)
            · have h228 := condF hb226 h224
              refine RJ.seg 5 [0, 1, 4, 5, 6, 7] (L2 := [(0, lsv encT 1 x0), (1, lsv (encI .i64) 1 x1), (4, .bool false), (5, .bool y1), (6, lsv encT 1 y51.1), (7, .int .i64 y51.2)]) (H2 := []) (by kernel_rfl) ?_
              refine RJ.end (by kernel_rfl) ?_
              obtain rfl := Option.some.inj h228
              exact PJ.cutN [0, 1, 4, 5, 6, 7] (by kernel_rfl) (by kernel_rfl)
          · have h225 := condF hb223 hy220
            refine RJ.seg 9 [0, 1, 4, 5, 6, 7] (L2 := [(0, lsv encT 1 x0), (1, lsv (encI .i64) 1 x1), (4, .bool false), (5, .bool y1), (6, lsv encT 1 y51.1), (7, .int .i64 y51.2)]) (H2 := []) (by kernel_rfl) ?_
            refine RJ.end (by kernel_rfl) ?_
            obtain rfl := Option.some.inj h225
            exact PJ.cutN [0, 1, 4, 5, 6, 7] (by kernel_rfl) (by kernel_rfl)
        · refine K.ret (by kernel_rfl) ?_
          refine PJ.passRet ?_
          obtain rfl := Option.some.inj h222
          exact K.ret0 (.inr rfl) hFn hFH hFD (by kernel_rfl) (by kernel_rfl) (by kernel_rfl)
      · have h211 := condF hb209 h133
        refine K.condF (by kernel_rfl) ?_
        refine K.skip (by kernel_rfl) ?_
        refine PJ.next ?_
        obtain ⟨y245, hy246, h247⟩ := bindS h211
        refine K.cutX (by kernel_rfl) (fun (s244 : Unit) => ([(0, lsv encT 1 x0), (1, lsv (encI .i64) 1 x1), (4, .bool false), (5, .bool y1), (6, lsv encT 1 y51.1)], [])) y245 ?_ (fun s244 hs => ?_)
        · obtain ⟨s252, hy254, h256⟩ := bindS hy246
          refine K.cutN (by kernel_rfl) (fun (s252 : Bool) => ([(0, lsv encT 1 x0), (1, lsv (encI .i64) 1 x1), (4, .bool false), (5, .bool y1), (6, lsv encT 1 y51.1), (70, .bool s252)], [])) s252 ?_ ?_
          · refine K.region (by kernel_rfl) ?_
            refine RJ.seg 3 [0, 1, 4, 5, 6, 64] (L2 := [(0, lsv encT 1 x0), (1, lsv (encI .i64) 1 x1), (4, .bool false), (5, .bool y1), (6, lsv encT 1 y51.1), (64, .bool (decide (¬ y51.2 = 0)))]) (H2 := []) (by kernel_rfl) ?_
            refine RJ.caseB 64 (b := (decide (¬ y51.2 = 0))) (by kernel_rfl) (fun hb257 => ?_) (fun hb257 => ?_)
            · have h258 := condT hb257 hy254
              refine RJ.seg 6 [0, 1, 4, 5, 6, 70] (L2 := [(0, lsv encT 1 x0), (1, lsv (encI .i64) 1 x1), (4, .bool false), (5, .bool y1), (6, lsv encT 1 y51.1), (70, .bool true)]) (H2 := []) (by kernel_rfl) ?_
              refine RJ.end (by kernel_rfl) ?_
              obtain rfl := Option.some.inj h258
              exact PJ.cutN [0, 1, 4, 5, 6, 70] (by kernel_rfl) (by kernel_rfl)
            · have h259 := condF hb257 hy254
              refine RJ.seg 6 [0, 1, 4, 5, 6, 70] (L2 := [(0, lsv encT 1 x0), (1, lsv (encI .i64) 1 x1), (4, .bool false), (5, .bool y1), (6, lsv encT 1 y51.1), (70, .bool ((decide (¬ (y51.1.length : Int) = (x1.length : Int)))))]) (H2 := []) (by kernel_rfl) ?_
              refine RJ.end (by kernel_rfl) ?_
              obtain rfl := Option.some.inj h259
              exact PJ.cutN [0, 1, 4, 5, 6, 70] (by kernel_rfl) (by kernel_rfl)
          · refine J.caseB 70 (b := s252) (by kernel_rfl) (fun hb260 => ?_) (fun hb260 => ?_)
            · have h261 := condT hb260 h256
              refine K.condT (by kernel_rfl) ?_
              refine K.seq (by kernel_rfl) ?_
              refine K.region (by kernel_rfl) ?_
              refine RJ.seg 1 [0, 1, 4, 5, 6] (L2 := [(0, lsv encT 1 x0), (1, lsv (encI .i64) 1 x1), (4, .bool false), (5, .bool y1), (6, lsv encT 1 y51.1)]) (H2 := []) (by kernel_rfl) ?_
              refine RJ.end (by kernel_rfl) ?_
              refine PJ.next ?_
              refine K.ret (by kernel_rfl) ?_
              obtain rfl := Option.some.inj h261
              have h263 := joinX_inr h247
              refine PJ.cutXr (fun e => nomatch e) ?_
              obtain rfl := Option.some.inj h263
              exact K.ret0 (.inr rfl) hFn hFH hFD (by kernel_rfl) (by kernel_rfl) (by kernel_rfl)
            · have h262 := condF hb260 h256
              refine K.condF (by kernel_rfl) ?_
              refine K.skip (by kernel_rfl) ?_
              obtain rfl := Option.some.inj h262
              exact PJ.cutXl [0, 1, 4, 5, 6] (by kernel_rfl) (by kernel_rfl)
        · subst hs
          have h248 := joinX_inl h247
          obtain ⟨y310, hy311, h312⟩ := bindS h248
          refine K.cutX (by kernel_rfl) (fun (s309 : Unit) => ([(4, .bool false), (5, .bool y1)], [])) y310 ?_ (fun s309 hs => ?_)
          · refine K.seq (by kernel_rfl) ?_
            refine K.region (by kernel_rfl) ?_
            refine RJ.seg 1 [0, 1, 4, 5, 6, 10] (L2 := [(0, lsv encT 1 x0), (1, lsv (encI .i64) 1 x1), (4, .bool false), (5, .bool y1), (6, lsv encT 1 y51.1), (10, .int .i64 0)]) (H2 := []) (by kernel_rfl) ?_
            refine RJ.end (by kernel_rfl) ?_
            refine PJ.next ?_
            refine K.block 2 (by kernel_rfl) ?_
            refine K.loop (by kernel_rfl) (fun (s314 : Int) => ([(0, lsv encT 1 x0), (1, lsv (encI .i64) 1 x1), (4, .bool false), (5, .bool y1), (6, lsv encT 1 y51.1), (10, .int .i64 s314)], [])) hy311 [0, 1, 4, 5, 6, 10] (by kernel_rfl) (by kernel_rfl) (fun s314 x344 hs343 => ?_)
            refine K.seq (by kernel_rfl) ?_
            refine K.seq (by kernel_rfl) ?_
            refine K.region (by kernel_rfl) ?_
            refine RJ.seg 4 [0, 1, 4, 5, 6, 10, 74] (L2 := [(0, lsv encT 1 x0), (1, lsv (encI .i64) 1 x1), (4, .bool false), (5, .bool y1), (6, lsv encT 1 y51.1), (10, .int .i64 s314), (74, .bool ((decide (s314 < (x1.length : Int)))))]) (H2 := []) (by kernel_rfl) ?_
            refine RJ.end (by kernel_rfl) ?_
            refine PJ.next ?_
            refine J.caseB 74 (b := (decide (s314 < (x1.length : Int)))) (by kernel_rfl) (fun hb345 => ?_) (fun hb345 => ?_)
            · have h346 := condT hb345 hs343
              refine K.condT (by kernel_rfl) ?_
              refine K.skip (by kernel_rfl) ?_
              refine PJ.next ?_
              refine K.seq (by kernel_rfl) ?_
              refine K.block 3 (by kernel_rfl) ?_
              refine K.seq (by kernel_rfl) ?_
              refine J.keep [0, 1, 4, 5, 6, 10] (L2 := [(0, lsv encT 1 x0), (1, lsv (encI .i64) 1 x1), (4, .bool false), (5, .bool y1), (6, lsv encT 1 y51.1), (10, .int .i64 s314)]) (by kernel_rfl) ?_
              refine K.draw (by kernel_rfl) (by kernel_rfl) (by kernel_rfl) (H2 := []) (by kernel_rfl) (n := 0) (by kernel_rfl) ?_
              refine RJ.segD 2 (tr2 := [([], []), ([], [])]) (L2 := [(78, .int .i64 s314), (77, lsv encT 1 y51.1), (0, lsv encT 1 x0), (1, lsv (encI .i64) 1 x1), (4, .bool false), (5, .bool y1), (6, lsv encT 1 y51.1), (10, .int .i64 s314)]) (H2 := []) (by kernel_rfl) ?_
              obtain ⟨hm, h348⟩ := asrt h346
              refine RJ.rel (d := (some 79)) (ef := ⟨.ep (((y51.1.flatMap encT).drop ((s314 : Int).toNat * 1)).take 1), [], []⟩) (ef' := ⟨.ep (encT (nth y51.1 s314)), [], []⟩) (c := inR s314 y51.1.length) (tr2 := [([], []), ([], []), ([], [])]) (H2 := []) (by kernel_rfl) hm (fun hc => N.idx encT_len hc) (by kernel_rfl) ?_
              refine RJ.segD 4 (tr2 := [([], []), ([], []), ([], []), ([], []), ([], []), ([], []), ([], [])]) (L2 := [(83, .int .i64 s314), (82, lsv (encI .i64) 1 x1), (81, lsv encT 1 x0), (80, .str (nth y51.1 s314)), (79, .ep [.str (nth y51.1 s314)]), (78, .int .i64 s314), (77, lsv encT 1 y51.1), (0, lsv encT 1 x0), (1, lsv (encI .i64) 1 x1), (4, .bool false), (5, .bool y1), (6, lsv encT 1 y51.1), (10, .int .i64 s314)]) (H2 := []) (by kernel_rfl) ?_
              obtain ⟨hm, h349⟩ := asrt h348
              refine RJ.rel (d := (some 84)) (ef := ⟨.ep (((x1.flatMap (encI .i64)).drop ((s314 : Int).toNat * 1)).take 1), [], []⟩) (ef' := ⟨.ep ((encI .i64) (nth x1 s314)), [], []⟩) (c := inR s314 x1.length) (tr2 := [([], []), ([], []), ([], []), ([], []), ([], []), ([], []), ([], []), ([], [])]) (H2 := []) (by kernel_rfl) hm (fun hc => N.idx (encI_len .i64) hc) (by kernel_rfl) ?_
              refine RJ.segD 1 (tr2 := [([], []), ([], []), ([], []), ([], []), ([], []), ([], []), ([], []), ([], []), ([], [])]) (L2 := [(85, .int .i64 (nth x1 s314)), (84, .ep [.int .i64 (nth x1 s314)]), (83, .int .i64 s314), (82, lsv (encI .i64) 1 x1), (81, lsv encT 1 x0), (80, .str (nth y51.1 s314)), (79, .ep [.str (nth y51.1 s314)]), (78, .int .i64 s314), (77, lsv encT 1 y51.1), (0, lsv encT 1 x0), (1, lsv (encI .i64) 1 x1), (4, .bool false), (5, .bool y1), (6, lsv encT 1 y51.1), (10, .int .i64 s314)]) (H2 := []) (by kernel_rfl) ?_
              obtain ⟨hm, h350⟩ := asrt h349
              refine RJ.rel (d := (some 86)) (ef := ⟨.ep (((x0.flatMap encT).drop (((nth x1 s314) : Int).toNat * 1)).take 1), [], []⟩) (ef' := ⟨.ep (encT (nth x0 (nth x1 s314))), [], []⟩) (c := inR (nth x1 s314) x0.length) (tr2 := [([], []), ([], []), ([], []), ([], []), ([], []), ([], []), ([], []), ([], []), ([], []), ([], [])]) (H2 := []) (by kernel_rfl) hm (fun hc => N.idx encT_len hc) (by kernel_rfl) ?_
              refine RJ.segD 2 (tr2 := [([], []), ([], []), ([], []), ([], []), ([], []), ([], []), ([], []), ([], []), ([], []), ([], []), ([], []), ([], [])]) (L2 := [(88, .bool (((nth y51.1 s314) != (nth x0 (nth x1 s314))))), (87, .str (nth x0 (nth x1 s314))), (86, .ep [.str (nth x0 (nth x1 s314))]), (85, .int .i64 (nth x1 s314)), (84, .ep [.int .i64 (nth x1 s314)]), (83, .int .i64 s314), (82, lsv (encI .i64) 1 x1), (81, lsv encT 1 x0), (80, .str (nth y51.1 s314)), (79, .ep [.str (nth y51.1 s314)]), (78, .int .i64 s314), (77, lsv encT 1 y51.1), (0, lsv encT 1 x0), (1, lsv (encI .i64) 1 x1), (4, .bool false), (5, .bool y1), (6, lsv encT 1 y51.1), (10, .int .i64 s314)]) (H2 := []) (by kernel_rfl) ?_
              refine RJ.end (by kernel_rfl) ?_
              refine PJ.next ?_
              refine J.caseB 88 (b := ((nth y51.1 s314) != (nth x0 (nth x1 s314)))) (by kernel_rfl) (fun hb351 => ?_) (fun hb351 => ?_)
              · have h352 := condT hb351 h350
                refine K.condT (by kernel_rfl) ?_
                refine K.seq (by kernel_rfl) ?_
                refine K.region (by kernel_rfl) ?_
                refine RJ.seg 1 [0, 1, 4, 5, 6, 10] (L2 := [(0, lsv encT 1 x0), (1, lsv (encI .i64) 1 x1), (4, .bool false), (5, .bool y1), (6, lsv encT 1 y51.1), (10, .int .i64 s314)]) (H2 := []) (by kernel_rfl) ?_
                refine RJ.end (by kernel_rfl) ?_
                refine PJ.next ?_
                refine K.ret (by kernel_rfl) ?_
                refine PJ.blockRet ?_
                refine PJ.passRet ?_
                obtain rfl := Option.some.inj h352
                refine PJ.loopOut (fun e => nomatch e) (fun he356 => ?_)
                have h354 := congrArg some he356
                refine PJ.blockRet ?_
                obtain rfl := Option.some.inj h354
                have h355 := joinX_inr h312
                refine PJ.cutXr (fun e => nomatch e) ?_
                obtain rfl := Option.some.inj h355
                exact K.ret0 (.inr rfl) hFn hFH hFD (by kernel_rfl) (by kernel_rfl) (by kernel_rfl)
              · have h353 := condF hb351 h350
                refine K.condF (by kernel_rfl) ?_
                refine K.skip (by kernel_rfl) ?_
                refine PJ.blockNormal ?_
                refine PJ.next ?_
                refine K.region (by kernel_rfl) ?_
                refine RJ.seg 3 [0, 1, 4, 5, 6, 10] (L2 := [(0, lsv encT 1 x0), (1, lsv (encI .i64) 1 x1), (4, .bool false), (5, .bool y1), (6, lsv encT 1 y51.1), (10, .int .i64 (IntKind.wrap .i64 (s314 + 1)))]) (H2 := []) (by kernel_rfl) ?_
                refine RJ.end (by kernel_rfl) ?_
                obtain rfl := Option.some.inj h353
                exact PJ.loopNext [0, 1, 4, 5, 6, 10] (by kernel_rfl) (by kernel_rfl)
            · have h347 := condF hb345 hs343
              refine K.condF (by kernel_rfl) ?_
              refine K.exit 2 (by kernel_rfl) ?_
              refine PJ.passExit ?_
              obtain rfl := Option.some.inj h347
              refine PJ.loopOut (fun e => nomatch e) (fun he358 => ?_)
              have h357 := congrArg some he358
              refine PJ.blockOut ?_
              obtain rfl := Option.some.inj h357
              exact PJ.cutXl [4, 5] (by kernel_rfl) (by kernel_rfl)
          · subst hs
            have h313 := joinX_inl h312
            refine K.seq (by kernel_rfl) ?_
            refine K.region (by kernel_rfl) ?_
            refine RJ.seg 2 [4] (L2 := [(4, .bool y1)]) (H2 := []) (by kernel_rfl) ?_
            refine RJ.end (by kernel_rfl) ?_
            refine PJ.next ?_
            refine K.ret (by kernel_rfl) ?_
            obtain rfl := Option.some.inj h313
            exact K.ret0 (.inr rfl) hFn hFH hFD (by kernel_rfl) (by kernel_rfl) (by kernel_rfl)

end Go.Proofs.Ytdeaonfclkffnaa
