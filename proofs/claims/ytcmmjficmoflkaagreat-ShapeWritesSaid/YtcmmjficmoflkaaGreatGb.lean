/-
  What the functions of this program come to, as functions of natives, each with the proof that it does. No conditions.
-/
import Derived.Test.YtcmmjficmoflkaaGreatProg
import Derived.Test.YtcmmjficmoflkaaGreatSySL
import Derived.Test.YtcmmjficmoflkaaGreatGa
namespace Go.Proofs.YtcmmjficmoflkaaGreat
open Go Go.Sy Go.RowKit
set_option linter.unusedVariables false
set_option linter.unusedSimpArgs false
set_option maxRecDepth 100000
set_option maxHeartbeats 4000000
def exergueref01_Size (x0 : Int) : Option (Int) :=
 (Option.bind (exergueref01_Is x0) fun y0 => (bif (!y0) then (some 0) else (bif (decide (x0 < 128)) then (some 1) else (bif (decide (x0 < 2048)) then (some 2) else (bif (decide (x0 < 65536)) then (some 3) else (some 4))))))
theorem exergueref01_Size_ok {x0 : Int} {r : Int} (h : exergueref01_Size x0 = some r) : SC Tryz.prog 106 [.int .i32 x0] [] (.int .i64 r) [] := by
 refine kFn (fn := Tryz.f106) (fun F hFn hFH hFD => ?_)
 unfold exergueref01_Size at h
 refine kSR ?_
 refine kC 1 [0,2] ?_
 refine kEN ?_
 refine kSR ?_
 refine kC 1 [0,2,4] ?_
 obtain ⟨y0, hy0, h0⟩ := bindS h
 refine kA 5 (exergueref01_Is_ok hy0) ?_
 refine kC 1 [0,2,3] ?_
 refine kEN ?_
 refine kS ?_
 refine kSR ?_
 refine kC 2 [0,2,7] ?_
 refine kEN ?_
 refine kBJ 7 h0 (fun h1 => ?_) (fun h2 => ?_)
 ·refine kT ?_
  refine kSR ?_
  refine kC 1 [0,2] ?_
  refine kEN ?_
  refine kX ?_
  refine PJ.passRet ?_
  obtain rfl := oi h1
  exact kZ hFn hFH hFD
 ·refine kF ?_
  refine kK ?_
  refine PJ.next ?_
  refine kS ?_
  refine kSR ?_
  refine kC 2 [0,2,9] ?_
  refine kEN ?_
  refine kBJ 9 h2 (fun h3 => ?_) (fun h4 => ?_)
  ·refine kT ?_
   refine kSR ?_
   refine kC 1 [0,2] ?_
   refine kEN ?_
   refine kX ?_
   refine PJ.passRet ?_
   obtain rfl := oi h3
   exact kZ hFn hFH hFD
  ·refine kF ?_
   refine kK ?_
   refine PJ.next ?_
   refine kS ?_
   refine kSR ?_
   refine kC 2 [0,2,11] ?_
   refine kEN ?_
   refine kBJ 11 h4 (fun h5 => ?_) (fun h6 => ?_)
   ·refine kT ?_
    refine kSR ?_
    refine kC 1 [0,2] ?_
    refine kEN ?_
    refine kX ?_
    refine PJ.passRet ?_
    obtain rfl := oi h5
    exact kZ hFn hFH hFD
   ·refine kF ?_
    refine kK ?_
    refine PJ.next ?_
    refine kS ?_
    refine kSR ?_
    refine kC 2 [2,13] ?_
    refine kEN ?_
    refine kBJ 13 h6 (fun h7 => ?_) (fun h8 => ?_)
    ·refine kT ?_
     refine kSR ?_
     refine kC 1 [2] ?_
     refine kEN ?_
     refine kX ?_
     refine PJ.passRet ?_
     obtain rfl := oi h7
     exact kZ hFn hFH hFD
    ·refine kF ?_
     refine kK ?_
     refine PJ.next ?_
     refine kSR ?_
     refine kC 1 [2] ?_
     refine kEN ?_
     refine kX ?_
     obtain rfl := oi h8
     exact kZ hFn hFH hFD
def exergueref01_Bytes (x0 : Int) : Option (List Int) :=
 (Option.bind (exergueref01_Size x0) fun y0 => (bif (decide (y0 = 1)) then (some ([(IntKind.wrap .u8 (IntKind.wrap .i64 x0))] : List Int)) else (bif (decide (y0 = 2)) then (some ([(IntKind.wrap .u8 ((IntKind.wrap .i64 (192 + ((IntKind.wrap .i64 (Int.tdiv (IntKind.wrap .i64 x0) 64))))))), (IntKind.wrap .u8 ((IntKind.wrap .i64 (128 + (Int.tmod (IntKind.wrap .i64 x0) 64)))))] : List Int)) else (bif (decide (y0 = 3)) then (some ([(IntKind.wrap .u8 ((IntKind.wrap .i64 (224 + ((IntKind.wrap .i64 (Int.tdiv (IntKind.wrap .i64 x0) 4096))))))), (IntKind.wrap .u8 ((IntKind.wrap .i64 (128 + ((Int.tmod ((IntKind.wrap .i64 (Int.tdiv (IntKind.wrap .i64 x0) 64))) 64)))))), (IntKind.wrap .u8 ((IntKind.wrap .i64 (128 + (Int.tmod (IntKind.wrap .i64 x0) 64)))))] : List Int)) else (bif (decide (y0 = 4)) then (some ([(IntKind.wrap .u8 ((IntKind.wrap .i64 (240 + ((IntKind.wrap .i64 (Int.tdiv (IntKind.wrap .i64 x0) 262144))))))), (IntKind.wrap .u8 ((IntKind.wrap .i64 (128 + ((Int.tmod ((IntKind.wrap .i64 (Int.tdiv (IntKind.wrap .i64 x0) 4096))) 64)))))), (IntKind.wrap .u8 ((IntKind.wrap .i64 (128 + ((Int.tmod ((IntKind.wrap .i64 (Int.tdiv (IntKind.wrap .i64 x0) 64))) 64)))))), (IntKind.wrap .u8 ((IntKind.wrap .i64 (128 + (Int.tmod (IntKind.wrap .i64 x0) 64)))))] : List Int)) else (some ([] : List Int)))))))
theorem exergueref01_Bytes_ok {x0 : Int} {r : List Int} (h : exergueref01_Bytes x0 = some r) : SC Tryz.prog 128 [.int .i32 x0] [] (lsv (encI .u8) 1 r) [] := by
 refine kFn (fn := Tryz.f128) (fun F hFn hFH hFD => ?_)
 unfold exergueref01_Bytes at h
 refine kSR ?_
 refine kC 1 [0,2] ?_
 refine kEN ?_
 refine kSR ?_
 refine kC 3 [0,2,3] ?_
 refine kEN ?_
 refine kS ?_
 refine kSR ?_
 refine kC 1 [2,3,6] ?_
 obtain ⟨y0, hy0, h0⟩ := bindS h
 refine kA 7 (exergueref01_Size_ok hy0) ?_
 refine kEN ?_
 refine kb 0 ?_
 refine kSR ?_
 refine kC 2 [2,3,7,8] ?_
 refine kEN ?_
 refine kBJ 8 h0 (fun h1 => ?_) (fun h2 => ?_)
 ·refine kT ?_
  refine kSR ?_
  refine kC 4 [2] ?_
  refine kEN ?_
  refine kX ?_
  refine PJ.blockRet ?_
  refine PJ.passRet ?_
  obtain rfl := oi h1
  refine PJ.wk (Wk.freeze 0 (n := (([(IntKind.wrap .u8 (IntKind.wrap .i64 x0))] : List Int)).length) (k := 1) (e := 5) (cs := (([(IntKind.wrap .u8 (IntKind.wrap .i64 x0))] : List Int)).flatMap (encI .u8)) (by kernel_rfl)) ?_
  exact kZ hFn hFH hFD
 ·refine kF ?_
  refine kSR ?_
  refine kC 2 [2,3,7,13] ?_
  refine kEN ?_
  refine kBJ 13 h2 (fun h3 => ?_) (fun h4 => ?_)
  ·refine kT ?_
   refine kSR ?_
   refine kC 10 [2] ?_
   refine kEN ?_
   refine kX ?_
   refine PJ.blockRet ?_
   refine PJ.passRet ?_
   obtain rfl := oi h3
   refine PJ.wk (Wk.freeze 0 (n := (([(IntKind.wrap .u8 ((IntKind.wrap .i64 (192 + ((IntKind.wrap .i64 (Int.tdiv (IntKind.wrap .i64 x0) 64))))))), (IntKind.wrap .u8 ((IntKind.wrap .i64 (128 + (Int.tmod (IntKind.wrap .i64 x0) 64)))))] : List Int)).length) (k := 1) (e := 5) (cs := (([(IntKind.wrap .u8 ((IntKind.wrap .i64 (192 + ((IntKind.wrap .i64 (Int.tdiv (IntKind.wrap .i64 x0) 64))))))), (IntKind.wrap .u8 ((IntKind.wrap .i64 (128 + (Int.tmod (IntKind.wrap .i64 x0) 64)))))] : List Int)).flatMap (encI .u8)) (by kernel_rfl)) ?_
   exact kZ hFn hFH hFD
  ·refine kF ?_
   refine kSR ?_
   refine kC 2 [2,3,7,24] ?_
   refine kEN ?_
   refine kBJ 24 h4 (fun h5 => ?_) (fun h6 => ?_)
   ·refine kT ?_
    refine kSR ?_
    refine kC 15 [2] ?_
    refine kEN ?_
    refine kX ?_
    refine PJ.blockRet ?_
    refine PJ.passRet ?_
    obtain rfl := oi h5
    refine PJ.wk (Wk.freeze 0 (n := (([(IntKind.wrap .u8 ((IntKind.wrap .i64 (224 + ((IntKind.wrap .i64 (Int.tdiv (IntKind.wrap .i64 x0) 4096))))))), (IntKind.wrap .u8 ((IntKind.wrap .i64 (128 + ((Int.tmod ((IntKind.wrap .i64 (Int.tdiv (IntKind.wrap .i64 x0) 64))) 64)))))), (IntKind.wrap .u8 ((IntKind.wrap .i64 (128 + (Int.tmod (IntKind.wrap .i64 x0) 64)))))] : List Int)).length) (k := 1) (e := 5) (cs := (([(IntKind.wrap .u8 ((IntKind.wrap .i64 (224 + ((IntKind.wrap .i64 (Int.tdiv (IntKind.wrap .i64 x0) 4096))))))), (IntKind.wrap .u8 ((IntKind.wrap .i64 (128 + ((Int.tmod ((IntKind.wrap .i64 (Int.tdiv (IntKind.wrap .i64 x0) 64))) 64)))))), (IntKind.wrap .u8 ((IntKind.wrap .i64 (128 + (Int.tmod (IntKind.wrap .i64 x0) 64)))))] : List Int)).flatMap (encI .u8)) (by kernel_rfl)) ?_
    exact kZ hFn hFH hFD
   ·refine kF ?_
    refine kSR ?_
    refine kC 2 [2,3,40] ?_
    refine kEN ?_
    refine kBJ 40 h6 (fun h7 => ?_) (fun h8 => ?_)
    ·refine kT ?_
     refine kSR ?_
     refine kC 20 [2] ?_
     refine kEN ?_
     refine kX ?_
     refine PJ.blockRet ?_
     refine PJ.passRet ?_
     obtain rfl := oi h7
     refine PJ.wk (Wk.freeze 0 (n := (([(IntKind.wrap .u8 ((IntKind.wrap .i64 (240 + ((IntKind.wrap .i64 (Int.tdiv (IntKind.wrap .i64 x0) 262144))))))), (IntKind.wrap .u8 ((IntKind.wrap .i64 (128 + ((Int.tmod ((IntKind.wrap .i64 (Int.tdiv (IntKind.wrap .i64 x0) 4096))) 64)))))), (IntKind.wrap .u8 ((IntKind.wrap .i64 (128 + ((Int.tmod ((IntKind.wrap .i64 (Int.tdiv (IntKind.wrap .i64 x0) 64))) 64)))))), (IntKind.wrap .u8 ((IntKind.wrap .i64 (128 + (Int.tmod (IntKind.wrap .i64 x0) 64)))))] : List Int)).length) (k := 1) (e := 5) (cs := (([(IntKind.wrap .u8 ((IntKind.wrap .i64 (240 + ((IntKind.wrap .i64 (Int.tdiv (IntKind.wrap .i64 x0) 262144))))))), (IntKind.wrap .u8 ((IntKind.wrap .i64 (128 + ((Int.tmod ((IntKind.wrap .i64 (Int.tdiv (IntKind.wrap .i64 x0) 4096))) 64)))))), (IntKind.wrap .u8 ((IntKind.wrap .i64 (128 + ((Int.tmod ((IntKind.wrap .i64 (Int.tdiv (IntKind.wrap .i64 x0) 64))) 64)))))), (IntKind.wrap .u8 ((IntKind.wrap .i64 (128 + (Int.tmod (IntKind.wrap .i64 x0) 64)))))] : List Int)).flatMap (encI .u8)) (by kernel_rfl)) ?_
     exact kZ hFn hFH hFD
    ·refine kF ?_
     refine kK ?_
     refine PJ.blockNormal ?_
     refine PJ.next ?_
     refine kSR ?_
     refine kC 1 [2] ?_
     refine kEN ?_
     refine kX ?_
     obtain rfl := oi h8
     refine PJ.res (v1 := .nl) (Le.nl _) ?_
     exact kZ hFn hFH hFD
def exergueref10_text (x0 : Int) : Option (List UInt8) :=
 (Option.bind (exergueref01_Bytes x0) fun y0 => (some (bytesS y0)))
theorem exergueref10_text_ok {x0 : Int} {r : List UInt8} (h : exergueref10_text x0 = some r) : SC Tryz.prog 110 [.int .i32 x0] [] (.str r) [] := by
 refine kFn (fn := Tryz.f110) (fun F hFn hFH hFD => ?_)
 unfold exergueref10_text at h
 refine kSR ?_
 refine kC 1 [0,2] ?_
 refine kEN ?_
 refine kSR ?_
 refine kC 1 [2,3] ?_
 obtain ⟨y0, hy0, h0⟩ := bindS h
 refine kA 4 (exergueref01_Bytes_ok hy0) ?_
 refine RJ.rel (d := (some 5)) (ef := ⟨.str ((y0.flatMap (encI .u8)).map Go.Sy.byteOf), [], []⟩) (ef' := ⟨.str (bytesS y0), [], []⟩) (c := (y0.flatMap (encI .u8)).all isByte) (tr2 := []) (H2 := []) (by kernel_rfl) (allByte y0) (fun hc => N.toStr) (by kernel_rfl) ?_
 refine kC 1 [2] ?_
 refine kEN ?_
 refine kX ?_
 obtain rfl := oi h0
 exact kZ hFn hFH hFD
def exergueref10_padded (x0 : St25) (x1 : Int) : Option (List UInt8) :=
 (bif (decide (x0.PadAt_ = x1)) then (Option.bind (exergueref10_text x0.Pad_) fun y0 => (bif room (([42] : List UInt8).length + y0.length) then (some (([42] : List UInt8) ++ y0)) else none)) else (some ([] : List UInt8)))
theorem exergueref10_padded_ok {x0 : St25} {x1 : Int} {r : List UInt8} (h : exergueref10_padded x0 x1 = some r) : SC Tryz.prog 85 [.agg (encSt25 x0), .int .i64 x1] [] (.str r) [] := by
 refine kFn (fn := Tryz.f85) (fun F hFn hFH hFD => ?_)
 unfold exergueref10_padded at h
 refine kSR ?_
 refine kC 2 [1,2,4] ?_
 refine kEN ?_
 refine kS ?_
 refine kSR ?_
 refine kC 4 [2,4,8] ?_
 refine kEN ?_
 refine kBJ 8 h (fun h0 => ?_) (fun h1 => ?_)
 ·refine kT ?_
  refine kSR ?_
  refine kC 2 [4,10] ?_
  obtain ⟨y0, hy0, h2⟩ := bindS h0
  refine kA 11 (exergueref10_text_ok hy0) ?_
  obtain ⟨hm, h3⟩ := asrt h2
  refine kQ 12 (.str (([42] : List UInt8) ++ y0)) [] (tr2 := []) hm ?_
  refine kC 1 [4] ?_
  refine kEN ?_
  refine kX ?_
  refine PJ.passRet ?_
  obtain rfl := oi h3
  exact kZ hFn hFH hFD
 ·refine kF ?_
  refine kK ?_
  refine PJ.next ?_
  refine kSR ?_
  refine kC 1 [4] ?_
  refine kEN ?_
  refine kX ?_
  obtain rfl := oi h1
  exact kZ hFn hFH hFD
def exergueref10_Special (x0 : Int) : Option (Bool) :=
 (Option.bind (Option.bind (bif (decide (x0 ≥ 48)) then (bif (decide (x0 ≤ 57)) then (some true) else (some (decide (x0 = 164)))) else (some (decide (x0 = 164)))) fun (s1 : Bool) => (bif s1 then (some (.inr true)) else (some (.inl ())))) (joinX fun (s2 : Unit) => (Option.bind (loopN (fun (s0 : Int) => (bif (decide (s0 < 11)) then (bif inR s0 ([35, 64, 44, 46, 59, 42, 37, 45, 43, 39, 69] : List UInt8).length then (bif (decide (((IntKind.wrap .i32 ((((([35, 64, 44, 46, 59, 42, 37, 45, 43, 39, 69] : List UInt8).getD (s0 : Int).toNat 0).toNat : Nat) : Int)))) = x0)) then (some (.inr (.inr true))) else (some (.inl (IntKind.wrap .i64 (s0 + 1))))) else none) else (some (.inr (.inl ()))))) big 0) (joinX fun (s3 : Unit) => (some false)))))
theorem exergueref10_Special_ok {x0 : Int} {r : Bool} (h : exergueref10_Special x0 = some r) : SC Tryz.prog 111 [.int .i32 x0] [] (.bool r) [] := by
 refine kFn (fn := Tryz.f111) (fun F hFn hFH hFD => ?_)
 unfold exergueref10_Special at h
 refine kSR ?_
 refine kC 1 [0,2] ?_
 refine kEN ?_
 obtain ⟨y0, hy0, h0⟩ := bindS h
 refine K.cutX (by kernel_rfl) (fun (s2 : Unit) => ([(0, .int .i32 x0), (2, .bool false)], [])) y0 ?_ (fun s2 hs => ?_)
 ·obtain ⟨s1, hy1, h2⟩ := bindS hy0
  refine K.cutN (by kernel_rfl) (fun (s1 : Bool) => ([(0, .int .i32 x0), (2, .bool false), (13, .bool s1)], [])) s1 ?_ ?_
  ·refine kR ?_
   refine kC 3 [0,2,6] ?_
   refine kB 6 hy1 (fun h3 => ?_) (fun h4 => ?_)
   ·refine kC 4 [0,2,10] ?_
    refine kB 10 h3 (fun h5 => ?_) (fun h6 => ?_)
    ·refine kC 3 [0,2,13] ?_
     refine kE ?_
     obtain rfl := oi h5
     exact kN [0, 2, 13]
    ·refine kC 3 [0,2,13] ?_
     refine kE ?_
     obtain rfl := oi h6
     exact kN [0, 2, 13]
   ·refine kC 7 [0,2,13] ?_
    refine kE ?_
    obtain rfl := oi h4
    exact kN [0, 2, 13]
  ·refine kBJ 13 h2 (fun h7 => ?_) (fun h8 => ?_)
   ·refine kT ?_
    refine kSR ?_
    refine kC 1 [0,2] ?_
    refine kEN ?_
    refine kX ?_
    obtain rfl := oi h7
    have h9 := joinX_inr h0
    refine PJ.cutXr (fun e => nomatch e) ?_
    obtain rfl := oi h9
    exact kZ hFn hFH hFD
   ·refine kF ?_
    refine kK ?_
    obtain rfl := oi h8
    exact kXl [0, 2]
 ·subst hs
  have h10 := joinX_inl h0
  obtain ⟨y1, hy2, h1⟩ := bindS h10
  refine K.cutX (by kernel_rfl) (fun (s3 : Unit) => ([(2, .bool false)], [])) y1 ?_ (fun s3 hs => ?_)
  ·refine kSR ?_
   refine kC 1 [0,2,3] ?_
   refine kEN ?_
   refine kb 0 ?_
   refine kl (fun (s0 : Int) => ([(0, .int .i32 x0), (2, .bool false), (3, .int .i64 s0)], [])) hy2 [0, 2, 3] (fun s0 x118 hs0 => ?_)
   refine kS ?_
   refine kSR ?_
   refine kC 2 [0,2,3,15] ?_
   refine kEN ?_
   refine kBJ 15 hs0 (fun h11 => ?_) (fun h12 => ?_)
   ·refine kT ?_
    refine kK ?_
    refine PJ.next ?_
    refine kS ?_
    refine kb 1 ?_
    refine kSR ?_
    refine kC 1 [0,2,3,18] ?_
    obtain ⟨hm, h13⟩ := asrt h11
    refine kG 19 hm ?_
    refine kC 3 [0,2,3,22] ?_
    refine kEN ?_
    refine kBJ 22 h13 (fun h14 => ?_) (fun h15 => ?_)
    ·refine kT ?_
     refine kSR ?_
     refine kC 1 [0,2,3] ?_
     refine kEN ?_
     refine kX ?_
     refine PJ.blockRet ?_
     refine PJ.passRet ?_
     obtain rfl := oi h14
     refine PJ.loopOut (fun e => nomatch e) (fun he0 => ?_)
     have h16 := congrArg some he0
     refine PJ.blockRet ?_
     obtain rfl := oi h16
     have h17 := joinX_inr h1
     refine PJ.cutXr (fun e => nomatch e) ?_
     obtain rfl := oi h17
     exact kZ hFn hFH hFD
    ·refine kF ?_
     refine kK ?_
     refine PJ.blockNormal ?_
     refine PJ.next ?_
     refine kR ?_
     refine kC 3 [0,2,3] ?_
     refine kE ?_
     obtain rfl := oi h15
     exact kLN [0, 2, 3]
   ·refine kF ?_
    refine K.exit 0 (by kernel_rfl) ?_
    refine PJ.passExit ?_
    obtain rfl := oi h12
    refine PJ.loopOut (fun e => nomatch e) (fun he1 => ?_)
    have h18 := congrArg some he1
    refine PJ.blockOut ?_
    obtain rfl := oi h18
    exact kXl [2]
  ·subst hs
   have h19 := joinX_inl h1
   refine kSR ?_
   refine kC 1 [2] ?_
   refine kEN ?_
   refine kX ?_
   obtain rfl := oi h19
   exact kZ hFn hFH hFD
def exergueref10_written (x0 : List St106) : Option (List UInt8) :=
 (Option.bind (loopN (fun (s0 : (List UInt8) × Bool × Int) => (bif (decide (s0.2.2 < (x0.length : Int))) then (Option.bind (bif inR s0.2.2 x0.length then (Option.bind (exergueref10_Special ((nth x0 s0.2.2).R_)) fun y2 => (Option.bind (bif inR s0.2.2 x0.length then (bif (decide (((nth x0 s0.2.2).Kind_) = 0)) then (bif inR s0.2.2 x0.length then (some ((decide (((nth x0 s0.2.2).R_) = 39)))) else none) else (some false)) else none) fun (s3 : Bool) => (Option.bind (bif inR s0.2.2 x0.length then (bif (decide (((nth x0 s0.2.2).Kind_) = 0)) then (some y2) else (some false)) else none) fun (s4 : Bool) => (Option.bind (Option.bind (bif (!s3) then (some (s4 != s0.2.1)) else (some false)) fun (s6 : Bool) => (bif s6 then (bif room (s0.1.length + ([39] : List UInt8).length) then (some ((s0.1 ++ ([39] : List UInt8)), s4)) else none) else (some (s0.1, s0.2.1)))) fun (s1 : (List UInt8) × Bool) => (bif inR s0.2.2 x0.length then (bif (decide (((nth x0 s0.2.2).Kind_) = 0)) then (bif inR s0.2.2 x0.length then (Option.bind (exergueref10_text ((nth x0 s0.2.2).R_)) fun y0 => (bif room (s1.1.length + y0.length) then (bif s3 then (bif room ((s1.1 ++ y0).length + ([39] : List UInt8).length) then (some (((s1.1 ++ y0) ++ ([39] : List UInt8)), s1.2)) else none) else (some ((s1.1 ++ y0), s1.2))) else none)) else none) else (bif (decide (((nth x0 s0.2.2).Kind_) = 1)) then (bif room (s1.1.length + ([45] : List UInt8).length) then (some ((s1.1 ++ ([45] : List UInt8)), s1.2)) else none) else (bif (decide (((nth x0 s0.2.2).Kind_) = 2)) then (bif room (s1.1.length + ([43] : List UInt8).length) then (some ((s1.1 ++ ([43] : List UInt8)), s1.2)) else none) else (bif (decide (((nth x0 s0.2.2).Kind_) = 3)) then (bif room (s1.1.length + ([37] : List UInt8).length) then (some ((s1.1 ++ ([37] : List UInt8)), s1.2)) else none) else (bif (decide (((nth x0 s0.2.2).Kind_) = 4)) then (Option.bind (exergueref10_text 164) fun y1 => (bif room (s1.1.length + y1.length) then (some ((s1.1 ++ y1), s1.2)) else none)) else (some (s1.1, s1.2))))))) else none))))) else none) fun (s5 : (List UInt8) × Bool) => (some (.inl (s5.1, s5.2, (IntKind.wrap .i64 (s0.2.2 + 1)))))) else (some (.inr (s0.1, s0.2.1))))) big (([] : List UInt8), false, 0)) fun (s2 : (List UInt8) × Bool) => (Option.bind (bif s2.2 then (bif room (s2.1.length + ([39] : List UInt8).length) then (some (s2.1 ++ ([39] : List UInt8))) else none) else (some s2.1)) fun (s7 : (List UInt8)) => (some s7)))
theorem exergueref10_written_ok {x0 : List St106} {r : List UInt8} (h : exergueref10_written x0 = some r) : SC Tryz.prog 86 [lsv encSt106 2 x0] [] (.str r) [] := by
 refine kFn (fn := Tryz.f86) (fun F hFn hFH hFD => ?_)
 unfold exergueref10_written at h
 refine kSR ?_
 refine kC 1 [0,2] ?_
 refine kEN ?_
 refine kSR ?_
 refine kC 1 [0,2,3] ?_
 refine kEN ?_
 refine kSR ?_
 refine kC 1 [0,2,3,4] ?_
 refine kEN ?_
 obtain ⟨s2, hy0, h0⟩ := bindS h
 refine K.cutN (by kernel_rfl) (fun (s2 : (List UInt8) × Bool) => ([(2, .str ([] : List UInt8)), (3, .str s2.1), (4, .bool s2.2)], [])) s2 ?_ ?_
 ·refine kSR ?_
  refine kC 1 [0,2,3,4,5] ?_
  refine kEN ?_
  refine kb 0 ?_
  refine kl (fun (s0 : (List UInt8) × Bool × Int) => ([(0, lsv encSt106 2 x0), (2, .str ([] : List UInt8)), (3, .str s0.1), (4, .bool s0.2.1), (5, .int .i64 s0.2.2)], [])) hy0 [0, 2, 3, 4, 5] (fun s0 x1051 hs0 => ?_)
  refine kS ?_
  refine kSR ?_
  refine kC 4 [0,2,3,4,5,12] ?_
  refine kEN ?_
  refine kBJ 12 hs0 (fun h1 => ?_) (fun h2 => ?_)
  ·refine kT ?_
   refine kK ?_
   refine PJ.next ?_
   obtain ⟨s5, hy1, h3⟩ := bindS h1
   refine K.cutN (by kernel_rfl) (fun (s5 : (List UInt8) × Bool) => ([(0, lsv encSt106 2 x0), (2, .str ([] : List UInt8)), (3, .str s5.1), (4, .bool s5.2), (5, .int .i64 s0.2.2)], [])) s5 ?_ ?_
   ·refine kb 1 ?_
    refine kSR ?_
    refine kC 2 [0,2,3,4,5,15,16] ?_
    obtain ⟨hm, h4⟩ := asrt hy1
    refine kI 17 encSt106_len hm ?_
    refine kC 2 [0,2,3,4,5,19] ?_
    obtain ⟨y2, hy2, h5⟩ := bindS h4
    refine kA 20 (exergueref10_Special_ok hy2) ?_
    refine kC 1 [0,2,3,4,5,6] ?_
    refine kEN ?_
    obtain ⟨s3, hy3, h6⟩ := bindS h5
    refine K.cutN (by kernel_rfl) (fun (s3 : Bool) => ([(0, lsv encSt106 2 x0), (2, .str ([] : List UInt8)), (3, .str s0.1), (4, .bool s0.2.1), (5, .int .i64 s0.2.2), (6, .bool y2), (7, .bool s3)], [])) s3 ?_ ?_
    ·refine kR ?_
     refine kC 2 [0,2,3,4,5,6,21,22] ?_
     obtain ⟨hm, h7⟩ := asrt hy3
     refine kI 23 encSt106_len hm ?_
     refine kC 4 [0,2,3,4,5,6,27] ?_
     refine kB 27 h7 (fun h8 => ?_) (fun h9 => ?_)
     ·refine kC 2 [0,2,3,4,5,6,27,28,29] ?_
      obtain ⟨hm, h10⟩ := asrt h8
      refine kI 30 encSt106_len hm ?_
      refine kC 5 [0,2,3,4,5,6,7] ?_
      refine kE ?_
      obtain rfl := oi h10
      exact kN [0, 2, 3, 4, 5, 6, 7]
     ·refine kC 8 [0,2,3,4,5,6,7] ?_
      refine kE ?_
      obtain rfl := oi h9
      exact kN [0, 2, 3, 4, 5, 6, 7]
    ·obtain ⟨s4, hy4, h11⟩ := bindS h6
     refine K.cutN (by kernel_rfl) (fun (s4 : Bool) => ([(0, lsv encSt106 2 x0), (2, .str ([] : List UInt8)), (3, .str s0.1), (4, .bool s0.2.1), (5, .int .i64 s0.2.2), (7, .bool s3), (8, .bool s4)], [])) s4 ?_ ?_
     ·refine kR ?_
      refine kC 2 [0,2,3,4,5,6,7,35,36] ?_
      obtain ⟨hm, h12⟩ := asrt hy4
      refine kI 37 encSt106_len hm ?_
      refine kC 4 [0,2,3,4,5,6,7,41] ?_
      refine kB 41 h12 (fun h13 => ?_) (fun h14 => ?_)
      ·refine kC 3 [0,2,3,4,5,7,8] ?_
       refine kE ?_
       obtain rfl := oi h13
       exact kN [0, 2, 3, 4, 5, 7, 8]
      ·refine kC 3 [0,2,3,4,5,7,8] ?_
       refine kE ?_
       obtain rfl := oi h14
       exact kN [0, 2, 3, 4, 5, 7, 8]
     ·obtain ⟨s1, hy5, h15⟩ := bindS h11
      refine K.cutN (by kernel_rfl) (fun (s1 : (List UInt8) × Bool) => ([(0, lsv encSt106 2 x0), (2, .str ([] : List UInt8)), (3, .str s1.1), (4, .bool s1.2), (5, .int .i64 s0.2.2), (7, .bool s3)], [])) s1 ?_ ?_
      ·obtain ⟨s6, hy6, h16⟩ := bindS hy5
       refine K.cutN (by kernel_rfl) (fun (s6 : Bool) => ([(0, lsv encSt106 2 x0), (2, .str ([] : List UInt8)), (3, .str s0.1), (4, .bool s0.2.1), (5, .int .i64 s0.2.2), (7, .bool s3), (8, .bool s4), (50, .bool s6)], [])) s6 ?_ ?_
       ·refine kR ?_
        refine kC 3 [0,2,3,4,5,7,8,46] ?_
        refine kB 46 hy6 (fun h17 => ?_) (fun h18 => ?_)
        ·refine kC 4 [0,2,3,4,5,7,8,50] ?_
         refine kE ?_
         obtain rfl := oi h17
         exact kN [0, 2, 3, 4, 5, 7, 8, 50]
        ·refine kC 4 [0,2,3,4,5,7,8,50] ?_
         refine kE ?_
         obtain rfl := oi h18
         exact kN [0, 2, 3, 4, 5, 7, 8, 50]
       ·refine kBJ 50 h16 (fun h19 => ?_) (fun h20 => ?_)
        ·refine kT ?_
         refine kSR ?_
         refine kC 1 [0,2,3,4,5,7,8,51] ?_
         obtain ⟨hm, h21⟩ := asrt h19
         refine kQ 52 (.str (s0.1 ++ ([39] : List UInt8))) [] (tr2 := []) hm ?_
         refine kC 1 [0,2,3,4,5,7,8] ?_
         refine kEN ?_
         refine kR ?_
         refine kC 2 [0,2,3,4,5,7] ?_
         refine kE ?_
         obtain rfl := oi h21
         exact kN [0, 2, 3, 4, 5, 7]
        ·refine kF ?_
         refine kK ?_
         obtain rfl := oi h20
         exact kN [0, 2, 3, 4, 5, 7]
      ·refine kSR ?_
       refine kC 2 [0,2,3,4,5,7,54,55] ?_
       obtain ⟨hm, h22⟩ := asrt h15
       refine kI 56 encSt106_len hm ?_
       refine kC 2 [0,2,3,4,5,7,58] ?_
       refine kEN ?_
       refine kb 2 ?_
       refine kSR ?_
       refine kC 2 [0,2,3,4,5,7,58,59] ?_
       refine kEN ?_
       refine kBJ 59 h22 (fun h23 => ?_) (fun h24 => ?_)
       ·refine kT ?_
        refine kSR ?_
        refine kC 3 [0,2,3,4,5,7,61,62,63] ?_
        obtain ⟨hm, h25⟩ := asrt h23
        refine kI 64 encSt106_len hm ?_
        refine kC 2 [0,2,3,4,5,7,61,66] ?_
        obtain ⟨y0, hy7, h26⟩ := bindS h25
        refine kA 67 (exergueref10_text_ok hy7) ?_
        obtain ⟨hm, h27⟩ := asrt h26
        refine kQ 68 (.str (s1.1 ++ y0)) [] (tr2 := []) hm ?_
        refine kC 1 [0,2,3,4,5,7] ?_
        refine kEN ?_
        refine kSR ?_
        refine kC 1 [0,2,3,4,5,69] ?_
        refine kEN ?_
        refine kBJ 69 h27 (fun h28 => ?_) (fun h29 => ?_)
        ·refine kT ?_
         refine kR ?_
         refine kC 1 [0,2,3,4,5,70] ?_
         obtain ⟨hm, h30⟩ := asrt h28
         refine kQ 71 (.str ((s1.1 ++ y0) ++ ([39] : List UInt8))) [] (tr2 := []) hm ?_
         refine RJ.seg 1 [0, 2, 3, 4, 5] (L2 := [(0, lsv encSt106 2 x0), (2, .str ([] : List UInt8)), (3, .str ((s1.1 ++ y0) ++ ([39] : List UInt8))), (4, .bool s1.2), (5, .int .i64 s0.2.2)]) (H2 := []) (by kernel_rfl) ?_
         refine kE ?_
         refine PJ.blockNormal ?_
         refine PJ.blockNormal ?_
         obtain rfl := oi h30
         exact kN [0, 2, 3, 4, 5]
        ·refine kF ?_
         refine kK ?_
         refine PJ.blockNormal ?_
         refine PJ.blockNormal ?_
         obtain rfl := oi h29
         exact kN [0, 2, 3, 4, 5]
       ·refine kF ?_
        refine kSR ?_
        refine kC 2 [0,2,3,4,5,58,72] ?_
        refine kEN ?_
        refine kBJ 72 h24 (fun h31 => ?_) (fun h32 => ?_)
        ·refine kT ?_
         refine kR ?_
         refine kC 1 [0,2,3,4,5,74] ?_
         obtain ⟨hm, h33⟩ := asrt h31
         refine kQ 75 (.str (s1.1 ++ ([45] : List UInt8))) [] (tr2 := []) hm ?_
         refine kC 1 [0,2,3,4,5] ?_
         refine kE ?_
         refine PJ.blockNormal ?_
         refine PJ.blockNormal ?_
         obtain rfl := oi h33
         exact kN [0, 2, 3, 4, 5]
        ·refine kF ?_
         refine kSR ?_
         refine kC 2 [0,2,3,4,5,58,76] ?_
         refine kEN ?_
         refine kBJ 76 h32 (fun h34 => ?_) (fun h35 => ?_)
         ·refine kT ?_
          refine kR ?_
          refine kC 1 [0,2,3,4,5,78] ?_
          obtain ⟨hm, h36⟩ := asrt h34
          refine kQ 79 (.str (s1.1 ++ ([43] : List UInt8))) [] (tr2 := []) hm ?_
          refine kC 1 [0,2,3,4,5] ?_
          refine kE ?_
          refine PJ.blockNormal ?_
          refine PJ.blockNormal ?_
          obtain rfl := oi h36
          exact kN [0, 2, 3, 4, 5]
         ·refine kF ?_
          refine kSR ?_
          refine kC 2 [0,2,3,4,5,58,80] ?_
          refine kEN ?_
          refine kBJ 80 h35 (fun h37 => ?_) (fun h38 => ?_)
          ·refine kT ?_
           refine kR ?_
           refine kC 1 [0,2,3,4,5,82] ?_
           obtain ⟨hm, h39⟩ := asrt h37
           refine kQ 83 (.str (s1.1 ++ ([37] : List UInt8))) [] (tr2 := []) hm ?_
           refine kC 1 [0,2,3,4,5] ?_
           refine kE ?_
           refine PJ.blockNormal ?_
           refine PJ.blockNormal ?_
           obtain rfl := oi h39
           exact kN [0, 2, 3, 4, 5]
          ·refine kF ?_
           refine kSR ?_
           refine kC 2 [0,2,3,4,5,84] ?_
           refine kEN ?_
           refine kBJ 84 h38 (fun h40 => ?_) (fun h41 => ?_)
           ·refine kT ?_
            refine kR ?_
            refine kC 1 [0,2,3,4,5,86] ?_
            obtain ⟨y1, hy8, h42⟩ := bindS h40
            refine kA 87 (exergueref10_text_ok hy8) ?_
            obtain ⟨hm, h43⟩ := asrt h42
            refine kQ 88 (.str (s1.1 ++ y1)) [] (tr2 := []) hm ?_
            refine RJ.seg 1 [0, 2, 3, 4, 5] (L2 := [(0, lsv encSt106 2 x0), (2, .str ([] : List UInt8)), (3, .str (s1.1 ++ y1)), (4, .bool s1.2), (5, .int .i64 s0.2.2)]) (H2 := []) (by kernel_rfl) ?_
            refine kE ?_
            refine PJ.blockNormal ?_
            refine PJ.blockNormal ?_
            obtain rfl := oi h43
            exact kN [0, 2, 3, 4, 5]
           ·refine kF ?_
            refine kK ?_
            refine PJ.blockNormal ?_
            refine PJ.blockNormal ?_
            obtain rfl := oi h41
            exact kN [0, 2, 3, 4, 5]
   ·refine kR ?_
    refine kC 3 [0,2,3,4,5] ?_
    refine kE ?_
    obtain rfl := oi h3
    exact kLN [0, 2, 3, 4, 5]
  ·refine kF ?_
   refine K.exit 0 (by kernel_rfl) ?_
   refine PJ.passExit ?_
   obtain rfl := oi h2
   refine PJ.loopOut (fun e => nomatch e) (fun he0 => ?_)
   have h44 := congrArg some he0
   refine PJ.blockOut ?_
   obtain rfl := oi h44
   exact kN [2, 3, 4]
 ·obtain ⟨s7, hy9, h45⟩ := bindS h0
  refine K.cutN (by kernel_rfl) (fun (s7 : (List UInt8)) => ([(2, .str ([] : List UInt8)), (3, .str s7)], [])) s7 ?_ ?_
  ·refine kSR ?_
   refine kC 1 [2,3,89] ?_
   refine kEN ?_
   refine kBJ 89 hy9 (fun h46 => ?_) (fun h47 => ?_)
   ·refine kT ?_
    refine kR ?_
    refine kC 1 [2,3,90] ?_
    obtain ⟨hm, h48⟩ := asrt h46
    refine kQ 91 (.str (s2.1 ++ ([39] : List UInt8))) [] (tr2 := []) hm ?_
    refine kC 1 [2,3] ?_
    refine kE ?_
    obtain rfl := oi h48
    exact kN [2, 3]
   ·refine kF ?_
    refine kK ?_
    obtain rfl := oi h47
    exact kN [2, 3]
  ·refine kSR ?_
   refine kC 2 [2] ?_
   refine kEN ?_
   refine kX ?_
   obtain rfl := oi h45
   exact kZ hFn hFH hFD
def exergueref10_times (x0 : List UInt8) (x1 : Int) : Option (List UInt8) :=
 (Option.bind (loopN (fun (s0 : (List UInt8) × Int) => (bif (decide (s0.2 < x1)) then (bif room (s0.1.length + x0.length) then (some (.inl ((s0.1 ++ x0), (IntKind.wrap .i64 (s0.2 + 1))))) else none) else (some (.inr s0.1)))) big (([] : List UInt8), 0)) fun (s1 : (List UInt8)) => (some s1))
theorem exergueref10_times_ok {x0 : List UInt8} {x1 : Int} {r : List UInt8} (h : exergueref10_times x0 x1 = some r) : SC Tryz.prog 112 [.str x0, .int .i64 x1] [] (.str r) [] := by
 refine kFn (fn := Tryz.f112) (fun F hFn hFH hFD => ?_)
 unfold exergueref10_times at h
 refine kSR ?_
 refine kC 1 [0,1,4] ?_
 refine kEN ?_
 refine kSR ?_
 refine kC 1 [0,1,4,5] ?_
 refine kEN ?_
 obtain ⟨s1, hy0, h0⟩ := bindS h
 refine K.cutN (by kernel_rfl) (fun (s1 : (List UInt8)) => ([(4, .str ([] : List UInt8)), (5, .str s1)], [])) s1 ?_ ?_
 ·refine kSR ?_
  refine kC 1 [0,1,4,5,6] ?_
  refine kEN ?_
  refine kb 0 ?_
  refine kl (fun (s0 : (List UInt8) × Int) => ([(0, .str x0), (1, .int .i64 x1), (4, .str ([] : List UInt8)), (5, .str s0.1), (6, .int .i64 s0.2)], [])) hy0 [0, 1, 4, 5, 6] (fun s0 x41 hs0 => ?_)
  refine kS ?_
  refine kSR ?_
  refine kC 3 [0,1,4,5,6,9] ?_
  refine kEN ?_
  refine kBJ 9 hs0 (fun h1 => ?_) (fun h2 => ?_)
  ·refine kT ?_
   refine kK ?_
   refine PJ.next ?_
   refine kS ?_
   refine kb 1 ?_
   refine kR ?_
   refine kC 2 [0,1,4,5,6,12,13] ?_
   obtain ⟨hm, h3⟩ := asrt h1
   refine kQ 14 (.str (s0.1 ++ x0)) [] (tr2 := []) hm ?_
   refine kC 1 [0,1,4,5,6] ?_
   refine kE ?_
   refine PJ.blockNormal ?_
   refine PJ.next ?_
   refine kR ?_
   refine kC 3 [0,1,4,5,6] ?_
   refine kE ?_
   obtain rfl := oi h3
   exact kLN [0, 1, 4, 5, 6]
  ·refine kF ?_
   refine K.exit 0 (by kernel_rfl) ?_
   refine PJ.passExit ?_
   obtain rfl := oi h2
   refine PJ.loopOut (fun e => nomatch e) (fun he0 => ?_)
   have h4 := congrArg some he0
   refine PJ.blockOut ?_
   obtain rfl := oi h4
   exact kN [4, 5]
 ·refine kSR ?_
  refine kC 2 [4] ?_
  refine kEN ?_
  refine kX ?_
  obtain rfl := oi h0
  exact kZ hFn hFH hFD
def exergueref10_Number (x0 : St25) : Option (List UInt8) :=
 (Option.bind (loopN (fun (s1 : (List UInt8) × Int) => (bif (decide (s1.2 < (IntKind.wrap .i64 (x0.Hash_ + x0.MinInt_)))) then (Option.bind (Option.bind (Option.bind (bif (decide (x0.G1_ > 0)) then (bif (decide (s1.2 = x0.G1_)) then (some true) else (bif (decide (s1.2 > x0.G1_)) then (bif (decide (x0.G2_ > 0)) then (bif nz x0.G2_ then (some ((decide (((Int.tmod (IntKind.wrap .i64 (s1.2 - x0.G1_)) x0.G2_)) = 0)))) else none) else (some false)) else (some false))) else (some false)) fun (s5 : Bool) => (bif s5 then (bif room (([44] : List UInt8).length + s1.1.length) then (some (([44] : List UInt8) ++ s1.1)) else none) else (some s1.1))) fun (s3 : (List UInt8)) => (bif (decide (s1.2 < x0.MinInt_)) then (bif room (([48] : List UInt8).length + s3.length) then (some (([48] : List UInt8) ++ s3)) else none) else (bif room (([35] : List UInt8).length + s3.length) then (some (([35] : List UInt8) ++ s3)) else none))) fun (s6 : (List UInt8)) => (some (.inl (s6, (IntKind.wrap .i64 (s1.2 + 1)))))) else (some (.inr s1.1)))) big (([] : List UInt8), 0)) fun (s0 : (List UInt8)) => (Option.bind (exergueref10_times ([64] : List UInt8) x0.MinSig_) fun y0 => (Option.bind (exergueref10_times ([35] : List UInt8) (IntKind.wrap .i64 (x0.MaxSig_ - x0.MinSig_))) fun y1 => (bif room (y0.length + y1.length) then (bif room ((y0 ++ y1).length + s0.length) then (Option.bind (bif (decide (x0.MaxFrac_ > 0)) then (bif room (((y0 ++ y1) ++ s0).length + ([46] : List UInt8).length) then (Option.bind (exergueref10_times ([48] : List UInt8) x0.MinFrac_) fun y2 => (bif room (((((y0 ++ y1) ++ s0) ++ ([46] : List UInt8))).length + y2.length) then (Option.bind (exergueref10_times ([35] : List UInt8) (IntKind.wrap .i64 (x0.MaxFrac_ - x0.MinFrac_))) fun y3 => (bif room (((((((y0 ++ y1) ++ s0) ++ ([46] : List UInt8))) ++ y2)).length + y3.length) then (some ((((((((y0 ++ y1) ++ s0) ++ ([46] : List UInt8))) ++ y2)) ++ y3))) else none)) else none)) else none) else (some ((y0 ++ y1) ++ s0))) fun (s2 : (List UInt8)) => (Option.bind (bif (decide (x0.Exp_ > 0)) then (bif room (s2.length + ([69] : List UInt8).length) then (Option.bind (bif x0.ExpPlus_ then (bif room ((s2 ++ ([69] : List UInt8)).length + ([43] : List UInt8).length) then (some (((s2 ++ ([69] : List UInt8)) ++ ([43] : List UInt8)))) else none) else (some (s2 ++ ([69] : List UInt8)))) fun (s4 : (List UInt8)) => (Option.bind (exergueref10_times ([48] : List UInt8) x0.Exp_) fun y4 => (bif room (s4.length + y4.length) then (some (s4 ++ y4)) else none))) else none) else (some s2)) fun (s7 : (List UInt8)) => (some s7))) else none) else none))))
theorem exergueref10_Number_ok {x0 : St25} {r : List UInt8} (h : exergueref10_Number x0 = some r) : SC Tryz.prog 87 [.agg (encSt25 x0)] [] (.str r) [] := by
 refine kFn (fn := Tryz.f87) (fun F hFn hFH hFD => ?_)
 unfold exergueref10_Number at h
 refine kSR ?_
 refine kC 2 [1,2] ?_
 refine kEN ?_
 refine kSR ?_
 refine kC 1 [1,2,3] ?_
 refine kEN ?_
 obtain ⟨s0, hy0, h0⟩ := bindS h
 refine K.cutN (by kernel_rfl) (fun (s0 : (List UInt8)) => ([(1, .ptr 0 0), (2, .str ([] : List UInt8)), (3, .str s0)], [.box (encSt25 x0)])) s0 ?_ ?_
 ·refine kSR ?_
  refine kC 1 [1,2,3,4] ?_
  refine kEN ?_
  refine kb 0 ?_
  refine kl (fun (s1 : (List UInt8) × Int) => ([(1, .ptr 0 0), (2, .str ([] : List UInt8)), (3, .str s1.1), (4, .int .i64 s1.2)], [.box (encSt25 x0)])) hy0 [1, 2, 3, 4] (fun s1 x861 hs0 => ?_)
  refine kS ?_
  refine kSR ?_
  refine kC 7 [1,2,3,4,11] ?_
  refine kEN ?_
  refine kBJ 11 hs0 (fun h1 => ?_) (fun h2 => ?_)
  ·refine kT ?_
   refine kK ?_
   refine PJ.next ?_
   obtain ⟨s6, hy1, h3⟩ := bindS h1
   refine K.cutN (by kernel_rfl) (fun (s6 : (List UInt8)) => ([(1, .ptr 0 0), (2, .str ([] : List UInt8)), (3, .str s6), (4, .int .i64 s1.2)], [.box (encSt25 x0)])) s6 ?_ ?_
   ·refine kb 1 ?_
    obtain ⟨s3, hy2, h4⟩ := bindS hy1
    refine K.cutN (by kernel_rfl) (fun (s3 : (List UInt8)) => ([(1, .ptr 0 0), (2, .str ([] : List UInt8)), (3, .str s3), (4, .int .i64 s1.2)], [.box (encSt25 x0)])) s3 ?_ ?_
    ·obtain ⟨s5, hy3, h5⟩ := bindS hy2
     refine K.cutN (by kernel_rfl) (fun (s5 : Bool) => ([(1, .ptr 0 0), (2, .str ([] : List UInt8)), (3, .str s1.1), (4, .int .i64 s1.2), (43, .bool s5)], [.box (encSt25 x0)])) s5 ?_ ?_
     ·refine kR ?_
      refine kC 4 [1,2,3,4,17] ?_
      refine kB 17 hy3 (fun h6 => ?_) (fun h7 => ?_)
      ·refine kC 5 [1,2,3,4,17,22] ?_
       refine kB 22 h6 (fun h8 => ?_) (fun h9 => ?_)
       ·refine kC 21 [1,2,3,4,43] ?_
        refine kE ?_
        obtain rfl := oi h8
        exact kN [1, 2, 3, 4, 43]
       ·refine kC 5 [1,2,3,4,17,22,27] ?_
        refine kB 27 h9 (fun h10 => ?_) (fun h11 => ?_)
        ·refine kC 5 [1,2,3,4,17,22,32] ?_
         refine kB 32 h10 (fun h12 => ?_) (fun h13 => ?_)
         ·refine kC 6 [1,2,3,4,17,22,32,36,38] ?_
          obtain ⟨hm, h14⟩ := asrt h12
          refine kQ 39 (.int .i64 (Int.tmod (IntKind.wrap .i64 (s1.2 - x0.G1_)) x0.G2_)) [] (tr2 := []) hm ?_
          refine kC 4 [1,2,3,4,43] ?_
          refine kE ?_
          obtain rfl := oi h14
          exact kN [1, 2, 3, 4, 43]
         ·refine kC 11 [1,2,3,4,43] ?_
          refine kE ?_
          obtain rfl := oi h13
          exact kN [1, 2, 3, 4, 43]
        ·refine kC 16 [1,2,3,4,43] ?_
         refine kE ?_
         obtain rfl := oi h11
         exact kN [1, 2, 3, 4, 43]
      ·refine kC 26 [1,2,3,4,43] ?_
       refine kE ?_
       obtain rfl := oi h7
       exact kN [1, 2, 3, 4, 43]
     ·refine kBJ 43 h5 (fun h15 => ?_) (fun h16 => ?_)
      ·refine kT ?_
       refine kR ?_
       refine kC 1 [1,2,3,4,44] ?_
       obtain ⟨hm, h17⟩ := asrt h15
       refine kQ 45 (.str (([44] : List UInt8) ++ s1.1)) [] (tr2 := []) hm ?_
       refine kC 1 [1,2,3,4] ?_
       refine kE ?_
       obtain rfl := oi h17
       exact kN [1, 2, 3, 4]
      ·refine kF ?_
       refine kK ?_
       obtain rfl := oi h16
       exact kN [1, 2, 3, 4]
    ·refine kSR ?_
     refine kC 4 [1,2,3,4,49] ?_
     refine kEN ?_
     refine kBJ 49 h4 (fun h18 => ?_) (fun h19 => ?_)
     ·refine kT ?_
      refine kR ?_
      refine kC 1 [1,2,3,4,50] ?_
      obtain ⟨hm, h20⟩ := asrt h18
      refine kQ 51 (.str (([48] : List UInt8) ++ s3)) [] (tr2 := []) hm ?_
      refine kC 1 [1,2,3,4] ?_
      refine kE ?_
      refine PJ.blockNormal ?_
      obtain rfl := oi h20
      exact kN [1, 2, 3, 4]
     ·refine kF ?_
      refine kR ?_
      refine kC 1 [1,2,3,4,52] ?_
      obtain ⟨hm, h21⟩ := asrt h19
      refine kQ 53 (.str (([35] : List UInt8) ++ s3)) [] (tr2 := []) hm ?_
      refine kC 1 [1,2,3,4] ?_
      refine kE ?_
      refine PJ.blockNormal ?_
      obtain rfl := oi h21
      exact kN [1, 2, 3, 4]
   ·refine kR ?_
    refine kC 3 [1,2,3,4] ?_
    refine kE ?_
    obtain rfl := oi h3
    exact kLN [1, 2, 3, 4]
  ·refine kF ?_
   refine K.exit 0 (by kernel_rfl) ?_
   refine PJ.passExit ?_
   obtain rfl := oi h2
   refine PJ.loopOut (fun e => nomatch e) (fun he0 => ?_)
   have h22 := congrArg some he0
   refine PJ.blockOut ?_
   obtain rfl := oi h22
   exact kN [1, 2, 3]
 ·refine kS ?_
  refine J.keep [1, 2, 3] (L2 := [(1, .ptr 0 0), (2, .str ([] : List UInt8)), (3, .str s0)]) (by kernel_rfl) ?_
  refine K.draw (by kernel_rfl) (by kernel_rfl) (by kernel_rfl) (H2 := [.box (encSt25 x0), .res, .res]) (by kernel_rfl) (n := 1) (by kernel_rfl) ?_
  refine kD 2 ?_
  obtain ⟨y0, hy4, h23⟩ := bindS h0
  refine RJ.call0 (d := (some 56)) (f := 112) (args := [.str ([64] : List UInt8), .int .i64 x0.MinSig_]) (v := .str y0) (tr2 := [([], []), ([0, 1], []), ([], [2, 3])]) (by kernel_rfl) (by kernel_rfl) (.cons (Le.refl _) (.cons (Le.refl _) .nil)) (exergueref10_times_ok hy4) (by kernel_rfl) ?_
  refine kD 5 ?_
  obtain ⟨y1, hy5, h24⟩ := bindS h23
  refine RJ.call0 (d := (some 62)) (f := 112) (args := [.str ([35] : List UInt8), .int .i64 (IntKind.wrap .i64 (x0.MaxSig_ - x0.MinSig_))]) (v := .str y1) (tr2 := [([], []), ([0, 1], []), ([], [2, 3]), ([], []), ([0, 1], []), ([], []), ([0, 1], []), ([], []), ([], [4, 5])]) (by kernel_rfl) (by kernel_rfl) (.cons (Le.refl _) (.cons (Le.refl _) .nil)) (exergueref10_times_ok hy5) (by kernel_rfl) ?_
  obtain ⟨hm, h25⟩ := asrt h24
  refine kQ 63 (.str (y0 ++ y1)) [] (tr2 := [([], []), ([0, 1], []), ([], [2, 3]), ([], []), ([0, 1], []), ([], []), ([0, 1], []), ([], []), ([], [4, 5]), ([], [])]) hm ?_
  refine kD 1 ?_
  obtain ⟨hm, h26⟩ := asrt h25
  refine kQ 65 (.str ((y0 ++ y1) ++ s0)) [] (tr2 := [([], []), ([0, 1], []), ([], [2, 3]), ([], []), ([0, 1], []), ([], []), ([0, 1], []), ([], []), ([], [4, 5]), ([], []), ([], []), ([], [])]) hm ?_
  refine kD 1 ?_
  refine kEN ?_
  obtain ⟨s2, hy6, h27⟩ := bindS h26
  refine K.cutN (by kernel_rfl) (fun (s2 : (List UInt8)) => ([(1, .ptr 0 0), (2, .str ([] : List UInt8)), (3, .str s2)], [.box (encSt25 x0)])) s2 ?_ ?_
  ·refine kSR ?_
   refine kC 3 [1,2,3,68] ?_
   refine kEN ?_
   refine kBJ 68 hy6 (fun h28 => ?_) (fun h29 => ?_)
   ·refine kT ?_
    refine J.keep [1, 2, 3] (L2 := [(1, .ptr 0 0), (2, .str ([] : List UInt8)), (3, .str ((y0 ++ y1) ++ s0))]) (by kernel_rfl) ?_
    refine K.draw (by kernel_rfl) (by kernel_rfl) (by kernel_rfl) (H2 := [.box (encSt25 x0), .res, .res, .res, .res]) (by kernel_rfl) (n := 3) (by kernel_rfl) ?_
    refine kD 1 ?_
    obtain ⟨hm, h30⟩ := asrt h28
    refine kQ 70 (.str (((y0 ++ y1) ++ s0) ++ ([46] : List UInt8))) [] (tr2 := [([], []), ([], [])]) hm ?_
    refine kD 2 ?_
    obtain ⟨y2, hy7, h31⟩ := bindS h30
    refine RJ.call0 (d := (some 73)) (f := 112) (args := [.str ([48] : List UInt8), .int .i64 x0.MinFrac_]) (v := .str y2) (tr2 := [([], []), ([], []), ([], []), ([0, 1], []), ([], [6, 7])]) (by kernel_rfl) (by kernel_rfl) (.cons (Le.refl _) (.cons (Le.refl _) .nil)) (exergueref10_times_ok hy7) (by kernel_rfl) ?_
    obtain ⟨hm, h32⟩ := asrt h31
    refine kQ 74 (.str (((((y0 ++ y1) ++ s0) ++ ([46] : List UInt8))) ++ y2)) [] (tr2 := [([], []), ([], []), ([], []), ([0, 1], []), ([], [6, 7]), ([], [])]) hm ?_
    refine kD 5 ?_
    obtain ⟨y3, hy8, h33⟩ := bindS h32
    refine RJ.call0 (d := (some 80)) (f := 112) (args := [.str ([35] : List UInt8), .int .i64 (IntKind.wrap .i64 (x0.MaxFrac_ - x0.MinFrac_))]) (v := .str y3) (tr2 := [([], []), ([], []), ([], []), ([0, 1], []), ([], [6, 7]), ([], []), ([], []), ([0, 1], []), ([], []), ([0, 1], []), ([], []), ([], [8, 9])]) (by kernel_rfl) (by kernel_rfl) (.cons (Le.refl _) (.cons (Le.refl _) .nil)) (exergueref10_times_ok hy8) (by kernel_rfl) ?_
    obtain ⟨hm, h34⟩ := asrt h33
    refine kQ 81 (.str (((((((y0 ++ y1) ++ s0) ++ ([46] : List UInt8))) ++ y2)) ++ y3)) [] (tr2 := [([], []), ([], []), ([], []), ([0, 1], []), ([], [6, 7]), ([], []), ([], []), ([0, 1], []), ([], []), ([0, 1], []), ([], []), ([], [8, 9]), ([], [])]) hm ?_
    refine RJ.segD 1 (tr2 := [([], []), ([], []), ([], []), ([0, 1], []), ([], [6, 7]), ([], []), ([], []), ([0, 1], []), ([], []), ([0, 1], []), ([], []), ([], [8, 9]), ([], []), ([], [])]) (L2 := [(3, .str ((((((((y0 ++ y1) ++ s0) ++ ([46] : List UInt8))) ++ y2)) ++ y3))), (81, .str ((((((((y0 ++ y1) ++ s0) ++ ([46] : List UInt8))) ++ y2)) ++ y3))), (80, .str y3), (79, .int .i64 (IntKind.wrap .i64 (x0.MaxFrac_ - x0.MinFrac_))), (78, .int .i64 x0.MinFrac_), (77, .ptr 0 7), (76, .int .i64 x0.MaxFrac_), (75, .ptr 0 8), (74, .str ((((((y0 ++ y1) ++ s0) ++ ([46] : List UInt8))) ++ y2))), (73, .str y2), (72, .int .i64 x0.MinFrac_), (71, .ptr 0 7), (70, .str ((((y0 ++ y1) ++ s0) ++ ([46] : List UInt8)))), (69, .str ((y0 ++ y1) ++ s0)), (1, .ptr 0 0), (2, .str ([] : List UInt8)), (3, .str ((y0 ++ y1) ++ s0))]) (H2 := [.box (encSt25 x0), .res, .res, .res, .res]) (by kernel_rfl) ?_
    refine kE ?_
    obtain rfl := oi h34
    refine kW (L2 := [(1, .ptr 0 0), (2, .str ([] : List UInt8)), (3, .str ((((((((y0 ++ y1) ++ s0) ++ ([46] : List UInt8))) ++ y2)) ++ y3)))]) (H2 := [.box (encSt25 x0)]) hFH hFD [0] ?_
    exact kN [1, 2, 3]
   ·refine kF ?_
    refine kK ?_
    obtain rfl := oi h29
    refine kW (L2 := [(1, .ptr 0 0), (2, .str ([] : List UInt8)), (3, .str ((y0 ++ y1) ++ s0))]) (H2 := [.box (encSt25 x0)]) hFH hFD [0] ?_
    exact kN [1, 2, 3]
  ·obtain ⟨s7, hy9, h35⟩ := bindS h27
   refine K.cutN (by kernel_rfl) (fun (s7 : (List UInt8)) => ([(2, .str ([] : List UInt8)), (3, .str s7)], [])) s7 ?_ ?_
   ·refine kSR ?_
    refine kC 3 [1,2,3,84] ?_
    refine kEN ?_
    refine kBJ 84 hy9 (fun h36 => ?_) (fun h37 => ?_)
    ·refine kT ?_
     refine kSR ?_
     refine kC 1 [1,2,3,85] ?_
     obtain ⟨hm, h38⟩ := asrt h36
     refine kQ 86 (.str (s2 ++ ([69] : List UInt8))) [] (tr2 := []) hm ?_
     refine kC 1 [1,2,3] ?_
     refine kEN ?_
     obtain ⟨s4, hy10, h39⟩ := bindS h38
     refine K.cutN (by kernel_rfl) (fun (s4 : (List UInt8)) => ([(1, .ptr 0 0), (2, .str ([] : List UInt8)), (3, .str s4)], [.box (encSt25 x0)])) s4 ?_ ?_
     ·refine kSR ?_
      refine kC 2 [1,2,3,88] ?_
      refine kEN ?_
      refine kBJ 88 hy10 (fun h40 => ?_) (fun h41 => ?_)
      ·refine kT ?_
       refine kR ?_
       refine kC 1 [1,2,3,89] ?_
       obtain ⟨hm, h42⟩ := asrt h40
       refine kQ 90 (.str ((s2 ++ ([69] : List UInt8)) ++ ([43] : List UInt8))) [] (tr2 := []) hm ?_
       refine kC 1 [1,2,3] ?_
       refine kE ?_
       obtain rfl := oi h42
       exact kN [1, 2, 3]
      ·refine kF ?_
       refine kK ?_
       obtain rfl := oi h41
       exact kN [1, 2, 3]
     ·refine kR ?_
      refine kC 3 [2,3,91,93] ?_
      obtain ⟨y4, hy11, h43⟩ := bindS h39
      refine kA 94 (exergueref10_times_ok hy11) ?_
      obtain ⟨hm, h44⟩ := asrt h43
      refine kQ 95 (.str (s4 ++ y4)) [] (tr2 := []) hm ?_
      refine kC 1 [2,3] ?_
      refine kE ?_
      obtain rfl := oi h44
      refine kW (L2 := [(2, .str ([] : List UInt8)), (3, .str (s4 ++ y4))]) (H2 := []) hFH hFD [] ?_
      exact kN [2, 3]
    ·refine kF ?_
     refine kK ?_
     obtain rfl := oi h37
     refine kW (L2 := [(2, .str ([] : List UInt8)), (3, .str s2)]) (H2 := []) hFH hFD [] ?_
     exact kN [2, 3]
   ·refine kSR ?_
    refine kC 2 [2] ?_
    refine kEN ?_
    refine kX ?_
    obtain rfl := oi h35
    exact kZ hFn hFH hFD
def exergueref10_Text (x0 : St25) : Option (List UInt8) :=
 (Option.bind (exergueref10_padded x0 1) fun y0 => (Option.bind (exergueref10_written x0.Pre_) fun y1 => (bif room (y0.length + y1.length) then (Option.bind (exergueref10_padded x0 2) fun y2 => (bif room ((y0 ++ y1).length + y2.length) then (Option.bind (exergueref10_Number x0) fun y3 => (bif room (((y0 ++ y1) ++ y2).length + y3.length) then (Option.bind (exergueref10_padded x0 3) fun y4 => (bif room (((((y0 ++ y1) ++ y2) ++ y3)).length + y4.length) then (Option.bind (exergueref10_written x0.Suf_) fun y5 => (bif room (((((((y0 ++ y1) ++ y2) ++ y3)) ++ y4)).length + y5.length) then (Option.bind (exergueref10_padded x0 4) fun y6 => (bif room (((((((((y0 ++ y1) ++ y2) ++ y3)) ++ y4)) ++ y5)).length + y6.length) then (Option.bind (bif x0.Neg_ then (bif room (((((((((((y0 ++ y1) ++ y2) ++ y3)) ++ y4)) ++ y5)) ++ y6)).length + ([59] : List UInt8).length) then (Option.bind (exergueref10_written x0.NPre_) fun y7 => (bif room (((((((((((((y0 ++ y1) ++ y2) ++ y3)) ++ y4)) ++ y5)) ++ y6)) ++ ([59] : List UInt8))).length + y7.length) then (Option.bind (exergueref10_Number x0) fun y8 => (bif room (((((((((((((((y0 ++ y1) ++ y2) ++ y3)) ++ y4)) ++ y5)) ++ y6)) ++ ([59] : List UInt8))) ++ y7)).length + y8.length) then (Option.bind (exergueref10_written x0.NSuf_) fun y9 => (bif room (((((((((((((((((y0 ++ y1) ++ y2) ++ y3)) ++ y4)) ++ y5)) ++ y6)) ++ ([59] : List UInt8))) ++ y7)) ++ y8)).length + y9.length) then (some ((((((((((((((((((y0 ++ y1) ++ y2) ++ y3)) ++ y4)) ++ y5)) ++ y6)) ++ ([59] : List UInt8))) ++ y7)) ++ y8)) ++ y9))) else none)) else none)) else none)) else none) else (some ((((((((((y0 ++ y1) ++ y2) ++ y3)) ++ y4)) ++ y5)) ++ y6)))) fun (s0 : (List UInt8)) => (some s0)) else none)) else none)) else none)) else none)) else none)) else none)))
theorem exergueref10_Text_ok {x0 : St25} {r : List UInt8} (h : exergueref10_Text x0 = some r) : SC Tryz.prog 58 [.agg (encSt25 x0)] [] (.str r) [] := by
 refine kFn (fn := Tryz.f58) (fun F hFn hFH hFD => ?_)
 unfold exergueref10_Text at h
 refine kSR ?_
 refine kC 2 [1,2] ?_
 refine kEN ?_
 refine kS ?_
 refine J.keep [1, 2] (L2 := [(1, .ptr 0 0), (2, .str ([] : List UInt8))]) (by kernel_rfl) ?_
 refine K.draw (by kernel_rfl) (by kernel_rfl) (by kernel_rfl) (H2 := [.box (encSt25 x0), .res, .res, .res, .res, .res, .res, .res]) (by kernel_rfl) (n := 1) (by kernel_rfl) ?_
 refine kD 1 ?_
 obtain ⟨y0, hy0, h0⟩ := bindS h
 refine RJ.call0 (d := (some 5)) (f := 85) (args := [.agg (encSt25 x0), .int .i64 1]) (v := .str y0) (tr2 := [([0, 1], []), ([], [2, 3])]) (by kernel_rfl) (by kernel_rfl) (.cons (Le.refl _) (.cons (Le.refl _) .nil)) (exergueref10_padded_ok hy0) (by kernel_rfl) ?_
 refine kD 2 ?_
 obtain ⟨y1, hy1, h1⟩ := bindS h0
 refine RJ.call0 (d := (some 8)) (f := 86) (args := [lsv encSt106 2 x0.Pre_]) (v := .str y1) (tr2 := [([0, 1], []), ([], [2, 3]), ([], []), ([0, 1], []), ([], [4, 5])]) (by kernel_rfl) (by kernel_rfl) (.cons (Le.refl _) .nil) (exergueref10_written_ok hy1) (by kernel_rfl) ?_
 obtain ⟨hm, h2⟩ := asrt h1
 refine kQ 9 (.str (y0 ++ y1)) [] (tr2 := [([0, 1], []), ([], [2, 3]), ([], []), ([0, 1], []), ([], [4, 5]), ([], [])]) hm ?_
 refine kD 1 ?_
 obtain ⟨y2, hy2, h3⟩ := bindS h2
 refine RJ.call0 (d := (some 11)) (f := 85) (args := [.agg (encSt25 x0), .int .i64 2]) (v := .str y2) (tr2 := [([0, 1], []), ([], [2, 3]), ([], []), ([0, 1], []), ([], [4, 5]), ([], []), ([0, 1], []), ([], [6, 7])]) (by kernel_rfl) (by kernel_rfl) (.cons (Le.refl _) (.cons (Le.refl _) .nil)) (exergueref10_padded_ok hy2) (by kernel_rfl) ?_
 obtain ⟨hm, h4⟩ := asrt h3
 refine kQ 12 (.str ((y0 ++ y1) ++ y2)) [] (tr2 := [([0, 1], []), ([], [2, 3]), ([], []), ([0, 1], []), ([], [4, 5]), ([], []), ([0, 1], []), ([], [6, 7]), ([], [])]) hm ?_
 refine kD 1 ?_
 obtain ⟨y3, hy3, h5⟩ := bindS h4
 refine RJ.call0 (d := (some 14)) (f := 87) (args := [.agg (encSt25 x0)]) (v := .str y3) (tr2 := [([0, 1], []), ([], [2, 3]), ([], []), ([0, 1], []), ([], [4, 5]), ([], []), ([0, 1], []), ([], [6, 7]), ([], []), ([0, 1], []), ([], [8, 9])]) (by kernel_rfl) (by kernel_rfl) (.cons (Le.refl _) .nil) (exergueref10_Number_ok hy3) (by kernel_rfl) ?_
 obtain ⟨hm, h6⟩ := asrt h5
 refine kQ 15 (.str (((y0 ++ y1) ++ y2) ++ y3)) [] (tr2 := [([0, 1], []), ([], [2, 3]), ([], []), ([0, 1], []), ([], [4, 5]), ([], []), ([0, 1], []), ([], [6, 7]), ([], []), ([0, 1], []), ([], [8, 9]), ([], [])]) hm ?_
 refine kD 1 ?_
 obtain ⟨y4, hy4, h7⟩ := bindS h6
 refine RJ.call0 (d := (some 17)) (f := 85) (args := [.agg (encSt25 x0), .int .i64 3]) (v := .str y4) (tr2 := [([0, 1], []), ([], [2, 3]), ([], []), ([0, 1], []), ([], [4, 5]), ([], []), ([0, 1], []), ([], [6, 7]), ([], []), ([0, 1], []), ([], [8, 9]), ([], []), ([0, 1], []), ([], [10, 11])]) (by kernel_rfl) (by kernel_rfl) (.cons (Le.refl _) (.cons (Le.refl _) .nil)) (exergueref10_padded_ok hy4) (by kernel_rfl) ?_
 obtain ⟨hm, h8⟩ := asrt h7
 refine kQ 18 (.str (((((y0 ++ y1) ++ y2) ++ y3)) ++ y4)) [] (tr2 := [([0, 1], []), ([], [2, 3]), ([], []), ([0, 1], []), ([], [4, 5]), ([], []), ([0, 1], []), ([], [6, 7]), ([], []), ([0, 1], []), ([], [8, 9]), ([], []), ([0, 1], []), ([], [10, 11]), ([], [])]) hm ?_
 refine kD 2 ?_
 obtain ⟨y5, hy5, h9⟩ := bindS h8
 refine RJ.call0 (d := (some 21)) (f := 86) (args := [lsv encSt106 2 x0.Suf_]) (v := .str y5) (tr2 := [([0, 1], []), ([], [2, 3]), ([], []), ([0, 1], []), ([], [4, 5]), ([], []), ([0, 1], []), ([], [6, 7]), ([], []), ([0, 1], []), ([], [8, 9]), ([], []), ([0, 1], []), ([], [10, 11]), ([], []), ([], []), ([0, 1], []), ([], [12, 13])]) (by kernel_rfl) (by kernel_rfl) (.cons (Le.refl _) .nil) (exergueref10_written_ok hy5) (by kernel_rfl) ?_
 obtain ⟨hm, h10⟩ := asrt h9
 refine kQ 22 (.str (((((((y0 ++ y1) ++ y2) ++ y3)) ++ y4)) ++ y5)) [] (tr2 := [([0, 1], []), ([], [2, 3]), ([], []), ([0, 1], []), ([], [4, 5]), ([], []), ([0, 1], []), ([], [6, 7]), ([], []), ([0, 1], []), ([], [8, 9]), ([], []), ([0, 1], []), ([], [10, 11]), ([], []), ([], []), ([0, 1], []), ([], [12, 13]), ([], [])]) hm ?_
 refine kD 1 ?_
 obtain ⟨y6, hy6, h11⟩ := bindS h10
 refine RJ.call0 (d := (some 24)) (f := 85) (args := [.agg (encSt25 x0), .int .i64 4]) (v := .str y6) (tr2 := [([0, 1], []), ([], [2, 3]), ([], []), ([0, 1], []), ([], [4, 5]), ([], []), ([0, 1], []), ([], [6, 7]), ([], []), ([0, 1], []), ([], [8, 9]), ([], []), ([0, 1], []), ([], [10, 11]), ([], []), ([], []), ([0, 1], []), ([], [12, 13]), ([], []), ([0, 1], []), ([], [14, 15])]) (by kernel_rfl) (by kernel_rfl) (.cons (Le.refl _) (.cons (Le.refl _) .nil)) (exergueref10_padded_ok hy6) (by kernel_rfl) ?_
 obtain ⟨hm, h12⟩ := asrt h11
 refine kQ 25 (.str (((((((((y0 ++ y1) ++ y2) ++ y3)) ++ y4)) ++ y5)) ++ y6)) [] (tr2 := [([0, 1], []), ([], [2, 3]), ([], []), ([0, 1], []), ([], [4, 5]), ([], []), ([0, 1], []), ([], [6, 7]), ([], []), ([0, 1], []), ([], [8, 9]), ([], []), ([0, 1], []), ([], [10, 11]), ([], []), ([], []), ([0, 1], []), ([], [12, 13]), ([], []), ([0, 1], []), ([], [14, 15]), ([], [])]) hm ?_
 refine RJ.segD 1 (tr2 := [([0, 1], []), ([], [2, 3]), ([], []), ([0, 1], []), ([], [4, 5]), ([], []), ([0, 1], []), ([], [6, 7]), ([], []), ([0, 1], []), ([], [8, 9]), ([], []), ([0, 1], []), ([], [10, 11]), ([], []), ([], []), ([0, 1], []), ([], [12, 13]), ([], []), ([0, 1], []), ([], [14, 15]), ([], []), ([], [])]) (L2 := [(3, .str ((((((((((y0 ++ y1) ++ y2) ++ y3)) ++ y4)) ++ y5)) ++ y6))), (25, .str ((((((((((y0 ++ y1) ++ y2) ++ y3)) ++ y4)) ++ y5)) ++ y6))), (24, .str y6), (23, .agg (encSt25 x0)), (22, .str ((((((((y0 ++ y1) ++ y2) ++ y3)) ++ y4)) ++ y5))), (21, .str y5), (20, lsv encSt106 2 x0.Suf_), (19, .ptr 0 1), (18, .str ((((((y0 ++ y1) ++ y2) ++ y3)) ++ y4))), (17, .str y4), (16, .agg (encSt25 x0)), (15, .str ((((y0 ++ y1) ++ y2) ++ y3))), (14, .str y3), (13, .agg (encSt25 x0)), (12, .str ((y0 ++ y1) ++ y2)), (11, .str y2), (10, .agg (encSt25 x0)), (9, .str (y0 ++ y1)), (8, .str y1), (7, lsv encSt106 2 x0.Pre_), (6, .ptr 0 0), (5, .str y0), (4, .agg (encSt25 x0)), (1, .ptr 0 0), (2, .str ([] : List UInt8))]) (H2 := [.box (encSt25 x0), .res, .res, .res, .res, .res, .res, .res]) (by kernel_rfl) ?_
 refine kEN ?_
 obtain ⟨s0, hy7, h13⟩ := bindS h12
 refine K.cutN (by kernel_rfl) (fun (s0 : (List UInt8)) => ([(2, .str ([] : List UInt8)), (3, .str s0)], [])) s0 ?_ ?_
 ·refine kSR ?_
  refine kC 2 [1,2,3,27] ?_
  refine kEN ?_
  refine kBJ 27 hy7 (fun h14 => ?_) (fun h15 => ?_)
  ·refine kT ?_
   refine J.keep [1, 2, 3] (L2 := [(1, .ptr 0 0), (2, .str ([] : List UInt8)), (3, .str ((((((((((y0 ++ y1) ++ y2) ++ y3)) ++ y4)) ++ y5)) ++ y6)))]) (by kernel_rfl) ?_
   refine K.draw (by kernel_rfl) (by kernel_rfl) (by kernel_rfl) (H2 := [.box (encSt25 x0), .res, .res, .res, .res, .res, .res, .res, .res, .res, .res]) (by kernel_rfl) (n := 8) (by kernel_rfl) ?_
   refine kD 1 ?_
   obtain ⟨hm, h16⟩ := asrt h14
   refine kQ 29 (.str (((((((((((y0 ++ y1) ++ y2) ++ y3)) ++ y4)) ++ y5)) ++ y6)) ++ ([59] : List UInt8))) [] (tr2 := [([], []), ([], [])]) hm ?_
   refine kD 2 ?_
   obtain ⟨y7, hy8, h17⟩ := bindS h16
   refine RJ.call0 (d := (some 32)) (f := 86) (args := [lsv encSt106 2 x0.NPre_]) (v := .str y7) (tr2 := [([], []), ([], []), ([], []), ([0, 1], []), ([], [16, 17])]) (by kernel_rfl) (by kernel_rfl) (.cons (Le.refl _) .nil) (exergueref10_written_ok hy8) (by kernel_rfl) ?_
   obtain ⟨hm, h18⟩ := asrt h17
   refine kQ 33 (.str (((((((((((((y0 ++ y1) ++ y2) ++ y3)) ++ y4)) ++ y5)) ++ y6)) ++ ([59] : List UInt8))) ++ y7)) [] (tr2 := [([], []), ([], []), ([], []), ([0, 1], []), ([], [16, 17]), ([], [])]) hm ?_
   refine kD 1 ?_
   obtain ⟨y8, hy9, h19⟩ := bindS h18
   refine RJ.call0 (d := (some 35)) (f := 87) (args := [.agg (encSt25 x0)]) (v := .str y8) (tr2 := [([], []), ([], []), ([], []), ([0, 1], []), ([], [16, 17]), ([], []), ([0, 1], []), ([], [18, 19])]) (by kernel_rfl) (by kernel_rfl) (.cons (Le.refl _) .nil) (exergueref10_Number_ok hy9) (by kernel_rfl) ?_
   obtain ⟨hm, h20⟩ := asrt h19
   refine kQ 36 (.str (((((((((((((((y0 ++ y1) ++ y2) ++ y3)) ++ y4)) ++ y5)) ++ y6)) ++ ([59] : List UInt8))) ++ y7)) ++ y8)) [] (tr2 := [([], []), ([], []), ([], []), ([0, 1], []), ([], [16, 17]), ([], []), ([0, 1], []), ([], [18, 19]), ([], [])]) hm ?_
   refine kD 2 ?_
   obtain ⟨y9, hy10, h21⟩ := bindS h20
   refine RJ.call0 (d := (some 39)) (f := 86) (args := [lsv encSt106 2 x0.NSuf_]) (v := .str y9) (tr2 := [([], []), ([], []), ([], []), ([0, 1], []), ([], [16, 17]), ([], []), ([0, 1], []), ([], [18, 19]), ([], []), ([], []), ([0, 1], []), ([], [20, 21])]) (by kernel_rfl) (by kernel_rfl) (.cons (Le.refl _) .nil) (exergueref10_written_ok hy10) (by kernel_rfl) ?_
   obtain ⟨hm, h22⟩ := asrt h21
   refine kQ 40 (.str (((((((((((((((((y0 ++ y1) ++ y2) ++ y3)) ++ y4)) ++ y5)) ++ y6)) ++ ([59] : List UInt8))) ++ y7)) ++ y8)) ++ y9)) [] (tr2 := [([], []), ([], []), ([], []), ([0, 1], []), ([], [16, 17]), ([], []), ([0, 1], []), ([], [18, 19]), ([], []), ([], []), ([0, 1], []), ([], [20, 21]), ([], [])]) hm ?_
   refine kD 1 ?_
   refine kE ?_
   obtain rfl := oi h22
   refine kW (L2 := [(2, .str ([] : List UInt8)), (3, .str ((((((((((((((((((y0 ++ y1) ++ y2) ++ y3)) ++ y4)) ++ y5)) ++ y6)) ++ ([59] : List UInt8))) ++ y7)) ++ y8)) ++ y9)))]) (H2 := []) hFH hFD [] ?_
   exact kN [2, 3]
  ·refine kF ?_
   refine kK ?_
   obtain rfl := oi h15
   refine kW (L2 := [(2, .str ([] : List UInt8)), (3, .str ((((((((((y0 ++ y1) ++ y2) ++ y3)) ++ y4)) ++ y5)) ++ y6)))]) (H2 := []) hFH hFD [] ?_
   exact kN [2, 3]
 ·refine kSR ?_
  refine kC 2 [2] ?_
  refine kEN ?_
  refine kX ?_
  obtain rfl := oi h13
  exact kZ hFn hFH hFD
def exergueref01_tails (x0 : List Int) (x1 : Int) (x2 : Int) (x3 : Int) : Option (Int) :=
 (bif (decide ((IntKind.wrap .i64 (x1 + x2)) ≥ (x0.length : Int))) then (some (-1)) else (Option.bind (loopN (fun (s0 : Int × Int) => (bif (decide (s0.2 ≤ x2)) then (Option.bind (bif inR (IntKind.wrap .i64 (x1 + s0.2)) x0.length then (Option.bind (Option.bind (bif (decide (((IntKind.wrap .i64 ((nth x0 (IntKind.wrap .i64 (x1 + s0.2)))))) < 128)) then (some true) else (some ((decide (((IntKind.wrap .i64 ((nth x0 (IntKind.wrap .i64 (x1 + s0.2)))))) > 191))))) fun (s1 : Bool) => (bif s1 then (some (.inr (.inr (.inr (.inr (-1)))))) else (some (.inl ())))) (joinX fun (s3 : Unit) => (some (.inl ())))) else none) (joinX fun (s4 : Unit) => (some (.inl ((IntKind.wrap .i64 (((IntKind.wrap .i64 ((IntKind.wrap .i64 (s0.1 * 64)) + ((IntKind.wrap .i64 ((nth x0 (IntKind.wrap .i64 (x1 + s0.2))))))))) - 128)), (IntKind.wrap .i64 (s0.2 + 1))))))) else (some (.inr (.inl s0.1))))) big (x3, 1)) (joinX fun (s2 : Int) => (some s2))))
theorem exergueref01_tails_ok {x0 : List Int} {x1 : Int} {x2 : Int} {x3 : Int} {r : Int} (h : exergueref01_tails x0 x1 x2 x3 = some r) : SC Tryz.prog 124 [lsv (encI .u8) 1 x0, .int .i64 x1, .int .i64 x2, .int .i64 x3] [] (.int .i64 r) [] := by
 refine kFn (fn := Tryz.f124) (fun F hFn hFH hFD => ?_)
 unfold exergueref01_tails at h
 refine kSR ?_
 refine kC 1 [0,1,2,3,8] ?_
 refine kEN ?_
 refine kS ?_
 refine kSR ?_
 refine kC 6 [0,1,2,3,8,16] ?_
 refine kEN ?_
 refine kBJ 16 h (fun h3 => ?_) (fun h4 => ?_)
 ·refine kT ?_
  refine kSR ?_
  refine kC 1 [0,1,2,3,8] ?_
  refine kEN ?_
  refine kX ?_
  refine PJ.passRet ?_
  obtain rfl := oi h3
  exact kZ hFn hFH hFD
 ·refine kF ?_
  refine kK ?_
  refine PJ.next ?_
  obtain ⟨y0, hy0, h0⟩ := bindS h4
  refine K.cutX (by kernel_rfl) (fun (s2 : Int) => ([(3, .int .i64 s2), (8, .int .i64 0)], [])) y0 ?_ (fun s2 hs => ?_)
  ·refine kSR ?_
   refine kC 1 [0,1,2,3,8,9] ?_
   refine kEN ?_
   refine kb 0 ?_
   refine kl (fun (s0 : Int × Int) => ([(0, lsv (encI .u8) 1 x0), (1, .int .i64 x1), (2, .int .i64 x2), (3, .int .i64 s0.1), (8, .int .i64 0), (9, .int .i64 s0.2)], [])) hy0 [0, 1, 2, 3, 8, 9] (fun s0 x504 hs0 => ?_)
   refine kS ?_
   refine kSR ?_
   refine kC 3 [0,1,2,3,8,9,19] ?_
   refine kEN ?_
   refine kBJ 19 hs0 (fun h5 => ?_) (fun h6 => ?_)
   ·refine kT ?_
    refine kK ?_
    refine PJ.next ?_
    obtain ⟨y1, hy1, h1⟩ := bindS h5
    refine K.cutX (by kernel_rfl) (fun (s4 : Unit) => ([(0, lsv (encI .u8) 1 x0), (1, .int .i64 x1), (2, .int .i64 x2), (3, .int .i64 ((IntKind.wrap .i64 (((IntKind.wrap .i64 ((IntKind.wrap .i64 (s0.1 * 64)) + ((IntKind.wrap .i64 ((nth x0 (IntKind.wrap .i64 (x1 + s0.2))))))))) - 128)))), (8, .int .i64 0), (9, .int .i64 s0.2)], [])) y1 ?_ (fun s4 hs => ?_)
    ·refine kb 1 ?_
     refine kSR ?_
     refine kC 4 [0,1,2,3,8,9,22,25] ?_
     obtain ⟨hm, h7⟩ := asrt hy1
     refine kI 26 (encI_len .u8) hm ?_
     refine kC 3 [0,1,2,3,8,9,10] ?_
     refine kEN ?_
     obtain ⟨y2, hy2, h2⟩ := bindS h7
     refine K.cutX (by kernel_rfl) (fun (s3 : Unit) => ([(0, lsv (encI .u8) 1 x0), (1, .int .i64 x1), (2, .int .i64 x2), (3, .int .i64 s0.1), (8, .int .i64 0), (9, .int .i64 s0.2), (10, .int .i64 ((IntKind.wrap .i64 ((nth x0 (IntKind.wrap .i64 (x1 + s0.2)))))))], [])) y2 ?_ (fun s3 hs => ?_)
     ·obtain ⟨s1, hy3, h8⟩ := bindS hy2
      refine K.cutN (by kernel_rfl) (fun (s1 : Bool) => ([(0, lsv (encI .u8) 1 x0), (1, .int .i64 x1), (2, .int .i64 x2), (3, .int .i64 s0.1), (8, .int .i64 0), (9, .int .i64 s0.2), (10, .int .i64 ((IntKind.wrap .i64 ((nth x0 (IntKind.wrap .i64 (x1 + s0.2))))))), (34, .bool s1)], [])) s1 ?_ ?_
      ·refine kR ?_
       refine kC 3 [0,1,2,3,8,9,10,31] ?_
       refine kB 31 hy3 (fun h9 => ?_) (fun h10 => ?_)
       ·refine kC 3 [0,1,2,3,8,9,10,34] ?_
        refine kE ?_
        obtain rfl := oi h9
        exact kN [0, 1, 2, 3, 8, 9, 10, 34]
       ·refine kC 3 [0,1,2,3,8,9,10,34] ?_
        refine kE ?_
        obtain rfl := oi h10
        exact kN [0, 1, 2, 3, 8, 9, 10, 34]
      ·refine kBJ 34 h8 (fun h11 => ?_) (fun h12 => ?_)
       ·refine kT ?_
        refine kSR ?_
        refine kC 1 [0,1,2,3,8,9,10] ?_
        refine kEN ?_
        refine kX ?_
        obtain rfl := oi h11
        have h13 := joinX_inr h2
        refine PJ.cutXr (fun e => nomatch e) ?_
        refine PJ.blockRet ?_
        obtain rfl := oi h13
        have h14 := joinX_inr h1
        refine PJ.cutXr (fun e => nomatch e) ?_
        obtain rfl := oi h14
        refine PJ.loopOut (fun e => nomatch e) (fun he0 => ?_)
        have h15 := congrArg some he0
        refine PJ.blockRet ?_
        obtain rfl := oi h15
        have h16 := joinX_inr h0
        refine PJ.cutXr (fun e => nomatch e) ?_
        obtain rfl := oi h16
        exact kZ hFn hFH hFD
       ·refine kF ?_
        refine kK ?_
        obtain rfl := oi h12
        exact kXl [0, 1, 2, 3, 8, 9, 10]
     ·subst hs
      have h17 := joinX_inl h2
      refine kR ?_
      refine kC 6 [0,1,2,3,8,9] ?_
      refine kE ?_
      refine PJ.blockNormal ?_
      obtain rfl := oi h17
      exact kXl [0, 1, 2, 3, 8, 9]
    ·subst hs
     have h18 := joinX_inl h1
     refine kR ?_
     refine kC 3 [0,1,2,3,8,9] ?_
     refine kE ?_
     obtain rfl := oi h18
     exact kLN [0, 1, 2, 3, 8, 9]
   ·refine kF ?_
    refine K.exit 0 (by kernel_rfl) ?_
    refine PJ.passExit ?_
    obtain rfl := oi h6
    refine PJ.loopOut (fun e => nomatch e) (fun he1 => ?_)
    have h19 := congrArg some he1
    refine PJ.blockOut ?_
    obtain rfl := oi h19
    exact kXl [3, 8]
  ·subst hs
   have h20 := joinX_inl h0
   refine kSR ?_
   refine kC 2 [8] ?_
   refine kEN ?_
   refine kX ?_
   obtain rfl := oi h20
   exact kZ hFn hFH hFD
def exergueref01_one (x0 : List Int) (x1 : Int) : Option (Int) :=
 (bif inR x1 x0.length then (Option.bind (bif (decide ((IntKind.wrap .i64 (nth x0 x1)) < 128)) then (some (IntKind.wrap .i64 (nth x0 x1))) else (some (-1))) fun (s3 : Int) => (Option.bind (Option.bind (bif (decide ((IntKind.wrap .i64 (nth x0 x1)) ≥ 192)) then (some ((decide ((IntKind.wrap .i64 (nth x0 x1)) < 224)))) else (some false)) fun (s4 : Bool) => (bif s4 then (Option.bind (exergueref01_tails x0 x1 1 ((IntKind.wrap .i64 ((IntKind.wrap .i64 (nth x0 x1)) - 192)))) fun y0 => (some (y0, 128))) else (some (s3, 0)))) fun (s1 : Int × Int) => (Option.bind (Option.bind (bif (decide ((IntKind.wrap .i64 (nth x0 x1)) ≥ 224)) then (some ((decide ((IntKind.wrap .i64 (nth x0 x1)) < 240)))) else (some false)) fun (s5 : Bool) => (bif s5 then (Option.bind (exergueref01_tails x0 x1 2 ((IntKind.wrap .i64 ((IntKind.wrap .i64 (nth x0 x1)) - 224)))) fun y1 => (some (y1, 2048))) else (some (s1.1, s1.2)))) fun (s2 : Int × Int) => (Option.bind (Option.bind (bif (decide ((IntKind.wrap .i64 (nth x0 x1)) ≥ 240)) then (some ((decide ((IntKind.wrap .i64 (nth x0 x1)) < 248)))) else (some false)) fun (s6 : Bool) => (bif s6 then (Option.bind (exergueref01_tails x0 x1 3 ((IntKind.wrap .i64 ((IntKind.wrap .i64 (nth x0 x1)) - 240)))) fun y2 => (some (y2, 65536))) else (some (s2.1, s2.2)))) fun (s0 : Int × Int) => (Option.bind (exergueref01_Is (IntKind.wrap .i32 s0.1)) fun y3 => (Option.bind (Option.bind (bif (decide (s0.1 < s0.2)) then (some true) else (some (!y3))) fun (s7 : Bool) => (bif s7 then (some (.inr (-1))) else (some (.inl ())))) (joinX fun (s8 : Unit) => (some s0.1)))))))) else none)
theorem exergueref01_one_ok {x0 : List Int} {x1 : Int} {r : Int} (h : exergueref01_one x0 x1 = some r) : SC Tryz.prog 105 [lsv (encI .u8) 1 x0, .int .i64 x1] [] (.int .i64 r) [] := by
 refine kFn (fn := Tryz.f105) (fun F hFn hFH hFD => ?_)
 unfold exergueref01_one at h
 refine kSR ?_
 refine kC 1 [0,1,4] ?_
 refine kEN ?_
 refine kSR ?_
 refine kC 2 [0,1,4,9,10] ?_
 obtain ⟨hm, h1⟩ := asrt h
 refine kI 11 (encI_len .u8) hm ?_
 refine kC 3 [0,1,4,5] ?_
 refine kEN ?_
 refine kSR ?_
 refine kC 1 [0,1,4,5,6] ?_
 refine kEN ?_
 refine kSR ?_
 refine kC 1 [0,1,4,5,6,7] ?_
 refine kEN ?_
 obtain ⟨s3, hy0, h2⟩ := bindS h1
 refine K.cutN (by kernel_rfl) (fun (s3 : Int) => ([(0, lsv (encI .u8) 1 x0), (1, .int .i64 x1), (4, .int .i64 0), (5, .int .i64 (IntKind.wrap .i64 (nth x0 x1))), (6, .int .i64 s3), (7, .int .i64 0)], [])) s3 ?_ ?_
 ·refine kSR ?_
  refine kC 2 [0,1,4,5,6,7,15] ?_
  refine kEN ?_
  refine kBJ 15 hy0 (fun h3 => ?_) (fun h4 => ?_)
  ·refine kT ?_
   refine kR ?_
   refine kC 2 [0,1,4,5,6,7] ?_
   refine kE ?_
   obtain rfl := oi h3
   exact kN [0, 1, 4, 5, 6, 7]
  ·refine kF ?_
   refine kK ?_
   obtain rfl := oi h4
   exact kN [0, 1, 4, 5, 6, 7]
 ·obtain ⟨s1, hy1, h5⟩ := bindS h2
  refine K.cutN (by kernel_rfl) (fun (s1 : Int × Int) => ([(0, lsv (encI .u8) 1 x0), (1, .int .i64 x1), (4, .int .i64 0), (5, .int .i64 (IntKind.wrap .i64 (nth x0 x1))), (6, .int .i64 s1.1), (7, .int .i64 s1.2)], [])) s1 ?_ ?_
  ·obtain ⟨s4, hy2, h6⟩ := bindS hy1
   refine K.cutN (by kernel_rfl) (fun (s4 : Bool) => ([(0, lsv (encI .u8) 1 x0), (1, .int .i64 x1), (4, .int .i64 0), (5, .int .i64 (IntKind.wrap .i64 (nth x0 x1))), (6, .int .i64 s3), (7, .int .i64 0), (22, .bool s4)], [])) s4 ?_ ?_
   ·refine kR ?_
    refine kC 3 [0,1,4,5,6,7,19] ?_
    refine kB 19 hy2 (fun h7 => ?_) (fun h8 => ?_)
    ·refine kC 3 [0,1,4,5,6,7,22] ?_
     refine kE ?_
     obtain rfl := oi h7
     exact kN [0, 1, 4, 5, 6, 7, 22]
    ·refine kC 3 [0,1,4,5,6,7,22] ?_
     refine kE ?_
     obtain rfl := oi h8
     exact kN [0, 1, 4, 5, 6, 7, 22]
   ·refine kBJ 22 h6 (fun h9 => ?_) (fun h10 => ?_)
    ·refine kT ?_
     refine kSR ?_
     refine kC 4 [0,1,4,5,6,7,23,24,26] ?_
     obtain ⟨y0, hy3, h11⟩ := bindS h9
     refine kA 27 (exergueref01_tails_ok hy3) ?_
     refine kC 1 [0,1,4,5,6,7] ?_
     refine kEN ?_
     refine kR ?_
     refine kC 1 [0,1,4,5,6,7] ?_
     refine kE ?_
     obtain rfl := oi h11
     exact kN [0, 1, 4, 5, 6, 7]
    ·refine kF ?_
     refine kK ?_
     obtain rfl := oi h10
     exact kN [0, 1, 4, 5, 6, 7]
  ·obtain ⟨s2, hy4, h12⟩ := bindS h5
   refine K.cutN (by kernel_rfl) (fun (s2 : Int × Int) => ([(0, lsv (encI .u8) 1 x0), (1, .int .i64 x1), (4, .int .i64 0), (5, .int .i64 (IntKind.wrap .i64 (nth x0 x1))), (6, .int .i64 s2.1), (7, .int .i64 s2.2)], [])) s2 ?_ ?_
   ·obtain ⟨s5, hy5, h13⟩ := bindS hy4
    refine K.cutN (by kernel_rfl) (fun (s5 : Bool) => ([(0, lsv (encI .u8) 1 x0), (1, .int .i64 x1), (4, .int .i64 0), (5, .int .i64 (IntKind.wrap .i64 (nth x0 x1))), (6, .int .i64 s1.1), (7, .int .i64 s1.2), (33, .bool s5)], [])) s5 ?_ ?_
    ·refine kR ?_
     refine kC 3 [0,1,4,5,6,7,30] ?_
     refine kB 30 hy5 (fun h14 => ?_) (fun h15 => ?_)
     ·refine kC 3 [0,1,4,5,6,7,33] ?_
      refine kE ?_
      obtain rfl := oi h14
      exact kN [0, 1, 4, 5, 6, 7, 33]
     ·refine kC 3 [0,1,4,5,6,7,33] ?_
      refine kE ?_
      obtain rfl := oi h15
      exact kN [0, 1, 4, 5, 6, 7, 33]
    ·refine kBJ 33 h13 (fun h16 => ?_) (fun h17 => ?_)
     ·refine kT ?_
      refine kSR ?_
      refine kC 4 [0,1,4,5,6,7,34,35,37] ?_
      obtain ⟨y1, hy6, h18⟩ := bindS h16
      refine kA 38 (exergueref01_tails_ok hy6) ?_
      refine kC 1 [0,1,4,5,6,7] ?_
      refine kEN ?_
      refine kR ?_
      refine kC 1 [0,1,4,5,6,7] ?_
      refine kE ?_
      obtain rfl := oi h18
      exact kN [0, 1, 4, 5, 6, 7]
     ·refine kF ?_
      refine kK ?_
      obtain rfl := oi h17
      exact kN [0, 1, 4, 5, 6, 7]
   ·obtain ⟨s0, hy7, h19⟩ := bindS h12
    refine K.cutN (by kernel_rfl) (fun (s0 : Int × Int) => ([(4, .int .i64 0), (6, .int .i64 s0.1), (7, .int .i64 s0.2)], [])) s0 ?_ ?_
    ·obtain ⟨s6, hy8, h20⟩ := bindS hy7
     refine K.cutN (by kernel_rfl) (fun (s6 : Bool) => ([(0, lsv (encI .u8) 1 x0), (1, .int .i64 x1), (4, .int .i64 0), (5, .int .i64 (IntKind.wrap .i64 (nth x0 x1))), (6, .int .i64 s2.1), (7, .int .i64 s2.2), (44, .bool s6)], [])) s6 ?_ ?_
     ·refine kR ?_
      refine kC 3 [0,1,4,5,6,7,41] ?_
      refine kB 41 hy8 (fun h21 => ?_) (fun h22 => ?_)
      ·refine kC 3 [0,1,4,5,6,7,44] ?_
       refine kE ?_
       obtain rfl := oi h21
       exact kN [0, 1, 4, 5, 6, 7, 44]
      ·refine kC 3 [0,1,4,5,6,7,44] ?_
       refine kE ?_
       obtain rfl := oi h22
       exact kN [0, 1, 4, 5, 6, 7, 44]
     ·refine kBJ 44 h20 (fun h23 => ?_) (fun h24 => ?_)
      ·refine kT ?_
       refine kSR ?_
       refine kC 4 [4,6,7,45,46,48] ?_
       obtain ⟨y2, hy9, h25⟩ := bindS h23
       refine kA 49 (exergueref01_tails_ok hy9) ?_
       refine kC 1 [4,6,7] ?_
       refine kEN ?_
       refine kR ?_
       refine kC 1 [4,6,7] ?_
       refine kE ?_
       obtain rfl := oi h25
       exact kN [4, 6, 7]
      ·refine kF ?_
       refine kK ?_
       obtain rfl := oi h24
       exact kN [4, 6, 7]
    ·refine kSR ?_
     refine kC 2 [4,6,7,51] ?_
     obtain ⟨y3, hy10, h26⟩ := bindS h19
     refine kA 52 (exergueref01_Is_ok hy10) ?_
     refine kC 1 [4,6,7,8] ?_
     refine kEN ?_
     obtain ⟨y4, hy11, h0⟩ := bindS h26
     refine K.cutX (by kernel_rfl) (fun (s8 : Unit) => ([(4, .int .i64 0), (6, .int .i64 s0.1)], [])) y4 ?_ (fun s8 hs => ?_)
     ·obtain ⟨s7, hy12, h27⟩ := bindS hy11
      refine K.cutN (by kernel_rfl) (fun (s7 : Bool) => ([(4, .int .i64 0), (6, .int .i64 s0.1), (59, .bool s7)], [])) s7 ?_ ?_
      ·refine kR ?_
       refine kC 4 [4,6,8,56] ?_
       refine kB 56 hy12 (fun h28 => ?_) (fun h29 => ?_)
       ·refine kC 3 [4,6,59] ?_
        refine kE ?_
        obtain rfl := oi h28
        exact kN [4, 6, 59]
       ·refine kC 3 [4,6,59] ?_
        refine kE ?_
        obtain rfl := oi h29
        exact kN [4, 6, 59]
      ·refine kBJ 59 h27 (fun h30 => ?_) (fun h31 => ?_)
       ·refine kT ?_
        refine kSR ?_
        refine kC 1 [4,6] ?_
        refine kEN ?_
        refine kX ?_
        obtain rfl := oi h30
        have h32 := joinX_inr h0
        refine PJ.cutXr (fun e => nomatch e) ?_
        obtain rfl := oi h32
        exact kZ hFn hFH hFD
       ·refine kF ?_
        refine kK ?_
        obtain rfl := oi h31
        exact kXl [4, 6]
     ·subst hs
      have h33 := joinX_inl h0
      refine kSR ?_
      refine kC 2 [4] ?_
      refine kEN ?_
      refine kX ?_
      obtain rfl := oi h33
      exact kZ hFn hFH hFD
def exergueref01_Decode (x0 : List Int) : Option ((List Int) × Int × Int) :=
 (Option.bind (loopN (fun (s0 : Int × (List Int)) => (bif (decide (s0.1 < (x0.length : Int))) then (Option.bind (exergueref01_one x0 s0.1) fun y0 => (bif (decide (y0 < 0)) then (some (.inr (.inr (([] : List Int), s0.1, 3)))) else (bif room (s0.2.length + ([(IntKind.wrap .i32 y0)] : List Int).length) then (Option.bind (exergueref01_Size (IntKind.wrap .i32 y0)) fun y1 => (some (.inl ((IntKind.wrap .i64 (s0.1 + y1)), (s0.2 ++ ([(IntKind.wrap .i32 y0)] : List Int)))))) else none))) else (some (.inr (.inl s0.2))))) big (0, ([] : List Int))) (joinX fun (s1 : (List Int)) => (some (s1, 0, 0))))
theorem exergueref01_Decode_ok {x0 : List Int} {r : (List Int) × Int × Int} (h : exergueref01_Decode x0 = some r) : SC Tryz.prog 81 [lsv (encI .u8) 1 x0] [] (.tup [lsv (encI .i32) 1 r.1, .int .i64 r.2.1, .int .i64 r.2.2]) [] := by
 refine kFn (fn := Tryz.f81) (fun F hFn hFH hFD => ?_)
 unfold exergueref01_Decode at h
 refine kSR ?_
 refine kC 3 [0,2,3,4] ?_
 refine kEN ?_
 refine kSR ?_
 refine kC 1 [0,2,3,4,5] ?_
 refine kEN ?_
 refine kSR ?_
 refine kC 1 [0,2,3,4,5,6] ?_
 refine kEN ?_
 obtain ⟨y2, hy0, h0⟩ := bindS h
 refine K.cutX (by kernel_rfl) (fun (s1 : (List Int)) => ([(2, .nl), (3, .int .i64 0), (4, .int .i64 0), (5, .vc 0)], [vecL (encI .i32) 1 21 s1])) y2 ?_ (fun s1 hs => ?_)
 ·refine kb 0 ?_
  refine J.wk (Wk.viv 5 1 21 (by kernel_rfl)) ?_
  refine kl (fun (s0 : Int × (List Int)) => ([(0, lsv (encI .u8) 1 x0), (2, .nl), (3, .int .i64 0), (4, .int .i64 0), (5, .vc 0), (6, .int .i64 s0.1)], [vecL (encI .i32) 1 21 s0.2])) hy0 [0, 2, 3, 4, 5, 6] (fun s0 x101 hs0 => ?_)
  refine kS ?_
  refine kSR ?_
  refine kC 4 [0,2,3,4,5,6,11] ?_
  refine kEN ?_
  refine kBJ 11 hs0 (fun h1 => ?_) (fun h2 => ?_)
  ·refine kT ?_
   refine kK ?_
   refine PJ.next ?_
   refine kb 1 ?_
   refine kSR ?_
   refine kC 2 [0,2,3,4,5,6,12,13] ?_
   obtain ⟨y0, hy1, h3⟩ := bindS h1
   refine kA 14 (exergueref01_one_ok hy1) ?_
   refine kC 1 [0,2,3,4,5,6,7] ?_
   refine kEN ?_
   refine kS ?_
   refine kSR ?_
   refine kC 2 [0,2,3,4,5,6,7,16] ?_
   refine kEN ?_
   refine kBJ 16 h3 (fun h4 => ?_) (fun h5 => ?_)
   ·refine kT ?_
    refine kSR ?_
    refine kC 4 [0,2,3,4,5,6,7] ?_
    refine kEN ?_
    refine kX ?_
    refine PJ.passRet ?_
    refine PJ.blockRet ?_
    obtain rfl := oi h4
    refine PJ.loopOut (fun e => nomatch e) (fun he0 => ?_)
    have h6 := congrArg some he0
    refine PJ.blockRet ?_
    obtain rfl := oi h6
    have h7 := joinX_inr h0
    refine PJ.cutXr (fun e => nomatch e) ?_
    obtain rfl := oi h7
    refine PJ.res (v1 := .tup [.nl, .int .i64 s0.1, .int .i64 3]) (Le.tup (.cons (Le.nl _) (.cons (Le.refl _) (.cons (Le.refl _) .nil)))) ?_
    exact kZ hFn hFH hFD
   ·refine kF ?_
    refine kK ?_
    refine PJ.next ?_
    refine kSR ?_
    refine kC 4 [0,2,3,4,5,6,7,18,21] ?_
    obtain ⟨hm, h8⟩ := asrt h5
    refine RJ.rel (d := (some 22)) (ef := ⟨.vc 2, [0, 1], [(0, .gone), (2, .vec (s0.2.length + ([(IntKind.wrap .i32 y0)] : List Int).length) 1 21 (s0.2.flatMap (encI .i32) ++ ([(IntKind.wrap .i32 y0)] : List Int).flatMap (encI .i32)))]⟩) (ef' := ⟨.vc 2, [0, 1], [(0, .gone), (2, vecL (encI .i32) 1 21 (s0.2 ++ ([(IntKind.wrap .i32 y0)] : List Int)))]⟩) (c := room (s0.2.length + ([(IntKind.wrap .i32 y0)] : List Int).length)) (tr2 := []) (H2 := [.gone, vecL (encI .i32) 1 21 ([(IntKind.wrap .i32 y0)] : List Int), vecL (encI .i32) 1 21 ((s0.2 ++ ([(IntKind.wrap .i32 y0)] : List Int)))]) (by kernel_rfl) hm (fun hc => N.app) (by kernel_rfl) ?_
    refine kC 1 [0,2,3,4,5,6,7] ?_
    refine kEN ?_
    refine kR ?_
    refine kC 3 [0,2,3,4,5,6,23,25] ?_
    obtain ⟨y1, hy2, h9⟩ := bindS h8
    refine kA 26 (exergueref01_Size_ok hy2) ?_
    refine kC 2 [0,2,3,4,5,6] ?_
    refine kE ?_
    refine PJ.blockNormal ?_
    obtain rfl := oi h9
    refine kW (L2 := [(0, lsv (encI .u8) 1 x0), (2, .nl), (3, .int .i64 0), (4, .int .i64 0), (5, .vc 0), (6, .int .i64 (IntKind.wrap .i64 (s0.1 + y1)))]) (H2 := [vecL (encI .i32) 1 21 ((s0.2 ++ ([(IntKind.wrap .i32 y0)] : List Int)))]) hFH hFD [2] ?_
    exact kLN [0, 2, 3, 4, 5, 6]
  ·refine kF ?_
   refine K.exit 0 (by kernel_rfl) ?_
   refine PJ.passExit ?_
   obtain rfl := oi h2
   refine PJ.loopOut (fun e => nomatch e) (fun he1 => ?_)
   have h10 := congrArg some he1
   refine PJ.blockOut ?_
   obtain rfl := oi h10
   exact kXl [2, 3, 4, 5]
 ·subst hs
  have h11 := joinX_inl h0
  refine kSR ?_
  refine kC 4 [2,3,4] ?_
  refine kEN ?_
  refine kX ?_
  obtain rfl := oi h11
  refine PJ.wk (Wk.freeze 0 (n := s1.length) (k := 1) (e := 21) (cs := s1.flatMap (encI .i32)) (by kernel_rfl)) ?_
  exact kZ hFn hFH hFD
def exergueref10_at (x0 : List Int) (x1 : Int) : Option (Int) :=
 (bif (decide (x1 < (x0.length : Int))) then (bif inR x1 x0.length then (some (nth x0 x1)) else none) else (some (-1)))
theorem exergueref10_at_ok {x0 : List Int} {x1 : Int} {r : Int} (h : exergueref10_at x0 x1 = some r) : SC Tryz.prog 83 [lsv (encI .i32) 1 x0, .int .i64 x1] [] (.int .i32 r) [] := by
 refine kFn (fn := Tryz.f83) (fun F hFn hFH hFD => ?_)
 unfold exergueref10_at at h
 refine kSR ?_
 refine kC 1 [0,1,4] ?_
 refine kEN ?_
 refine kS ?_
 refine kSR ?_
 refine kC 4 [0,1,4,8] ?_
 refine kEN ?_
 refine kBJ 8 h (fun h0 => ?_) (fun h1 => ?_)
 ·refine kT ?_
  refine kSR ?_
  refine kC 2 [4,9,10] ?_
  obtain ⟨hm, h2⟩ := asrt h0
  refine kI 11 (encI_len .i32) hm ?_
  refine kC 2 [4] ?_
  refine kEN ?_
  refine kX ?_
  refine PJ.passRet ?_
  obtain rfl := oi h2
  exact kZ hFn hFH hFD
 ·refine kF ?_
  refine kK ?_
  refine PJ.next ?_
  refine kSR ?_
  refine kC 1 [4] ?_
  refine kEN ?_
  refine kX ?_
  obtain rfl := oi h1
  exact kZ hFn hFH hFD
def exergueref10_pad (x0 : St25) (x1 : List Int) (x2 : Int) (x3 : Int) : Option (St25 × Int × Bool) :=
 (Option.bind (Option.bind (bif (decide (x0.PadAt_ > 0)) then (some true) else (Option.bind (exergueref10_at x1 x2) fun y0 => (some (decide (¬ y0 = 42))))) fun (s0 : Bool) => (bif s0 then (some (.inr (x0, x2, true))) else (some (.inl ())))) (joinX fun (s1 : Unit) => (bif (decide ((IntKind.wrap .i64 (x2 + 1)) ≥ (x1.length : Int))) then (some (x0, (IntKind.wrap .i64 (x2 + 1)), false)) else (bif inR (IntKind.wrap .i64 (x2 + 1)) x1.length then (some ((⟨x0.Pre_, x0.Suf_, x0.NPre_, x0.NSuf_, x0.Neg_, x0.Hash_, x0.MinInt_, x0.MinFrac_, x0.MaxFrac_, x0.G1_, x0.G2_, x0.MinSig_, x0.MaxSig_, x0.Exp_, x0.ExpPlus_, (nth x1 (IntKind.wrap .i64 (x2 + 1))), x3⟩ : St25), (IntKind.wrap .i64 (x2 + 2)), true)) else none))))
theorem exergueref10_pad_ok {x0 : St25} {x1 : List Int} {x2 : Int} {x3 : Int} {r : St25 × Int × Bool} (h : exergueref10_pad x0 x1 x2 x3 = some r) : SC Tryz.prog 107 [.agg (encSt25 x0), lsv (encI .i32) 1 x1, .int .i64 x2, .int .i64 x3] [] (.tup [.agg (encSt25 r.1), .int .i64 r.2.1, .bool r.2.2]) [] := by
 refine kFn (fn := Tryz.f107) (fun F hFn hFH hFD => ?_)
 unfold exergueref10_pad at h
 refine kSR ?_
 refine kC 4 [1,2,3,4,8,9,10] ?_
 refine kEN ?_
 obtain ⟨y1, hy0, h0⟩ := bindS h
 refine K.cutX (by kernel_rfl) (fun (s1 : Unit) => ([(1, lsv (encI .i32) 1 x1), (2, .int .i64 x2), (3, .int .i64 x3), (4, .ptr 0 0), (8, .ptr 1 0), (9, .int .i64 0), (10, .bool false)], [.box (encSt25 x0), .box [.nl, .nl, .nl, .nl, .bool false, .int .i64 0, .int .i64 0, .int .i64 0, .int .i64 0, .int .i64 0, .int .i64 0, .int .i64 0, .int .i64 0, .int .i64 0, .bool false, .int .i32 0, .int .i64 0]])) y1 ?_ (fun s1 hs => ?_)
 ·obtain ⟨s0, hy1, h1⟩ := bindS hy0
  refine K.cutN (by kernel_rfl) (fun (s0 : Bool) => ([(1, lsv (encI .i32) 1 x1), (2, .int .i64 x2), (3, .int .i64 x3), (4, .ptr 0 0), (8, .ptr 1 0), (9, .int .i64 0), (10, .bool false), (19, .bool s0)], [.box (encSt25 x0), .box [.nl, .nl, .nl, .nl, .bool false, .int .i64 0, .int .i64 0, .int .i64 0, .int .i64 0, .int .i64 0, .int .i64 0, .int .i64 0, .int .i64 0, .int .i64 0, .bool false, .int .i32 0, .int .i64 0]])) s0 ?_ ?_
  ·refine kR ?_
   refine kC 4 [1,2,3,4,8,9,10,14] ?_
   refine kB 14 hy1 (fun h2 => ?_) (fun h3 => ?_)
   ·refine kC 5 [1,2,3,4,8,9,10,19] ?_
    refine kE ?_
    obtain rfl := oi h2
    exact kN [1, 2, 3, 4, 8, 9, 10, 19]
   ·refine kC 2 [1,2,3,4,8,9,10,14,15,16] ?_
    obtain ⟨y0, hy2, h4⟩ := bindS h3
    refine kA 17 (exergueref10_at_ok hy2) ?_
    refine kC 2 [1,2,3,4,8,9,10,19] ?_
    refine kE ?_
    obtain rfl := oi h4
    exact kN [1, 2, 3, 4, 8, 9, 10, 19]
  ·refine kBJ 19 h1 (fun h5 => ?_) (fun h6 => ?_)
   ·refine kT ?_
    refine kSR ?_
    refine kC 5 [1,2,3,4,8,9,10] ?_
    refine kEN ?_
    refine kX ?_
    obtain rfl := oi h5
    have h7 := joinX_inr h0
    refine PJ.cutXr (fun e => nomatch e) ?_
    obtain rfl := oi h7
    exact kZ hFn hFH hFD
   ·refine kF ?_
    refine kK ?_
    obtain rfl := oi h6
    exact kXl [1, 2, 3, 4, 8, 9, 10]
 ·subst hs
  have h8 := joinX_inl h0
  refine kS ?_
  refine kSR ?_
  refine kC 5 [1,2,3,4,8,9,10,26] ?_
  refine kEN ?_
  refine kBJ 26 h8 (fun h9 => ?_) (fun h10 => ?_)
  ·refine kT ?_
   refine kSR ?_
   refine kC 6 [1,2,3,4,8,9,10] ?_
   refine kEN ?_
   refine kX ?_
   refine PJ.passRet ?_
   obtain rfl := oi h9
   exact kZ hFn hFH hFD
  ·refine kF ?_
   refine kK ?_
   refine PJ.next ?_
   refine kSR ?_
   refine kC 3 [2,3,4,8,9,10,30,32] ?_
   obtain ⟨hm, h11⟩ := asrt h10
   refine kI 33 (encI_len .i32) hm ?_
   refine kC 3 [2,3,4,8,9,10] ?_
   refine kEN ?_
   refine kSR ?_
   refine kC 3 [2,4,8,9,10] ?_
   refine kEN ?_
   refine kSR ?_
   refine kC 6 [8,9,10] ?_
   refine kEN ?_
   refine kX ?_
   obtain rfl := oi h11
   exact kZ hFn hFH hFD
def exergueref10_Sign (x0 : Int) : Option (Int) :=
 (bif (decide (x0 = 45)) then (some 1) else (bif (decide (x0 = 43)) then (some 2) else (bif (decide (x0 = 37)) then (some 3) else (bif (decide (x0 = 164)) then (some 4) else (some 0)))))
theorem exergueref10_Sign_ok {x0 : Int} {r : Int} (h : exergueref10_Sign x0 = some r) : SC Tryz.prog 125 [.int .i32 x0] [] (.int .i64 r) [] := by
 refine kFn (fn := Tryz.f125) (fun F hFn hFH hFD => ?_)
 unfold exergueref10_Sign at h
 refine kSR ?_
 refine kC 1 [0,2] ?_
 refine kEN ?_
 refine kS ?_
 refine kSR ?_
 refine kC 1 [2,3] ?_
 refine kEN ?_
 refine kb 0 ?_
 refine kSR ?_
 refine kC 2 [2,3,4] ?_
 refine kEN ?_
 refine kBJ 4 h (fun h0 => ?_) (fun h1 => ?_)
 ·refine kT ?_
  refine kSR ?_
  refine kC 1 [2] ?_
  refine kEN ?_
  refine kX ?_
  refine PJ.blockRet ?_
  refine PJ.passRet ?_
  obtain rfl := oi h0
  exact kZ hFn hFH hFD
 ·refine kF ?_
  refine kSR ?_
  refine kC 2 [2,3,6] ?_
  refine kEN ?_
  refine kBJ 6 h1 (fun h2 => ?_) (fun h3 => ?_)
  ·refine kT ?_
   refine kSR ?_
   refine kC 1 [2] ?_
   refine kEN ?_
   refine kX ?_
   refine PJ.blockRet ?_
   refine PJ.passRet ?_
   obtain rfl := oi h2
   exact kZ hFn hFH hFD
  ·refine kF ?_
   refine kSR ?_
   refine kC 2 [2,3,8] ?_
   refine kEN ?_
   refine kBJ 8 h3 (fun h4 => ?_) (fun h5 => ?_)
   ·refine kT ?_
    refine kSR ?_
    refine kC 1 [2] ?_
    refine kEN ?_
    refine kX ?_
    refine PJ.blockRet ?_
    refine PJ.passRet ?_
    obtain rfl := oi h4
    exact kZ hFn hFH hFD
   ·refine kF ?_
    refine kSR ?_
    refine kC 2 [2,10] ?_
    refine kEN ?_
    refine kBJ 10 h5 (fun h6 => ?_) (fun h7 => ?_)
    ·refine kT ?_
     refine kSR ?_
     refine kC 1 [2] ?_
     refine kEN ?_
     refine kX ?_
     refine PJ.blockRet ?_
     refine PJ.passRet ?_
     obtain rfl := oi h6
     exact kZ hFn hFH hFD
    ·refine kF ?_
     refine kK ?_
     refine PJ.blockNormal ?_
     refine PJ.next ?_
     refine kSR ?_
     refine kC 1 [2] ?_
     refine kEN ?_
     refine kX ?_
     obtain rfl := oi h7
     exact kZ hFn hFH hFD
def exergueref10_affix (x0 : List Int) (x1 : Int) : Option ((List St106) × Int × Bool) :=
 (Option.bind (loopN (fun (s0 : Int × (List St106)) => (bif (decide (s0.1 < (x0.length : Int))) then (bif inR s0.1 x0.length then (Option.bind (exergueref10_Sign (nth x0 s0.1)) fun y0 => (Option.bind (exergueref10_Special (nth x0 s0.1)) fun y1 => (bif (decide (y0 > 0)) then (bif room (s0.2.length + ([(⟨y0, 0⟩ : St106)] : List St106).length) then (some (.inl ((IntKind.wrap .i64 (s0.1 + 1)), (s0.2 ++ ([(⟨y0, 0⟩ : St106)] : List St106))))) else none) else (bif (decide (¬ (nth x0 s0.1) = 39)) then (bif y1 then (some (.inr (.inr (s0.2, s0.1, true)))) else (bif room (s0.2.length + (([(⟨0, (nth x0 s0.1)⟩ : St106)] : List St106)).length) then (some (.inl ((IntKind.wrap .i64 (s0.1 + 1)), (s0.2 ++ (([(⟨0, (nth x0 s0.1)⟩ : St106)] : List St106)))))) else none)) else (Option.bind (exergueref10_at x0 (IntKind.wrap .i64 (s0.1 + 1))) fun y2 => (bif (decide (y2 = 39)) then (bif room (s0.2.length + ([(⟨0, 39⟩ : St106)] : List St106).length) then (some (.inl ((IntKind.wrap .i64 (s0.1 + 2)), (s0.2 ++ ([(⟨0, 39⟩ : St106)] : List St106))))) else none) else (Option.bind (loopN (fun (s1 : Int × (List St106)) => (Option.bind (Option.bind (bif (decide (s1.1 < (x0.length : Int))) then (bif inR s1.1 x0.length then (bif (decide (¬ (nth x0 s1.1) = 39)) then (some true) else (Option.bind (exergueref10_at x0 (IntKind.wrap .i64 (s1.1 + 1))) fun y3 => (some (decide (y3 = 39))))) else none) else (some false)) fun (s4 : Bool) => (bif s4 then (some (.inl ())) else (some (.inr (.inr (s1.1, s1.2)))))) (joinX fun (s6 : Unit) => (bif inR s1.1 x0.length then (bif room (s1.2.length + (([(⟨0, (nth x0 s1.1)⟩ : St106)] : List St106)).length) then (Option.bind (bif inR s1.1 x0.length then (bif (decide ((nth x0 s1.1) = 39)) then (some (IntKind.wrap .i64 (s1.1 + 1))) else (some s1.1)) else none) fun (s5 : Int) => (some (.inl ((IntKind.wrap .i64 (s5 + 1)), (s1.2 ++ (([(⟨0, (nth x0 s1.1)⟩ : St106)] : List St106))))))) else none) else none)))) big ((IntKind.wrap .i64 (s0.1 + 1)), s0.2)) fun (s2 : Int × (List St106)) => (bif (decide (s2.1 ≥ (x0.length : Int))) then (some (.inr (.inr (([] : List St106), s0.1, false)))) else (some (.inl ((IntKind.wrap .i64 (s2.1 + 1)), s2.2))))))))))) else none) else (some (.inr (.inl (s0.1, s0.2)))))) big (x1, ([] : List St106))) (joinX fun (s3 : Int × (List St106)) => (some (s3.2, s3.1, true))))
theorem exergueref10_affix_ok {x0 : List Int} {x1 : Int} {r : (List St106) × Int × Bool} (h : exergueref10_affix x0 x1 = some r) : SC Tryz.prog 108 [lsv (encI .i32) 1 x0, .int .i64 x1] [] (.tup [lsv encSt106 2 r.1, .int .i64 r.2.1, .bool r.2.2]) [] := by
 refine kFn (fn := Tryz.f108) (fun F hFn hFH hFD => ?_)
 unfold exergueref10_affix at h
 refine kSR ?_
 refine kC 3 [0,1,4,5,6] ?_
 refine kEN ?_
 refine kSR ?_
 refine kC 1 [0,1,4,5,6,7] ?_
 refine kEN ?_
 obtain ⟨y4, hy0, h0⟩ := bindS h
 refine K.cutX (by kernel_rfl) (fun (s3 : Int × (List St106)) => ([(1, .int .i64 s3.1), (4, .nl), (5, .int .i64 0), (6, .bool false), (7, .vc 0)], [vecL encSt106 2 107 s3.2])) y4 ?_ (fun s3 hs => ?_)
 ·refine kb 0 ?_
  refine J.wk (Wk.viv 7 2 107 (by kernel_rfl)) ?_
  refine kl (fun (s0 : Int × (List St106)) => ([(0, lsv (encI .i32) 1 x0), (1, .int .i64 s0.1), (4, .nl), (5, .int .i64 0), (6, .bool false), (7, .vc 0)], [vecL encSt106 2 107 s0.2])) hy0 [0, 1, 4, 5, 6, 7] (fun s0 x2721 hs0 => ?_)
  refine kS ?_
  refine kSR ?_
  refine kC 4 [0,1,4,5,6,7,15] ?_
  refine kEN ?_
  refine kBJ 15 hs0 (fun h2 => ?_) (fun h3 => ?_)
  ·refine kT ?_
   refine kK ?_
   refine PJ.next ?_
   refine kb 1 ?_
   refine kSR ?_
   refine kC 2 [0,1,4,5,6,7,16,17] ?_
   obtain ⟨hm, h4⟩ := asrt h2
   refine kI 18 (encI_len .i32) hm ?_
   refine kC 2 [0,1,4,5,6,7,8] ?_
   refine kEN ?_
   refine kSR ?_
   refine kC 1 [0,1,4,5,6,7,8,20] ?_
   obtain ⟨y0, hy1, h5⟩ := bindS h4
   refine kA 21 (exergueref10_Sign_ok hy1) ?_
   refine kC 1 [0,1,4,5,6,7,8,9] ?_
   refine kEN ?_
   refine kSR ?_
   refine kC 1 [0,1,4,5,6,7,8,9,22] ?_
   obtain ⟨y1, hy2, h6⟩ := bindS h5
   refine kA 23 (exergueref10_Special_ok hy2) ?_
   refine kC 1 [0,1,4,5,6,7,8,9,10] ?_
   refine kEN ?_
   refine kS ?_
   refine kSR ?_
   refine kC 2 [0,1,4,5,6,7,8,9,10,25] ?_
   refine kEN ?_
   refine kBJ 25 h6 (fun h7 => ?_) (fun h8 => ?_)
   ·refine kT ?_
    refine kSR ?_
    refine RJ.seg 4 [0, 1, 4, 5, 6, 7, 8, 10, 26, 29] (L2 := [(0, lsv (encI .i32) 1 x0), (1, .int .i64 s0.1), (4, .nl), (5, .int .i64 0), (6, .bool false), (7, .vc 0), (8, .int .i32 (nth x0 s0.1)), (10, .bool y1), (26, .vc 0), (29, .vc 1)]) (H2 := [vecL encSt106 2 107 s0.2, vecL encSt106 2 107 ([(⟨y0, 0⟩ : St106)] : List St106)]) (by kernel_rfl) ?_
    obtain ⟨hm, h9⟩ := asrt h7
    refine RJ.rel (d := (some 30)) (ef := ⟨.vc 2, [0, 1], [(0, .gone), (2, .vec (s0.2.length + ([(⟨y0, 0⟩ : St106)] : List St106).length) 2 107 (s0.2.flatMap encSt106 ++ ([(⟨y0, 0⟩ : St106)] : List St106).flatMap encSt106))]⟩) (ef' := ⟨.vc 2, [0, 1], [(0, .gone), (2, vecL encSt106 2 107 (s0.2 ++ ([(⟨y0, 0⟩ : St106)] : List St106)))]⟩) (c := room (s0.2.length + ([(⟨y0, 0⟩ : St106)] : List St106).length)) (tr2 := []) (H2 := [.gone, vecL encSt106 2 107 ([(⟨y0, 0⟩ : St106)] : List St106), vecL encSt106 2 107 ((s0.2 ++ ([(⟨y0, 0⟩ : St106)] : List St106)))]) (by kernel_rfl) hm (fun hc => N.app) (by kernel_rfl) ?_
    refine kC 1 [0,1,4,5,6,7,8,10] ?_
    refine kEN ?_
    refine kSR ?_
    refine kC 3 [0,1,4,5,6,7,8,10] ?_
    refine kEN ?_
    refine K.exit 1 (by kernel_rfl) ?_
    refine PJ.passExit ?_
    refine PJ.blockOut ?_
    obtain rfl := oi h9
    refine kW (L2 := [(0, lsv (encI .i32) 1 x0), (1, .int .i64 (IntKind.wrap .i64 (s0.1 + 1))), (4, .nl), (5, .int .i64 0), (6, .bool false), (7, .vc 0)]) (H2 := [vecL encSt106 2 107 ((s0.2 ++ ([(⟨y0, 0⟩ : St106)] : List St106)))]) hFH hFD [2] ?_
    exact kLN [0, 1, 4, 5, 6, 7]
   ·refine kF ?_
    refine kK ?_
    refine PJ.next ?_
    refine kS ?_
    refine kSR ?_
    refine RJ.seg 2 [0, 1, 4, 5, 6, 7, 8, 10, 34] (L2 := [(0, lsv (encI .i32) 1 x0), (1, .int .i64 s0.1), (4, .nl), (5, .int .i64 0), (6, .bool false), (7, .vc 0), (8, .int .i32 (nth x0 s0.1)), (10, .bool y1), (34, .bool ((decide (¬ (nth x0 s0.1) = 39))))]) (H2 := [vecL encSt106 2 107 s0.2]) (by kernel_rfl) ?_
    refine kEN ?_
    refine kBJ 34 h8 (fun h10 => ?_) (fun h11 => ?_)
    ·refine kT ?_
     refine kS ?_
     refine kSR ?_
     refine kC 1 [0,1,4,5,6,7,8,35] ?_
     refine kEN ?_
     refine kBJ 35 h10 (fun h12 => ?_) (fun h13 => ?_)
     ·refine kT ?_
      refine kSR ?_
      refine kC 5 [0,1,4,5,6,7,8] ?_
      refine kEN ?_
      refine kX ?_
      refine PJ.passRet ?_
      refine PJ.passRet ?_
      refine PJ.blockRet ?_
      obtain rfl := oi h12
      refine PJ.loopOut (fun e => nomatch e) (fun he0 => ?_)
      have h14 := congrArg some he0
      refine PJ.blockRet ?_
      obtain rfl := oi h14
      have h15 := joinX_inr h0
      refine PJ.cutXr (fun e => nomatch e) ?_
      obtain rfl := oi h15
      refine PJ.wk (Wk.freeze 0 (n := s0.2.length) (k := 2) (e := 107) (cs := s0.2.flatMap encSt106) (by kernel_rfl)) ?_
      exact kZ hFn hFH hFD
     ·refine kF ?_
      refine kK ?_
      refine PJ.next ?_
      refine kSR ?_
      refine kC 4 [0,1,4,5,6,7,38,41] ?_
      obtain ⟨hm, h16⟩ := asrt h13
      refine RJ.rel (d := (some 42)) (ef := ⟨.vc 2, [0, 1], [(0, .gone), (2, .vec (s0.2.length + (([(⟨0, (nth x0 s0.1)⟩ : St106)] : List St106)).length) 2 107 (s0.2.flatMap encSt106 ++ (([(⟨0, (nth x0 s0.1)⟩ : St106)] : List St106)).flatMap encSt106))]⟩) (ef' := ⟨.vc 2, [0, 1], [(0, .gone), (2, vecL encSt106 2 107 (s0.2 ++ (([(⟨0, (nth x0 s0.1)⟩ : St106)] : List St106))))]⟩) (c := room (s0.2.length + (([(⟨0, (nth x0 s0.1)⟩ : St106)] : List St106)).length)) (tr2 := []) (H2 := [.gone, vecL encSt106 2 107 (([(⟨0, (nth x0 s0.1)⟩ : St106)] : List St106)), vecL encSt106 2 107 ((s0.2 ++ (([(⟨0, (nth x0 s0.1)⟩ : St106)] : List St106))))]) (by kernel_rfl) hm (fun hc => N.app) (by kernel_rfl) ?_
      refine kC 1 [0,1,4,5,6,7] ?_
      refine kEN ?_
      refine kSR ?_
      refine kC 3 [0,1,4,5,6,7] ?_
      refine kEN ?_
      refine K.exit 1 (by kernel_rfl) ?_
      refine PJ.passExit ?_
      refine PJ.blockOut ?_
      obtain rfl := oi h16
      refine kW (L2 := [(0, lsv (encI .i32) 1 x0), (1, .int .i64 (IntKind.wrap .i64 (s0.1 + 1))), (4, .nl), (5, .int .i64 0), (6, .bool false), (7, .vc 0)]) (H2 := [vecL encSt106 2 107 ((s0.2 ++ (([(⟨0, (nth x0 s0.1)⟩ : St106)] : List St106))))]) hFH hFD [2] ?_
      exact kLN [0, 1, 4, 5, 6, 7]
    ·refine kF ?_
     refine kK ?_
     refine PJ.next ?_
     refine kS ?_
     refine kSR ?_
     refine kC 3 [0,1,4,5,6,7,45,47] ?_
     obtain ⟨y2, hy3, h17⟩ := bindS h11
     refine kA 48 (exergueref10_at_ok hy3) ?_
     refine kC 1 [0,1,4,5,6,7,49] ?_
     refine kEN ?_
     refine kBJ 49 h17 (fun h18 => ?_) (fun h19 => ?_)
     ·refine kT ?_
      refine kSR ?_
      refine kC 3 [0,1,4,5,6,7,50,52] ?_
      obtain ⟨hm, h20⟩ := asrt h18
      refine RJ.rel (d := (some 53)) (ef := ⟨.vc 2, [0, 1], [(0, .gone), (2, .vec (s0.2.length + ([(⟨0, 39⟩ : St106)] : List St106).length) 2 107 (s0.2.flatMap encSt106 ++ ([(⟨0, 39⟩ : St106)] : List St106).flatMap encSt106))]⟩) (ef' := ⟨.vc 2, [0, 1], [(0, .gone), (2, vecL encSt106 2 107 (s0.2 ++ ([(⟨0, 39⟩ : St106)] : List St106)))]⟩) (c := room (s0.2.length + ([(⟨0, 39⟩ : St106)] : List St106).length)) (tr2 := []) (H2 := [.gone, vecL encSt106 2 107 ([(⟨0, 39⟩ : St106)] : List St106), vecL encSt106 2 107 ((s0.2 ++ ([(⟨0, 39⟩ : St106)] : List St106)))]) (by kernel_rfl) hm (fun hc => N.app) (by kernel_rfl) ?_
      refine kC 1 [0,1,4,5,6,7] ?_
      refine kEN ?_
      refine kSR ?_
      refine kC 3 [0,1,4,5,6,7] ?_
      refine kEN ?_
      refine K.exit 1 (by kernel_rfl) ?_
      refine PJ.passExit ?_
      refine PJ.blockOut ?_
      obtain rfl := oi h20
      refine kW (L2 := [(0, lsv (encI .i32) 1 x0), (1, .int .i64 (IntKind.wrap .i64 (s0.1 + 2))), (4, .nl), (5, .int .i64 0), (6, .bool false), (7, .vc 0)]) (H2 := [vecL encSt106 2 107 ((s0.2 ++ ([(⟨0, 39⟩ : St106)] : List St106)))]) hFH hFD [2] ?_
      exact kLN [0, 1, 4, 5, 6, 7]
     ·refine kF ?_
      refine kK ?_
      refine PJ.next ?_
      refine kSR ?_
      refine kC 2 [0,1,4,5,6,7,11] ?_
      refine kEN ?_
      refine kSR ?_
      refine kC 3 [0,1,4,5,6,7,11] ?_
      refine kEN ?_
      obtain ⟨s2, hy4, h21⟩ := bindS h19
      refine K.cutN (by kernel_rfl) (fun (s2 : Int × (List St106)) => ([(0, lsv (encI .i32) 1 x0), (1, .int .i64 s2.1), (4, .nl), (5, .int .i64 0), (6, .bool false), (7, .vc 0), (11, .int .i64 s0.1)], [vecL encSt106 2 107 s2.2])) s2 ?_ ?_
      ·refine kb 2 ?_
       refine kl (fun (s1 : Int × (List St106)) => ([(0, lsv (encI .i32) 1 x0), (1, .int .i64 s1.1), (4, .nl), (5, .int .i64 0), (6, .bool false), (7, .vc 0), (11, .int .i64 s0.1)], [vecL encSt106 2 107 s1.2])) hy4 [0, 1, 4, 5, 6, 7, 11] (fun s1 x3173 hs1 => ?_)
       obtain ⟨y5, hy5, h1⟩ := bindS hs1
       refine K.cutX (by kernel_rfl) (fun (s6 : Unit) => ([(0, lsv (encI .i32) 1 x0), (1, .int .i64 s1.1), (4, .nl), (5, .int .i64 0), (6, .bool false), (7, .vc 0), (11, .int .i64 s0.1)], [vecL encSt106 2 107 s1.2])) y5 ?_ (fun s6 hs => ?_)
       ·obtain ⟨s4, hy6, h22⟩ := bindS hy5
        refine K.cutN (by kernel_rfl) (fun (s4 : Bool) => ([(0, lsv (encI .i32) 1 x0), (1, .int .i64 s1.1), (4, .nl), (5, .int .i64 0), (6, .bool false), (7, .vc 0), (11, .int .i64 s0.1), (76, .bool s4)], [vecL encSt106 2 107 s1.2])) s4 ?_ ?_
        ·refine kR ?_
         refine kC 5 [0,1,4,5,6,7,11,63] ?_
         refine kB 63 hy6 (fun h23 => ?_) (fun h24 => ?_)
         ·refine kC 2 [0,1,4,5,6,7,11,63,64,65] ?_
          obtain ⟨hm, h25⟩ := asrt h23
          refine kI 66 (encI_len .i32) hm ?_
          refine kC 3 [0,1,4,5,6,7,11,63,69] ?_
          refine kB 69 h25 (fun h26 => ?_) (fun h27 => ?_)
          ·refine kC 7 [0,1,4,5,6,7,11,76] ?_
           refine kE ?_
           obtain rfl := oi h26
           exact kN [0, 1, 4, 5, 6, 7, 11, 76]
          ·refine kC 3 [0,1,4,5,6,7,11,63,69,70,72] ?_
           obtain ⟨y3, hy7, h28⟩ := bindS h27
           refine kA 73 (exergueref10_at_ok hy7) ?_
           refine kC 3 [0,1,4,5,6,7,11,76] ?_
           refine kE ?_
           obtain rfl := oi h28
           exact kN [0, 1, 4, 5, 6, 7, 11, 76]
         ·refine kC 13 [0,1,4,5,6,7,11,76] ?_
          refine kE ?_
          obtain rfl := oi h24
          exact kN [0, 1, 4, 5, 6, 7, 11, 76]
        ·refine kBJ 76 h22 (fun h29 => ?_) (fun h30 => ?_)
         ·refine kT ?_
          refine kK ?_
          obtain rfl := oi h29
          exact kXl [0, 1, 4, 5, 6, 7, 11]
         ·refine kF ?_
          refine K.exit 2 (by kernel_rfl) ?_
          obtain rfl := oi h30
          have h31 := joinX_inr h1
          refine PJ.cutXr (fun e => nomatch e) ?_
          obtain rfl := oi h31
          refine PJ.loopOut (fun e => nomatch e) (fun he1 => ?_)
          have h32 := congrArg some he1
          refine PJ.blockOut ?_
          obtain rfl := oi h32
          exact kN [0, 1, 4, 5, 6, 7, 11]
       ·subst hs
        have h33 := joinX_inl h1
        refine kb 3 ?_
        refine kSR ?_
        refine kC 3 [0,1,4,5,6,7,11,77,78,79] ?_
        obtain ⟨hm, h34⟩ := asrt h33
        refine kI 80 (encI_len .i32) hm ?_
        refine kC 3 [0,1,4,5,6,7,11,77,83] ?_
        obtain ⟨hm, h35⟩ := asrt h34
        refine RJ.rel (d := (some 84)) (ef := ⟨.vc 2, [0, 1], [(0, .gone), (2, .vec (s1.2.length + (([(⟨0, (nth x0 s1.1)⟩ : St106)] : List St106)).length) 2 107 (s1.2.flatMap encSt106 ++ (([(⟨0, (nth x0 s1.1)⟩ : St106)] : List St106)).flatMap encSt106))]⟩) (ef' := ⟨.vc 2, [0, 1], [(0, .gone), (2, vecL encSt106 2 107 (s1.2 ++ (([(⟨0, (nth x0 s1.1)⟩ : St106)] : List St106))))]⟩) (c := room (s1.2.length + (([(⟨0, (nth x0 s1.1)⟩ : St106)] : List St106)).length)) (tr2 := []) (H2 := [.gone, vecL encSt106 2 107 (([(⟨0, (nth x0 s1.1)⟩ : St106)] : List St106)), vecL encSt106 2 107 ((s1.2 ++ (([(⟨0, (nth x0 s1.1)⟩ : St106)] : List St106))))]) (by kernel_rfl) hm (fun hc => N.app) (by kernel_rfl) ?_
        refine kC 1 [0,1,4,5,6,7,11] ?_
        refine kEN ?_
        obtain ⟨s5, hy8, h36⟩ := bindS h35
        refine K.cutN (by kernel_rfl) (fun (s5 : Int) => ([(0, lsv (encI .i32) 1 x0), (1, .int .i64 s5), (4, .nl), (5, .int .i64 0), (6, .bool false), (7, .vc 0), (11, .int .i64 s0.1)], [vecL encSt106 2 107 ((s1.2 ++ (([(⟨0, (nth x0 s1.1)⟩ : St106)] : List St106))))])) s5 ?_ ?_
        ·refine kSR ?_
         refine kC 2 [0,1,4,5,6,7,11,85,86] ?_
         obtain ⟨hm, h37⟩ := asrt hy8
         refine kI 87 (encI_len .i32) hm ?_
         refine kC 2 [0,1,4,5,6,7,11,89] ?_
         refine kEN ?_
         refine kBJ 89 h37 (fun h38 => ?_) (fun h39 => ?_)
         ·refine kT ?_
          refine kR ?_
          refine kC 3 [0,1,4,5,6,7,11] ?_
          refine kE ?_
          obtain rfl := oi h38
          refine kW (L2 := [(0, lsv (encI .i32) 1 x0), (1, .int .i64 (IntKind.wrap .i64 (s1.1 + 1))), (4, .nl), (5, .int .i64 0), (6, .bool false), (7, .vc 0), (11, .int .i64 s0.1)]) (H2 := [vecL encSt106 2 107 ((s1.2 ++ (([(⟨0, (nth x0 s1.1)⟩ : St106)] : List St106))))]) hFH hFD [2] ?_
          exact kN [0, 1, 4, 5, 6, 7, 11]
         ·refine kF ?_
          refine kK ?_
          obtain rfl := oi h39
          refine kW (L2 := [(0, lsv (encI .i32) 1 x0), (1, .int .i64 s1.1), (4, .nl), (5, .int .i64 0), (6, .bool false), (7, .vc 0), (11, .int .i64 s0.1)]) (H2 := [vecL encSt106 2 107 ((s1.2 ++ (([(⟨0, (nth x0 s1.1)⟩ : St106)] : List St106))))]) hFH hFD [2] ?_
          exact kN [0, 1, 4, 5, 6, 7, 11]
        ·refine kR ?_
         refine kC 3 [0,1,4,5,6,7,11] ?_
         refine kE ?_
         refine PJ.blockNormal ?_
         obtain rfl := oi h36
         exact kLN [0, 1, 4, 5, 6, 7, 11]
      ·refine kS ?_
       refine kSR ?_
       refine kC 4 [0,1,4,5,6,7,11,97] ?_
       refine kEN ?_
       refine kBJ 97 h21 (fun h40 => ?_) (fun h41 => ?_)
       ·refine kT ?_
        refine kSR ?_
        refine kC 4 [0,1,4,5,6,7] ?_
        refine kEN ?_
        refine kX ?_
        refine PJ.passRet ?_
        refine PJ.blockRet ?_
        obtain rfl := oi h40
        refine PJ.loopOut (fun e => nomatch e) (fun he2 => ?_)
        have h42 := congrArg some he2
        refine PJ.blockRet ?_
        obtain rfl := oi h42
        have h43 := joinX_inr h0
        refine PJ.cutXr (fun e => nomatch e) ?_
        obtain rfl := oi h43
        refine PJ.res (v1 := .tup [.nl, .int .i64 s0.1, .bool false]) (Le.tup (.cons (Le.nl _) (.cons (Le.refl _) (.cons (Le.refl _) .nil)))) ?_
        exact kZ hFn hFH hFD
       ·refine kF ?_
        refine kK ?_
        refine PJ.next ?_
        refine kR ?_
        refine kC 3 [0,1,4,5,6,7] ?_
        refine kE ?_
        refine PJ.blockNormal ?_
        obtain rfl := oi h41
        exact kLN [0, 1, 4, 5, 6, 7]
  ·refine kF ?_
   refine K.exit 0 (by kernel_rfl) ?_
   refine PJ.passExit ?_
   obtain rfl := oi h3
   refine PJ.loopOut (fun e => nomatch e) (fun he3 => ?_)
   have h44 := congrArg some he3
   refine PJ.blockOut ?_
   obtain rfl := oi h44
   exact kXl [1, 4, 5, 6, 7]
 ·subst hs
  have h45 := joinX_inl h0
  refine kSR ?_
  refine kC 5 [4,5,6] ?_
  refine kEN ?_
  refine kX ?_
  obtain rfl := oi h45
  refine PJ.wk (Wk.freeze 0 (n := s3.2.length) (k := 2) (e := 107) (cs := s3.2.flatMap encSt106) (by kernel_rfl)) ?_
  exact kZ hFn hFH hFD
def exergueref10_many (x0 : List Int) (x1 : Int) (x2 : Int) : Option (Int) :=
 (Option.bind (loopN (fun (s0 : Int) => (Option.bind (exergueref10_at x0 (IntKind.wrap .i64 (x1 + s0))) fun y0 => (bif (decide (y0 = x2)) then (some (.inl (IntKind.wrap .i64 (s0 + 1)))) else (some (.inr s0))))) big 0) fun (s1 : Int) => (some s1))
theorem exergueref10_many_ok {x0 : List Int} {x1 : Int} {x2 : Int} {r : Int} (h : exergueref10_many x0 x1 x2 = some r) : SC Tryz.prog 126 [lsv (encI .i32) 1 x0, .int .i64 x1, .int .i32 x2] [] (.int .i64 r) [] := by
 refine kFn (fn := Tryz.f126) (fun F hFn hFH hFD => ?_)
 unfold exergueref10_many at h
 refine kSR ?_
 refine kC 1 [0,1,2,6] ?_
 refine kEN ?_
 refine kSR ?_
 refine kC 1 [0,1,2,6,7] ?_
 refine kEN ?_
 obtain ⟨s1, hy0, h0⟩ := bindS h
 refine K.cutN (by kernel_rfl) (fun (s1 : Int) => ([(6, .int .i64 0), (7, .int .i64 s1)], [])) s1 ?_ ?_
 ·refine kb 0 ?_
  refine kl (fun (s0 : Int) => ([(0, lsv (encI .i32) 1 x0), (1, .int .i64 x1), (2, .int .i32 x2), (6, .int .i64 0), (7, .int .i64 s0)], [])) hy0 [0, 1, 2, 6, 7] (fun s0 x51 hs0 => ?_)
  refine kS ?_
  refine kSR ?_
  refine kC 4 [0,1,2,6,7,8,11] ?_
  obtain ⟨y0, hy1, h1⟩ := bindS hs0
  refine kA 12 (exergueref10_at_ok hy1) ?_
  refine kC 2 [0,1,2,6,7,14] ?_
  refine kEN ?_
  refine kBJ 14 h1 (fun h2 => ?_) (fun h3 => ?_)
  ·refine kT ?_
   refine kK ?_
   refine PJ.next ?_
   refine kb 1 ?_
   refine kR ?_
   refine kC 3 [0,1,2,6,7] ?_
   refine kE ?_
   refine PJ.blockNormal ?_
   obtain rfl := oi h2
   exact kLN [0, 1, 2, 6, 7]
  ·refine kF ?_
   refine K.exit 0 (by kernel_rfl) ?_
   refine PJ.passExit ?_
   obtain rfl := oi h3
   refine PJ.loopOut (fun e => nomatch e) (fun he0 => ?_)
   have h4 := congrArg some he0
   refine PJ.blockOut ?_
   obtain rfl := oi h4
   exact kN [6, 7]
 ·refine kSR ?_
  refine kC 2 [6] ?_
  refine kEN ?_
  refine kX ?_
  obtain rfl := oi h0
  exact kZ hFn hFH hFD
def exergueref10_places (x0 : St25) (x1 : List Int) (x2 : Int) : Option (St25 × Int × Bool) :=
 (loopN (fun (s0 : Int × Int × Int × Int × (List Int)) => (Option.bind (exergueref10_at x1 s0.1) fun y0 => (Option.bind (exergueref10_at x1 (IntKind.wrap .i64 (s0.1 + 1))) fun y1 => (Option.bind (Option.bind (bif (decide (y0 = 35)) then (some (decide (s0.2.2.2.1 = 0))) else (some false)) fun (s3 : Bool) => (bif s3 then (some (.inr (.inl ((IntKind.wrap .i64 (s0.1 + 1)), (IntKind.wrap .i64 (s0.2.1 + 1)), (IntKind.wrap .i64 (s0.2.2.1 + 1)), s0.2.2.2.1, s0.2.2.2.2)))) else (some (.inl ())))) (joinX fun (s6 : Unit) => (bif (decide (y0 = 48)) then (some (.inl ((IntKind.wrap .i64 (s0.1 + 1)), (IntKind.wrap .i64 (s0.2.1 + 1)), s0.2.2.1, (IntKind.wrap .i64 (s0.2.2.2.1 + 1)), s0.2.2.2.2))) else (Option.bind (Option.bind (bif (decide (y0 = 44)) then (bif (decide (s0.2.1 > 0)) then (bif (decide (y1 = 48)) then (some true) else (bif (decide (y1 = 35)) then (some (decide (s0.2.2.2.1 = 0))) else (some false))) else (some false)) else (some false)) fun (s4 : Bool) => (bif s4 then (Option.bind (Option.bind (bif (decide ((s0.2.2.2.2.length : Int) ≥ 2)) then (bif inR 1 s0.2.2.2.2.length then (bif inR 1 s0.2.2.2.2.length then (some ((decide (¬ (nth s0.2.2.2.2 1) = s0.2.1)))) else none) else none) else (some false)) fun (s5 : Bool) => (bif s5 then (some (.inr (.inr (.inr ((⟨x0.Pre_, x0.Suf_, x0.NPre_, x0.NSuf_, x0.Neg_, s0.2.2.1, s0.2.2.2.1, x0.MinFrac_, x0.MaxFrac_, x0.G1_, x0.G2_, x0.MinSig_, x0.MaxSig_, x0.Exp_, x0.ExpPlus_, x0.Pad_, x0.PadAt_⟩ : St25), s0.1, false))))) else (some (.inl ())))) (joinX fun (s7 : Unit) => (bif room (s0.2.2.2.2.length + ([s0.2.1] : List Int).length) then (some (.inr (.inl ((IntKind.wrap .i64 (s0.1 + 1)), 0, s0.2.2.1, s0.2.2.2.1, (s0.2.2.2.2 ++ ([s0.2.1] : List Int)))))) else none))) else (some (.inl ())))) (joinX fun (s8 : Unit) => (Option.bind (bif (decide ((s0.2.2.2.2.length : Int) = 1)) then (some (s0.2.1, s0.2.1)) else (some (x0.G1_, x0.G2_))) fun (s2 : Int × Int) => (Option.bind (bif (decide ((s0.2.2.2.2.length : Int) > 1)) then (bif inR 1 s0.2.2.2.2.length then (bif inR 1 s0.2.2.2.2.length then (some (s0.2.1, (nth s0.2.2.2.2 1))) else none) else none) else (some (s2.1, s2.2))) fun (s1 : Int × Int) => (some (.inr ((⟨x0.Pre_, x0.Suf_, x0.NPre_, x0.NSuf_, x0.Neg_, s0.2.2.1, s0.2.2.2.1, x0.MinFrac_, x0.MaxFrac_, s1.1, s1.2, x0.MinSig_, x0.MaxSig_, x0.Exp_, x0.ExpPlus_, x0.Pad_, x0.PadAt_⟩ : St25), s0.1, (decide ((IntKind.wrap .i64 (s0.2.2.1 + s0.2.2.2.1)) > 0))))))))))))))) big (x2, 0, x0.Hash_, x0.MinInt_, ([] : List Int)))
theorem exergueref10_places_ok {x0 : St25} {x1 : List Int} {x2 : Int} {r : St25 × Int × Bool} (h : exergueref10_places x0 x1 x2 = some r) : SC Tryz.prog 127 [.agg (encSt25 x0), lsv (encI .i32) 1 x1, .int .i64 x2] [] (.tup [.agg (encSt25 r.1), .int .i64 r.2.1, .bool r.2.2]) [] := by
 refine kFn (fn := Tryz.f127) (fun F hFn hFH hFD => ?_)
 unfold exergueref10_places at h
 refine kSR ?_
 refine kC 4 [1,2,3,6,7,8] ?_
 refine kEN ?_
 refine kSR ?_
 refine kC 1 [1,2,3,6,7,8,9] ?_
 refine kEN ?_
 refine kSR ?_
 refine kC 1 [1,2,3,6,7,8,9,10] ?_
 refine kEN ?_
 refine kb 0 ?_
 refine J.wk (Wk.viv 9 1 3 (by kernel_rfl)) ?_
 refine kl (fun (s0 : Int × Int × Int × Int × (List Int)) => ([(1, lsv (encI .i32) 1 x1), (2, .int .i64 s0.1), (3, .ptr 0 0), (6, .ptr 1 0), (7, .int .i64 0), (8, .bool false), (9, .vc 2), (10, .int .i64 s0.2.1)], [.box [lsv encSt106 2 x0.Pre_, lsv encSt106 2 x0.Suf_, lsv encSt106 2 x0.NPre_, lsv encSt106 2 x0.NSuf_, .bool x0.Neg_, .int .i64 s0.2.2.1, .int .i64 s0.2.2.2.1, .int .i64 x0.MinFrac_, .int .i64 x0.MaxFrac_, .int .i64 x0.G1_, .int .i64 x0.G2_, .int .i64 x0.MinSig_, .int .i64 x0.MaxSig_, .int .i64 x0.Exp_, .bool x0.ExpPlus_, .int .i32 x0.Pad_, .int .i64 x0.PadAt_], .box [.nl, .nl, .nl, .nl, .bool false, .int .i64 0, .int .i64 0, .int .i64 0, .int .i64 0, .int .i64 0, .int .i64 0, .int .i64 0, .int .i64 0, .int .i64 0, .bool false, .int .i32 0, .int .i64 0], vecL (encI .i64) 1 3 s0.2.2.2.2])) h [1, 2, 3, 6, 7, 8, 9, 10] (fun s0 x441 hs0 => ?_)
 refine kb 1 ?_
 refine kSR ?_
 refine kC 2 [1,2,3,6,7,8,9,10,13,14] ?_
 obtain ⟨y0, hy0, h3⟩ := bindS hs0
 refine kA 15 (exergueref10_at_ok hy0) ?_
 refine kC 1 [1,2,3,6,7,8,9,10,11] ?_
 refine kEN ?_
 refine kSR ?_
 refine kC 3 [1,2,3,6,7,8,9,10,11,16,18] ?_
 obtain ⟨y1, hy1, h4⟩ := bindS h3
 refine kA 19 (exergueref10_at_ok hy1) ?_
 refine kC 1 [1,2,3,6,7,8,9,10,11,12] ?_
 refine kEN ?_
 obtain ⟨y2, hy2, h1⟩ := bindS h4
 refine K.cutX (by kernel_rfl) (fun (s6 : Unit) => ([(1, lsv (encI .i32) 1 x1), (2, .int .i64 s0.1), (3, .ptr 0 0), (6, .ptr 1 0), (7, .int .i64 0), (8, .bool false), (9, .vc 2), (10, .int .i64 s0.2.1), (11, .int .i32 y0), (12, .int .i32 y1)], [.box [lsv encSt106 2 x0.Pre_, lsv encSt106 2 x0.Suf_, lsv encSt106 2 x0.NPre_, lsv encSt106 2 x0.NSuf_, .bool x0.Neg_, .int .i64 s0.2.2.1, .int .i64 s0.2.2.2.1, .int .i64 x0.MinFrac_, .int .i64 x0.MaxFrac_, .int .i64 x0.G1_, .int .i64 x0.G2_, .int .i64 x0.MinSig_, .int .i64 x0.MaxSig_, .int .i64 x0.Exp_, .bool x0.ExpPlus_, .int .i32 x0.Pad_, .int .i64 x0.PadAt_], .box [.nl, .nl, .nl, .nl, .bool false, .int .i64 0, .int .i64 0, .int .i64 0, .int .i64 0, .int .i64 0, .int .i64 0, .int .i64 0, .int .i64 0, .int .i64 0, .bool false, .int .i32 0, .int .i64 0], vecL (encI .i64) 1 3 s0.2.2.2.2])) y2 ?_ (fun s6 hs => ?_)
 ·obtain ⟨s3, hy3, h5⟩ := bindS hy2
  refine K.cutN (by kernel_rfl) (fun (s3 : Bool) => ([(1, lsv (encI .i32) 1 x1), (2, .int .i64 s0.1), (3, .ptr 0 0), (6, .ptr 1 0), (7, .int .i64 0), (8, .bool false), (9, .vc 2), (10, .int .i64 s0.2.1), (11, .int .i32 y0), (12, .int .i32 y1), (26, .bool s3)], [.box [lsv encSt106 2 x0.Pre_, lsv encSt106 2 x0.Suf_, lsv encSt106 2 x0.NPre_, lsv encSt106 2 x0.NSuf_, .bool x0.Neg_, .int .i64 s0.2.2.1, .int .i64 s0.2.2.2.1, .int .i64 x0.MinFrac_, .int .i64 x0.MaxFrac_, .int .i64 x0.G1_, .int .i64 x0.G2_, .int .i64 x0.MinSig_, .int .i64 x0.MaxSig_, .int .i64 x0.Exp_, .bool x0.ExpPlus_, .int .i32 x0.Pad_, .int .i64 x0.PadAt_], .box [.nl, .nl, .nl, .nl, .bool false, .int .i64 0, .int .i64 0, .int .i64 0, .int .i64 0, .int .i64 0, .int .i64 0, .int .i64 0, .int .i64 0, .int .i64 0, .bool false, .int .i32 0, .int .i64 0], vecL (encI .i64) 1 3 s0.2.2.2.2])) s3 ?_ ?_
  ·refine kR ?_
   refine kC 3 [1,2,3,6,7,8,9,10,11,12,22] ?_
   refine kB 22 hy3 (fun h6 => ?_) (fun h7 => ?_)
   ·refine kC 4 [1,2,3,6,7,8,9,10,11,12,26] ?_
    refine kE ?_
    obtain rfl := oi h6
    exact kN [1, 2, 3, 6, 7, 8, 9, 10, 11, 12, 26]
   ·refine kC 4 [1,2,3,6,7,8,9,10,11,12,26] ?_
    refine kE ?_
    obtain rfl := oi h7
    exact kN [1, 2, 3, 6, 7, 8, 9, 10, 11, 12, 26]
  ·refine kBJ 26 h5 (fun h8 => ?_) (fun h9 => ?_)
   ·refine kT ?_
    refine kSR ?_
    refine kC 5 [1,2,3,6,7,8,9,10,11,12] ?_
    refine kEN ?_
    refine kSR ?_
    refine kC 3 [1,2,3,6,7,8,9,10,11,12] ?_
    refine kEN ?_
    refine kSR ?_
    refine kC 3 [1,2,3,6,7,8,9,10,11,12] ?_
    refine kEN ?_
    refine K.exit 1 (by kernel_rfl) ?_
    obtain rfl := oi h8
    have h10 := joinX_inr h1
    refine PJ.cutXr (fun e => nomatch e) ?_
    refine PJ.blockOut ?_
    obtain rfl := oi h10
    exact kLN [1, 2, 3, 6, 7, 8, 9, 10]
   ·refine kF ?_
    refine kK ?_
    obtain rfl := oi h9
    exact kXl [1, 2, 3, 6, 7, 8, 9, 10, 11, 12]
 ·subst hs
  have h11 := joinX_inl h1
  refine kS ?_
  refine kSR ?_
  refine kC 2 [1,2,3,6,7,8,9,10,11,12,36] ?_
  refine kEN ?_
  refine kBJ 36 h11 (fun h12 => ?_) (fun h13 => ?_)
  ·refine kT ?_
   refine kSR ?_
   refine kC 5 [1,2,3,6,7,8,9,10,11,12] ?_
   refine kEN ?_
   refine kSR ?_
   refine kC 3 [1,2,3,6,7,8,9,10,11,12] ?_
   refine kEN ?_
   refine kSR ?_
   refine kC 3 [1,2,3,6,7,8,9,10,11,12] ?_
   refine kEN ?_
   refine K.exit 1 (by kernel_rfl) ?_
   refine PJ.passExit ?_
   refine PJ.blockOut ?_
   obtain rfl := oi h12
   exact kLN [1, 2, 3, 6, 7, 8, 9, 10]
  ·refine kF ?_
   refine kK ?_
   refine PJ.next ?_
   obtain ⟨y3, hy4, h0⟩ := bindS h13
   refine K.cutX (by kernel_rfl) (fun (s8 : Unit) => ([(1, lsv (encI .i32) 1 x1), (2, .int .i64 s0.1), (3, .ptr 0 0), (6, .ptr 1 0), (7, .int .i64 0), (8, .bool false), (9, .vc 2), (10, .int .i64 s0.2.1)], [.box [lsv encSt106 2 x0.Pre_, lsv encSt106 2 x0.Suf_, lsv encSt106 2 x0.NPre_, lsv encSt106 2 x0.NSuf_, .bool x0.Neg_, .int .i64 s0.2.2.1, .int .i64 s0.2.2.2.1, .int .i64 x0.MinFrac_, .int .i64 x0.MaxFrac_, .int .i64 x0.G1_, .int .i64 x0.G2_, .int .i64 x0.MinSig_, .int .i64 x0.MaxSig_, .int .i64 x0.Exp_, .bool x0.ExpPlus_, .int .i32 x0.Pad_, .int .i64 x0.PadAt_], .box [.nl, .nl, .nl, .nl, .bool false, .int .i64 0, .int .i64 0, .int .i64 0, .int .i64 0, .int .i64 0, .int .i64 0, .int .i64 0, .int .i64 0, .int .i64 0, .bool false, .int .i32 0, .int .i64 0], vecL (encI .i64) 1 3 s0.2.2.2.2])) y3 ?_ (fun s8 hs => ?_)
   ·obtain ⟨s4, hy5, h14⟩ := bindS hy4
    refine K.cutN (by kernel_rfl) (fun (s4 : Bool) => ([(1, lsv (encI .i32) 1 x1), (2, .int .i64 s0.1), (3, .ptr 0 0), (6, .ptr 1 0), (7, .int .i64 0), (8, .bool false), (9, .vc 2), (10, .int .i64 s0.2.1), (63, .bool s4)], [.box [lsv encSt106 2 x0.Pre_, lsv encSt106 2 x0.Suf_, lsv encSt106 2 x0.NPre_, lsv encSt106 2 x0.NSuf_, .bool x0.Neg_, .int .i64 s0.2.2.1, .int .i64 s0.2.2.2.1, .int .i64 x0.MinFrac_, .int .i64 x0.MaxFrac_, .int .i64 x0.G1_, .int .i64 x0.G2_, .int .i64 x0.MinSig_, .int .i64 x0.MaxSig_, .int .i64 x0.Exp_, .bool x0.ExpPlus_, .int .i32 x0.Pad_, .int .i64 x0.PadAt_], .box [.nl, .nl, .nl, .nl, .bool false, .int .i64 0, .int .i64 0, .int .i64 0, .int .i64 0, .int .i64 0, .int .i64 0, .int .i64 0, .int .i64 0, .int .i64 0, .bool false, .int .i32 0, .int .i64 0], vecL (encI .i64) 1 3 s0.2.2.2.2])) s4 ?_ ?_
    ·refine kR ?_
     refine kC 3 [1,2,3,6,7,8,9,10,12,47] ?_
     refine kB 47 hy5 (fun h15 => ?_) (fun h16 => ?_)
     ·refine kC 4 [1,2,3,6,7,8,9,10,12,51] ?_
      refine kB 51 h15 (fun h17 => ?_) (fun h18 => ?_)
      ·refine kC 3 [1,2,3,6,7,8,9,10,12,51,54] ?_
       refine kB 54 h17 (fun h19 => ?_) (fun h20 => ?_)
       ·refine kC 9 [1,2,3,6,7,8,9,10,63] ?_
        refine kE ?_
        obtain rfl := oi h19
        exact kN [1, 2, 3, 6, 7, 8, 9, 10, 63]
       ·refine kC 3 [1,2,3,6,7,8,9,10,51,54,57] ?_
        refine kB 57 h20 (fun h21 => ?_) (fun h22 => ?_)
        ·refine kC 6 [1,2,3,6,7,8,9,10,63] ?_
         refine kE ?_
         obtain rfl := oi h21
         exact kN [1, 2, 3, 6, 7, 8, 9, 10, 63]
        ·refine kC 6 [1,2,3,6,7,8,9,10,63] ?_
         refine kE ?_
         obtain rfl := oi h22
         exact kN [1, 2, 3, 6, 7, 8, 9, 10, 63]
      ·refine kC 12 [1,2,3,6,7,8,9,10,63] ?_
       refine kE ?_
       obtain rfl := oi h18
       exact kN [1, 2, 3, 6, 7, 8, 9, 10, 63]
     ·refine kC 16 [1,2,3,6,7,8,9,10,63] ?_
      refine kE ?_
      obtain rfl := oi h16
      exact kN [1, 2, 3, 6, 7, 8, 9, 10, 63]
    ·refine kBJ 63 h14 (fun h23 => ?_) (fun h24 => ?_)
     ·refine kT ?_
      obtain ⟨y4, hy6, h2⟩ := bindS h23
      refine K.cutX (by kernel_rfl) (fun (s7 : Unit) => ([(1, lsv (encI .i32) 1 x1), (2, .int .i64 s0.1), (3, .ptr 0 0), (6, .ptr 1 0), (7, .int .i64 0), (8, .bool false), (9, .vc 2), (10, .int .i64 s0.2.1)], [.box [lsv encSt106 2 x0.Pre_, lsv encSt106 2 x0.Suf_, lsv encSt106 2 x0.NPre_, lsv encSt106 2 x0.NSuf_, .bool x0.Neg_, .int .i64 s0.2.2.1, .int .i64 s0.2.2.2.1, .int .i64 x0.MinFrac_, .int .i64 x0.MaxFrac_, .int .i64 x0.G1_, .int .i64 x0.G2_, .int .i64 x0.MinSig_, .int .i64 x0.MaxSig_, .int .i64 x0.Exp_, .bool x0.ExpPlus_, .int .i32 x0.Pad_, .int .i64 x0.PadAt_], .box [.nl, .nl, .nl, .nl, .bool false, .int .i64 0, .int .i64 0, .int .i64 0, .int .i64 0, .int .i64 0, .int .i64 0, .int .i64 0, .int .i64 0, .int .i64 0, .bool false, .int .i32 0, .int .i64 0], vecL (encI .i64) 1 3 s0.2.2.2.2])) y4 ?_ (fun s7 hs => ?_)
      ·obtain ⟨s5, hy7, h25⟩ := bindS hy6
       refine K.cutN (by kernel_rfl) (fun (s5 : Bool) => ([(1, lsv (encI .i32) 1 x1), (2, .int .i64 s0.1), (3, .ptr 0 0), (6, .ptr 1 0), (7, .int .i64 0), (8, .bool false), (9, .vc 2), (10, .int .i64 s0.2.1), (73, .bool s5)], [.box [lsv encSt106 2 x0.Pre_, lsv encSt106 2 x0.Suf_, lsv encSt106 2 x0.NPre_, lsv encSt106 2 x0.NSuf_, .bool x0.Neg_, .int .i64 s0.2.2.1, .int .i64 s0.2.2.2.1, .int .i64 x0.MinFrac_, .int .i64 x0.MaxFrac_, .int .i64 x0.G1_, .int .i64 x0.G2_, .int .i64 x0.MinSig_, .int .i64 x0.MaxSig_, .int .i64 x0.Exp_, .bool x0.ExpPlus_, .int .i32 x0.Pad_, .int .i64 x0.PadAt_], .box [.nl, .nl, .nl, .nl, .bool false, .int .i64 0, .int .i64 0, .int .i64 0, .int .i64 0, .int .i64 0, .int .i64 0, .int .i64 0, .int .i64 0, .int .i64 0, .bool false, .int .i32 0, .int .i64 0], vecL (encI .i64) 1 3 s0.2.2.2.2])) s5 ?_ ?_
       ·refine kR ?_
        refine kC 4 [1,2,3,6,7,8,9,10,67] ?_
        refine kB 67 hy7 (fun h26 => ?_) (fun h27 => ?_)
        ·refine kC 1 [1,2,3,6,7,8,9,10,67,68] ?_
         obtain ⟨hm, h28⟩ := asrt h26
         refine kQ 69 (.ptr 2 ((1 : Int).toNat * 1)) [2] (tr2 := []) hm ?_
         obtain ⟨hm, h29⟩ := asrt h28
         refine RJ.rel (d := (some 70)) (ef := ⟨(((s0.2.2.2.2).flatMap (encI .i64)).drop ((1 : Int).toNat * 1)).headD .undef, [2], []⟩) (ef' := ⟨.int .i64 (nth s0.2.2.2.2 1), [2], []⟩) (c := Nat.blt ((1 : Int).toNat * 1) (s0.2.2.2.2.flatMap (encI .i64)).length) (tr2 := []) (H2 := [.box [lsv encSt106 2 x0.Pre_, lsv encSt106 2 x0.Suf_, lsv encSt106 2 x0.NPre_, lsv encSt106 2 x0.NSuf_, .bool x0.Neg_, .int .i64 s0.2.2.1, .int .i64 s0.2.2.2.1, .int .i64 x0.MinFrac_, .int .i64 x0.MaxFrac_, .int .i64 x0.G1_, .int .i64 x0.G2_, .int .i64 x0.MinSig_, .int .i64 x0.MaxSig_, .int .i64 x0.Exp_, .bool x0.ExpPlus_, .int .i32 x0.Pad_, .int .i64 x0.PadAt_], .box [.nl, .nl, .nl, .nl, .bool false, .int .i64 0, .int .i64 0, .int .i64 0, .int .i64 0, .int .i64 0, .int .i64 0, .int .i64 0, .int .i64 0, .int .i64 0, .bool false, .int .i32 0, .int .i64 0], vecL (encI .i64) 1 3 s0.2.2.2.2]) (by kernel_rfl) (loadv_ok (encI_len .i64) rfl hm) (fun hc => N.load1 (encI_len .i64) (fun _ => rfl) hm) (by kernel_rfl) ?_
         refine kC 3 [1,2,3,6,7,8,9,10,73] ?_
         refine kE ?_
         obtain rfl := oi h29
         exact kN [1, 2, 3, 6, 7, 8, 9, 10, 73]
        ·refine kC 6 [1,2,3,6,7,8,9,10,73] ?_
         refine kE ?_
         obtain rfl := oi h27
         exact kN [1, 2, 3, 6, 7, 8, 9, 10, 73]
       ·refine kBJ 73 h25 (fun h30 => ?_) (fun h31 => ?_)
        ·refine kT ?_
         refine kSR ?_
         refine kC 5 [1,2,3,6,7,8,9,10] ?_
         refine kEN ?_
         refine kX ?_
         obtain rfl := oi h30
         have h32 := joinX_inr h2
         refine PJ.cutXr (fun e => nomatch e) ?_
         obtain rfl := oi h32
         have h33 := joinX_inr h0
         refine PJ.cutXr (fun e => nomatch e) ?_
         refine PJ.blockRet ?_
         obtain rfl := oi h33
         refine PJ.loopOut (fun e => nomatch e) (fun he0 => ?_)
         have h34 := congrArg some he0
         refine PJ.blockRet ?_
         obtain rfl := oi h34
         exact kZ hFn hFH hFD
        ·refine kF ?_
         refine kK ?_
         obtain rfl := oi h31
         exact kXl [1, 2, 3, 6, 7, 8, 9, 10]
      ·subst hs
       have h35 := joinX_inl h2
       refine kSR ?_
       refine kC 3 [1,2,3,6,7,8,9,10,76,78] ?_
       obtain ⟨hm, h36⟩ := asrt h35
       refine RJ.rel (d := (some 79)) (ef := ⟨.vc 4, [2, 3], [(2, .gone), (4, .vec (s0.2.2.2.2.length + ([s0.2.1] : List Int).length) 1 3 (s0.2.2.2.2.flatMap (encI .i64) ++ ([s0.2.1] : List Int).flatMap (encI .i64)))]⟩) (ef' := ⟨.vc 4, [2, 3], [(2, .gone), (4, vecL (encI .i64) 1 3 (s0.2.2.2.2 ++ ([s0.2.1] : List Int)))]⟩) (c := room (s0.2.2.2.2.length + ([s0.2.1] : List Int).length)) (tr2 := []) (H2 := [.box [lsv encSt106 2 x0.Pre_, lsv encSt106 2 x0.Suf_, lsv encSt106 2 x0.NPre_, lsv encSt106 2 x0.NSuf_, .bool x0.Neg_, .int .i64 s0.2.2.1, .int .i64 s0.2.2.2.1, .int .i64 x0.MinFrac_, .int .i64 x0.MaxFrac_, .int .i64 x0.G1_, .int .i64 x0.G2_, .int .i64 x0.MinSig_, .int .i64 x0.MaxSig_, .int .i64 x0.Exp_, .bool x0.ExpPlus_, .int .i32 x0.Pad_, .int .i64 x0.PadAt_], .box [.nl, .nl, .nl, .nl, .bool false, .int .i64 0, .int .i64 0, .int .i64 0, .int .i64 0, .int .i64 0, .int .i64 0, .int .i64 0, .int .i64 0, .int .i64 0, .bool false, .int .i32 0, .int .i64 0], .gone, vecL (encI .i64) 1 3 ([s0.2.1] : List Int), vecL (encI .i64) 1 3 (s0.2.2.2.2 ++ ([s0.2.1] : List Int))]) (by kernel_rfl) hm (fun hc => N.app) (by kernel_rfl) ?_
       refine kC 1 [1,2,3,6,7,8,9,10] ?_
       refine kEN ?_
       refine kSR ?_
       refine kC 1 [1,2,3,6,7,8,9,10] ?_
       refine kEN ?_
       refine kSR ?_
       refine kC 3 [1,2,3,6,7,8,9,10] ?_
       refine kEN ?_
       refine K.exit 1 (by kernel_rfl) ?_
       obtain rfl := oi h36
       have h37 := joinX_inr h0
       refine PJ.cutXr (fun e => nomatch e) ?_
       refine PJ.blockOut ?_
       obtain rfl := oi h37
       refine kW (L2 := [(1, lsv (encI .i32) 1 x1), (2, .int .i64 (IntKind.wrap .i64 (s0.1 + 1))), (3, .ptr 0 0), (6, .ptr 1 0), (7, .int .i64 0), (8, .bool false), (9, .vc 2), (10, .int .i64 0)]) (H2 := [.box [lsv encSt106 2 x0.Pre_, lsv encSt106 2 x0.Suf_, lsv encSt106 2 x0.NPre_, lsv encSt106 2 x0.NSuf_, .bool x0.Neg_, .int .i64 s0.2.2.1, .int .i64 s0.2.2.2.1, .int .i64 x0.MinFrac_, .int .i64 x0.MaxFrac_, .int .i64 x0.G1_, .int .i64 x0.G2_, .int .i64 x0.MinSig_, .int .i64 x0.MaxSig_, .int .i64 x0.Exp_, .bool x0.ExpPlus_, .int .i32 x0.Pad_, .int .i64 x0.PadAt_], .box [.nl, .nl, .nl, .nl, .bool false, .int .i64 0, .int .i64 0, .int .i64 0, .int .i64 0, .int .i64 0, .int .i64 0, .int .i64 0, .int .i64 0, .int .i64 0, .bool false, .int .i32 0, .int .i64 0], vecL (encI .i64) 1 3 (s0.2.2.2.2 ++ ([s0.2.1] : List Int))]) hFH hFD [0, 1, 4] ?_
       exact kLN [1, 2, 3, 6, 7, 8, 9, 10]
     ·refine kF ?_
      refine kK ?_
      obtain rfl := oi h24
      exact kXl [1, 2, 3, 6, 7, 8, 9, 10]
   ·subst hs
    have h38 := joinX_inl h0
    obtain ⟨s2, hy8, h39⟩ := bindS h38
    refine K.cutN (by kernel_rfl) (fun (s2 : Int × Int) => ([(1, lsv (encI .i32) 1 x1), (2, .int .i64 s0.1), (3, .ptr 0 0), (6, .ptr 1 0), (7, .int .i64 0), (8, .bool false), (9, .vc 2), (10, .int .i64 s0.2.1)], [.box [lsv encSt106 2 x0.Pre_, lsv encSt106 2 x0.Suf_, lsv encSt106 2 x0.NPre_, lsv encSt106 2 x0.NSuf_, .bool x0.Neg_, .int .i64 s0.2.2.1, .int .i64 s0.2.2.2.1, .int .i64 x0.MinFrac_, .int .i64 x0.MaxFrac_, .int .i64 s2.1, .int .i64 s2.2, .int .i64 x0.MinSig_, .int .i64 x0.MaxSig_, .int .i64 x0.Exp_, .bool x0.ExpPlus_, .int .i32 x0.Pad_, .int .i64 x0.PadAt_], .box [.nl, .nl, .nl, .nl, .bool false, .int .i64 0, .int .i64 0, .int .i64 0, .int .i64 0, .int .i64 0, .int .i64 0, .int .i64 0, .int .i64 0, .int .i64 0, .bool false, .int .i32 0, .int .i64 0], vecL (encI .i64) 1 3 s0.2.2.2.2])) s2 ?_ ?_
    ·refine kSR ?_
     refine kC 3 [1,2,3,6,7,8,9,10,84] ?_
     refine kEN ?_
     refine kBJ 84 hy8 (fun h40 => ?_) (fun h41 => ?_)
     ·refine kT ?_
      refine kSR ?_
      refine kC 3 [1,2,3,6,7,8,9,10] ?_
      refine kEN ?_
      refine kR ?_
      refine kC 3 [1,2,3,6,7,8,9,10] ?_
      refine kE ?_
      obtain rfl := oi h40
      exact kN [1, 2, 3, 6, 7, 8, 9, 10]
     ·refine kF ?_
      refine kK ?_
      obtain rfl := oi h41
      exact kN [1, 2, 3, 6, 7, 8, 9, 10]
    ·obtain ⟨s1, hy9, h42⟩ := bindS h39
     refine K.cutN (by kernel_rfl) (fun (s1 : Int × Int) => ([(1, lsv (encI .i32) 1 x1), (2, .int .i64 s0.1), (3, .ptr 0 0), (6, .ptr 1 0), (7, .int .i64 0), (8, .bool false), (9, .vc 2), (10, .int .i64 s0.2.1)], [.box [lsv encSt106 2 x0.Pre_, lsv encSt106 2 x0.Suf_, lsv encSt106 2 x0.NPre_, lsv encSt106 2 x0.NSuf_, .bool x0.Neg_, .int .i64 s0.2.2.1, .int .i64 s0.2.2.2.1, .int .i64 x0.MinFrac_, .int .i64 x0.MaxFrac_, .int .i64 s1.1, .int .i64 s1.2, .int .i64 x0.MinSig_, .int .i64 x0.MaxSig_, .int .i64 x0.Exp_, .bool x0.ExpPlus_, .int .i32 x0.Pad_, .int .i64 x0.PadAt_], .box [.nl, .nl, .nl, .nl, .bool false, .int .i64 0, .int .i64 0, .int .i64 0, .int .i64 0, .int .i64 0, .int .i64 0, .int .i64 0, .int .i64 0, .int .i64 0, .bool false, .int .i32 0, .int .i64 0], vecL (encI .i64) 1 3 s0.2.2.2.2])) s1 ?_ ?_
     ·refine kSR ?_
      refine kC 3 [1,2,3,6,7,8,9,10,91] ?_
      refine kEN ?_
      refine kBJ 91 hy9 (fun h43 => ?_) (fun h44 => ?_)
      ·refine kT ?_
       refine kSR ?_
       refine kC 3 [1,2,3,6,7,8,9,10] ?_
       refine kEN ?_
       refine kR ?_
       refine kC 1 [1,2,3,6,7,8,9,10,94] ?_
       obtain ⟨hm, h45⟩ := asrt h43
       refine kQ 95 (.ptr 2 ((1 : Int).toNat * 1)) [2] (tr2 := []) hm ?_
       obtain ⟨hm, h46⟩ := asrt h45
       refine RJ.rel (d := (some 96)) (ef := ⟨(((s0.2.2.2.2).flatMap (encI .i64)).drop ((1 : Int).toNat * 1)).headD .undef, [2], []⟩) (ef' := ⟨.int .i64 (nth s0.2.2.2.2 1), [2], []⟩) (c := Nat.blt ((1 : Int).toNat * 1) (s0.2.2.2.2.flatMap (encI .i64)).length) (tr2 := []) (H2 := [.box [lsv encSt106 2 x0.Pre_, lsv encSt106 2 x0.Suf_, lsv encSt106 2 x0.NPre_, lsv encSt106 2 x0.NSuf_, .bool x0.Neg_, .int .i64 s0.2.2.1, .int .i64 s0.2.2.2.1, .int .i64 x0.MinFrac_, .int .i64 x0.MaxFrac_, .int .i64 s0.2.1, .int .i64 s2.2, .int .i64 x0.MinSig_, .int .i64 x0.MaxSig_, .int .i64 x0.Exp_, .bool x0.ExpPlus_, .int .i32 x0.Pad_, .int .i64 x0.PadAt_], .box [.nl, .nl, .nl, .nl, .bool false, .int .i64 0, .int .i64 0, .int .i64 0, .int .i64 0, .int .i64 0, .int .i64 0, .int .i64 0, .int .i64 0, .int .i64 0, .bool false, .int .i32 0, .int .i64 0], vecL (encI .i64) 1 3 s0.2.2.2.2]) (by kernel_rfl) (loadv_ok (encI_len .i64) rfl hm) (fun hc => N.load1 (encI_len .i64) (fun _ => rfl) hm) (by kernel_rfl) ?_
       refine kC 2 [1,2,3,6,7,8,9,10] ?_
       refine kE ?_
       obtain rfl := oi h46
       exact kN [1, 2, 3, 6, 7, 8, 9, 10]
      ·refine kF ?_
       refine kK ?_
       obtain rfl := oi h44
       exact kN [1, 2, 3, 6, 7, 8, 9, 10]
     ·refine kS ?_
      refine J.keep [1, 2, 3, 6, 7, 8, 9, 10] (L2 := [(1, lsv (encI .i32) 1 x1), (2, .int .i64 s0.1), (3, .ptr 0 0), (6, .ptr 1 0), (7, .int .i64 0), (8, .bool false), (9, .vc 2), (10, .int .i64 s0.2.1)]) (by kernel_rfl) ?_
      refine K.draw (by kernel_rfl) (by kernel_rfl) (by kernel_rfl) (H2 := [.box [lsv encSt106 2 x0.Pre_, lsv encSt106 2 x0.Suf_, lsv encSt106 2 x0.NPre_, lsv encSt106 2 x0.NSuf_, .bool x0.Neg_, .int .i64 s0.2.2.1, .int .i64 s0.2.2.2.1, .int .i64 x0.MinFrac_, .int .i64 x0.MaxFrac_, .int .i64 s1.1, .int .i64 s1.2, .int .i64 x0.MinSig_, .int .i64 x0.MaxSig_, .int .i64 x0.Exp_, .bool x0.ExpPlus_, .int .i32 x0.Pad_, .int .i64 x0.PadAt_], .box [.nl, .nl, .nl, .nl, .bool false, .int .i64 0, .int .i64 0, .int .i64 0, .int .i64 0, .int .i64 0, .int .i64 0, .int .i64 0, .int .i64 0, .int .i64 0, .bool false, .int .i32 0, .int .i64 0], vecL (encI .i64) 1 3 s0.2.2.2.2]) (by kernel_rfl) (n := 3) (by kernel_rfl) ?_
      refine kD 11 ?_
      refine kEN ?_
      refine kX ?_
      refine PJ.blockRet ?_
      obtain rfl := oi h42
      refine PJ.loopOut (fun e => nomatch e) (fun he1 => ?_)
      have h47 := congrArg some he1
      refine PJ.blockRet ?_
      obtain rfl := oi h47
      exact kZ hFn hFH hFD
def exergueref10_number (x0 : St25) (x1 : List Int) (x2 : Int) : Option (St25 × Int × Bool) :=
 (Option.bind (exergueref10_many x1 x2 64) fun y3 => (Option.bind (bif (decide (y3 > 0)) then (Option.bind (exergueref10_many x1 (IntKind.wrap .i64 (x2 + y3)) 35) fun y4 => (some (.inl ((IntKind.wrap .i64 ((IntKind.wrap .i64 (x2 + y3)) + y4)), x0.Pre_, x0.Suf_, x0.NPre_, x0.NSuf_, x0.Neg_, x0.Hash_, x0.MinInt_, x0.MinFrac_, x0.MaxFrac_, x0.G1_, x0.G2_, y3, (IntKind.wrap .i64 (y3 + y4)), x0.Exp_, x0.ExpPlus_, x0.Pad_, x0.PadAt_)))) else (Option.bind (exergueref10_places x0 x1 x2) fun y0 => (bif (!y0.2.2) then (some (.inr (x0, y0.2.1, false))) else (Option.bind (exergueref10_at x1 y0.2.1) fun y6 => (bif (decide (y6 = 46)) then (Option.bind (exergueref10_many x1 (IntKind.wrap .i64 (y0.2.1 + 1)) 48) fun y1 => (Option.bind (exergueref10_many x1 ((IntKind.wrap .i64 ((IntKind.wrap .i64 (y0.2.1 + 1)) + y1))) 35) fun y2 => (bif (decide ((IntKind.wrap .i64 (y1 + y2)) = 0)) then (some (.inr ((⟨y0.1.Pre_, y0.1.Suf_, y0.1.NPre_, y0.1.NSuf_, y0.1.Neg_, y0.1.Hash_, y0.1.MinInt_, y1, (IntKind.wrap .i64 (y1 + y2)), y0.1.G1_, y0.1.G2_, y0.1.MinSig_, y0.1.MaxSig_, y0.1.Exp_, y0.1.ExpPlus_, y0.1.Pad_, y0.1.PadAt_⟩ : St25), (IntKind.wrap .i64 (((IntKind.wrap .i64 ((IntKind.wrap .i64 (y0.2.1 + 1)) + y1))) + y2)), false))) else (some (.inl ((IntKind.wrap .i64 (((IntKind.wrap .i64 ((IntKind.wrap .i64 (y0.2.1 + 1)) + y1))) + y2)), y0.1.Pre_, y0.1.Suf_, y0.1.NPre_, y0.1.NSuf_, y0.1.Neg_, y0.1.Hash_, y0.1.MinInt_, y1, (IntKind.wrap .i64 (y1 + y2)), y0.1.G1_, y0.1.G2_, y0.1.MinSig_, y0.1.MaxSig_, y0.1.Exp_, y0.1.ExpPlus_, y0.1.Pad_, y0.1.PadAt_)))))) else (some (.inl (y0.2.1, y0.1.Pre_, y0.1.Suf_, y0.1.NPre_, y0.1.NSuf_, y0.1.Neg_, y0.1.Hash_, y0.1.MinInt_, y0.1.MinFrac_, y0.1.MaxFrac_, y0.1.G1_, y0.1.G2_, y0.1.MinSig_, y0.1.MaxSig_, y0.1.Exp_, y0.1.ExpPlus_, y0.1.Pad_, y0.1.PadAt_)))))))) (joinX fun (s0 : Int × (List St106) × (List St106) × (List St106) × (List St106) × Bool × Int × Int × Int × Int × Int × Int × Int × Int × Int × Bool × Int × Int) => (Option.bind (exergueref10_at x1 s0.1) fun y7 => (bif (decide (¬ y7 = 69)) then (some ((⟨s0.2.1, s0.2.2.1, s0.2.2.2.1, s0.2.2.2.2.1, s0.2.2.2.2.2.1, s0.2.2.2.2.2.2.1, s0.2.2.2.2.2.2.2.1, s0.2.2.2.2.2.2.2.2.1, s0.2.2.2.2.2.2.2.2.2.1, s0.2.2.2.2.2.2.2.2.2.2.1, s0.2.2.2.2.2.2.2.2.2.2.2.1, s0.2.2.2.2.2.2.2.2.2.2.2.2.1, s0.2.2.2.2.2.2.2.2.2.2.2.2.2.1, s0.2.2.2.2.2.2.2.2.2.2.2.2.2.2.1, s0.2.2.2.2.2.2.2.2.2.2.2.2.2.2.2.1, s0.2.2.2.2.2.2.2.2.2.2.2.2.2.2.2.2.1, s0.2.2.2.2.2.2.2.2.2.2.2.2.2.2.2.2.2⟩ : St25), s0.1, true)) else (Option.bind (Option.bind (exergueref10_at x1 (IntKind.wrap .i64 (s0.1 + 1))) fun y8 => (bif (decide (y8 = 43)) then (some ((IntKind.wrap .i64 ((IntKind.wrap .i64 (s0.1 + 1)) + 1)), true)) else (some ((IntKind.wrap .i64 (s0.1 + 1)), s0.2.2.2.2.2.2.2.2.2.2.2.2.2.2.2.1)))) fun (s1 : Int × Bool) => (Option.bind (exergueref10_many x1 s1.1 48) fun y5 => (some ((⟨s0.2.1, s0.2.2.1, s0.2.2.2.1, s0.2.2.2.2.1, s0.2.2.2.2.2.1, s0.2.2.2.2.2.2.1, s0.2.2.2.2.2.2.2.1, s0.2.2.2.2.2.2.2.2.1, s0.2.2.2.2.2.2.2.2.2.1, s0.2.2.2.2.2.2.2.2.2.2.1, s0.2.2.2.2.2.2.2.2.2.2.2.1, s0.2.2.2.2.2.2.2.2.2.2.2.2.1, s0.2.2.2.2.2.2.2.2.2.2.2.2.2.1, y5, s1.2, s0.2.2.2.2.2.2.2.2.2.2.2.2.2.2.2.2.1, s0.2.2.2.2.2.2.2.2.2.2.2.2.2.2.2.2.2⟩ : St25), (IntKind.wrap .i64 (s1.1 + y5)), (decide (y5 > 0)))))))))))
theorem exergueref10_number_ok {x0 : St25} {x1 : List Int} {x2 : Int} {r : St25 × Int × Bool} (h : exergueref10_number x0 x1 x2 = some r) : SC Tryz.prog 109 [.agg (encSt25 x0), lsv (encI .i32) 1 x1, .int .i64 x2] [] (.tup [.agg (encSt25 r.1), .int .i64 r.2.1, .bool r.2.2]) [] := by
 refine kFn (fn := Tryz.f109) (fun F hFn hFH hFD => ?_)
 unfold exergueref10_number at h
 refine kSR ?_
 refine kC 4 [1,2,3,6,7,8] ?_
 refine kEN ?_
 refine kSR ?_
 refine kC 2 [1,2,3,6,7,8,16,17] ?_
 obtain ⟨y3, hy0, h1⟩ := bindS h
 refine kA 18 (exergueref10_many_ok hy0) ?_
 refine kC 1 [1,2,3,6,7,8,9] ?_
 refine kEN ?_
 obtain ⟨y9, hy1, h0⟩ := bindS h1
 refine K.cutX (by kernel_rfl) (fun (s0 : Int × (List St106) × (List St106) × (List St106) × (List St106) × Bool × Int × Int × Int × Int × Int × Int × Int × Int × Int × Bool × Int × Int) => ([(1, lsv (encI .i32) 1 x1), (2, .int .i64 s0.1), (3, .ptr 0 0), (6, .ptr 1 0), (7, .int .i64 0), (8, .bool false)], [.box [lsv encSt106 2 s0.2.1, lsv encSt106 2 s0.2.2.1, lsv encSt106 2 s0.2.2.2.1, lsv encSt106 2 s0.2.2.2.2.1, .bool s0.2.2.2.2.2.1, .int .i64 s0.2.2.2.2.2.2.1, .int .i64 s0.2.2.2.2.2.2.2.1, .int .i64 s0.2.2.2.2.2.2.2.2.1, .int .i64 s0.2.2.2.2.2.2.2.2.2.1, .int .i64 s0.2.2.2.2.2.2.2.2.2.2.1, .int .i64 s0.2.2.2.2.2.2.2.2.2.2.2.1, .int .i64 s0.2.2.2.2.2.2.2.2.2.2.2.2.1, .int .i64 s0.2.2.2.2.2.2.2.2.2.2.2.2.2.1, .int .i64 s0.2.2.2.2.2.2.2.2.2.2.2.2.2.2.1, .bool s0.2.2.2.2.2.2.2.2.2.2.2.2.2.2.2.1, .int .i32 s0.2.2.2.2.2.2.2.2.2.2.2.2.2.2.2.2.1, .int .i64 s0.2.2.2.2.2.2.2.2.2.2.2.2.2.2.2.2.2], .box [.nl, .nl, .nl, .nl, .bool false, .int .i64 0, .int .i64 0, .int .i64 0, .int .i64 0, .int .i64 0, .int .i64 0, .int .i64 0, .int .i64 0, .int .i64 0, .bool false, .int .i32 0, .int .i64 0]])) y9 ?_ (fun s0 hs => ?_)
 ·refine kSR ?_
  refine kC 2 [1,2,3,6,7,8,9,20] ?_
  refine kEN ?_
  refine kBJ 20 hy1 (fun h2 => ?_) (fun h3 => ?_)
  ·refine kT ?_
   refine kSR ?_
   refine kC 4 [1,2,3,6,7,8,9,21,24] ?_
   obtain ⟨y4, hy2, h4⟩ := bindS h2
   refine kA 25 (exergueref10_many_ok hy2) ?_
   refine kC 1 [1,2,3,6,7,8,9,10] ?_
   refine kEN ?_
   refine kSR ?_
   refine kC 3 [1,2,3,6,7,8,9,10] ?_
   refine kEN ?_
   refine kSR ?_
   refine kC 5 [1,2,3,6,7,8,9,10] ?_
   refine kEN ?_
   refine kR ?_
   refine RJ.seg 6 [1, 2, 3, 6, 7, 8] (L2 := [(1, lsv (encI .i32) 1 x1), (2, .int .i64 ((IntKind.wrap .i64 ((IntKind.wrap .i64 (x2 + y3)) + y4)))), (3, .ptr 0 0), (6, .ptr 1 0), (7, .int .i64 0), (8, .bool false)]) (H2 := [.box [lsv encSt106 2 x0.Pre_, lsv encSt106 2 x0.Suf_, lsv encSt106 2 x0.NPre_, lsv encSt106 2 x0.NSuf_, .bool x0.Neg_, .int .i64 x0.Hash_, .int .i64 x0.MinInt_, .int .i64 x0.MinFrac_, .int .i64 x0.MaxFrac_, .int .i64 x0.G1_, .int .i64 x0.G2_, .int .i64 y3, .int .i64 (IntKind.wrap .i64 (y3 + y4)), .int .i64 x0.Exp_, .bool x0.ExpPlus_, .int .i32 x0.Pad_, .int .i64 x0.PadAt_], .box [.nl, .nl, .nl, .nl, .bool false, .int .i64 0, .int .i64 0, .int .i64 0, .int .i64 0, .int .i64 0, .int .i64 0, .int .i64 0, .int .i64 0, .int .i64 0, .bool false, .int .i32 0, .int .i64 0]]) (by kernel_rfl) ?_
   refine kE ?_
   obtain rfl := oi h4
   exact kXl [1, 2, 3, 6, 7, 8]
  ·refine kF ?_
   refine kSR ?_
   refine kC 3 [1,2,3,6,7,8,38,39,40] ?_
   obtain ⟨y0, hy3, h5⟩ := bindS h3
   refine kA 41 (exergueref10_places_ok hy3) ?_
   refine kC 8 [1,2,3,6,7,8,11,12,13] ?_
   refine kEN ?_
   refine kS ?_
   refine kSR ?_
   refine kC 2 [1,2,3,6,7,8,11,12,46] ?_
   refine kEN ?_
   refine kBJ 46 h5 (fun h6 => ?_) (fun h7 => ?_)
   ·refine kT ?_
    refine kSR ?_
    refine kC 5 [1,2,3,6,7,8,11,12] ?_
    refine kEN ?_
    refine kX ?_
    refine PJ.passRet ?_
    obtain rfl := oi h6
    have h8 := joinX_inr h0
    refine PJ.cutXr (fun e => nomatch e) ?_
    obtain rfl := oi h8
    exact kZ hFn hFH hFD
   ·refine kF ?_
    refine kK ?_
    refine PJ.next ?_
    refine kSR ?_
    refine kC 2 [1,2,3,6,7,8,12] ?_
    refine kEN ?_
    refine kSR ?_
    refine RJ.seg 2 [1, 2, 3, 6, 7, 8] (L2 := [(1, lsv (encI .i32) 1 x1), (2, .int .i64 y0.2.1), (3, .ptr 0 0), (6, .ptr 1 0), (7, .int .i64 0), (8, .bool false)]) (H2 := [.box (encSt25 y0.1), .box [.nl, .nl, .nl, .nl, .bool false, .int .i64 0, .int .i64 0, .int .i64 0, .int .i64 0, .int .i64 0, .int .i64 0, .int .i64 0, .int .i64 0, .int .i64 0, .bool false, .int .i32 0, .int .i64 0], .box (encSt25 y0.1)]) (by kernel_rfl) ?_
    refine kEN ?_
    refine kSR ?_
    refine kC 2 [1,2,3,6,7,8,51,52] ?_
    obtain ⟨y6, hy4, h9⟩ := bindS h7
    refine kA 53 (exergueref10_at_ok hy4) ?_
    refine kC 1 [1,2,3,6,7,8,54] ?_
    refine kEN ?_
    refine kBJ 54 h9 (fun h10 => ?_) (fun h11 => ?_)
    ·refine kT ?_
     refine kSR ?_
     refine kC 3 [1,2,3,6,7,8,55,57] ?_
     obtain ⟨y1, hy5, h12⟩ := bindS h10
     refine kA 58 (exergueref10_many_ok hy5) ?_
     refine kC 1 [1,2,3,6,7,8,14] ?_
     refine kEN ?_
     refine kSR ?_
     refine kC 5 [1,2,3,6,7,8,14,59,63] ?_
     obtain ⟨y2, hy6, h13⟩ := bindS h12
     refine kA 64 (exergueref10_many_ok hy6) ?_
     refine kC 1 [1,2,3,6,7,8,14,15] ?_
     refine kEN ?_
     refine kSR ?_
     refine kC 3 [1,2,3,6,7,8,14,15] ?_
     refine kEN ?_
     refine kSR ?_
     refine kC 5 [1,2,3,6,7,8,14,15] ?_
     refine kEN ?_
     refine kSR ?_
     refine RJ.seg 7 [1, 2, 3, 6, 7, 8, 14, 15] (L2 := [(1, lsv (encI .i32) 1 x1), (2, .int .i64 ((IntKind.wrap .i64 (((IntKind.wrap .i64 ((IntKind.wrap .i64 (y0.2.1 + 1)) + y1))) + y2)))), (3, .ptr 0 0), (6, .ptr 1 0), (7, .int .i64 0), (8, .bool false), (14, .int .i64 y1), (15, .int .i64 y2)]) (H2 := [.box [lsv encSt106 2 y0.1.Pre_, lsv encSt106 2 y0.1.Suf_, lsv encSt106 2 y0.1.NPre_, lsv encSt106 2 y0.1.NSuf_, .bool y0.1.Neg_, .int .i64 y0.1.Hash_, .int .i64 y0.1.MinInt_, .int .i64 y1, .int .i64 (IntKind.wrap .i64 (y1 + y2)), .int .i64 y0.1.G1_, .int .i64 y0.1.G2_, .int .i64 y0.1.MinSig_, .int .i64 y0.1.MaxSig_, .int .i64 y0.1.Exp_, .bool y0.1.ExpPlus_, .int .i32 y0.1.Pad_, .int .i64 y0.1.PadAt_], .box [.nl, .nl, .nl, .nl, .bool false, .int .i64 0, .int .i64 0, .int .i64 0, .int .i64 0, .int .i64 0, .int .i64 0, .int .i64 0, .int .i64 0, .int .i64 0, .bool false, .int .i32 0, .int .i64 0], .box (encSt25 y0.1)]) (by kernel_rfl) ?_
     refine kEN ?_
     refine kSR ?_
     refine kC 4 [1,2,3,6,7,8,80] ?_
     refine kEN ?_
     refine kBJ 80 h13 (fun h14 => ?_) (fun h15 => ?_)
     ·refine kT ?_
      refine kSR ?_
      refine kC 5 [1,2,3,6,7,8] ?_
      refine kEN ?_
      refine kX ?_
      obtain rfl := oi h14
      have h16 := joinX_inr h0
      refine PJ.cutXr (fun e => nomatch e) ?_
      obtain rfl := oi h16
      exact kZ hFn hFH hFD
     ·refine kF ?_
      refine kK ?_
      obtain rfl := oi h15
      refine kW (L2 := [(1, lsv (encI .i32) 1 x1), (2, .int .i64 ((IntKind.wrap .i64 (((IntKind.wrap .i64 ((IntKind.wrap .i64 (y0.2.1 + 1)) + y1))) + y2)))), (3, .ptr 0 0), (6, .ptr 1 0), (7, .int .i64 0), (8, .bool false)]) (H2 := [.box [lsv encSt106 2 y0.1.Pre_, lsv encSt106 2 y0.1.Suf_, lsv encSt106 2 y0.1.NPre_, lsv encSt106 2 y0.1.NSuf_, .bool y0.1.Neg_, .int .i64 y0.1.Hash_, .int .i64 y0.1.MinInt_, .int .i64 y1, .int .i64 (IntKind.wrap .i64 (y1 + y2)), .int .i64 y0.1.G1_, .int .i64 y0.1.G2_, .int .i64 y0.1.MinSig_, .int .i64 y0.1.MaxSig_, .int .i64 y0.1.Exp_, .bool y0.1.ExpPlus_, .int .i32 y0.1.Pad_, .int .i64 y0.1.PadAt_], .box [.nl, .nl, .nl, .nl, .bool false, .int .i64 0, .int .i64 0, .int .i64 0, .int .i64 0, .int .i64 0, .int .i64 0, .int .i64 0, .int .i64 0, .int .i64 0, .bool false, .int .i32 0, .int .i64 0]]) hFH hFD [0, 1] ?_
      exact kXl [1, 2, 3, 6, 7, 8]
    ·refine kF ?_
     refine kK ?_
     obtain rfl := oi h11
     refine kW (L2 := [(1, lsv (encI .i32) 1 x1), (2, .int .i64 y0.2.1), (3, .ptr 0 0), (6, .ptr 1 0), (7, .int .i64 0), (8, .bool false)]) (H2 := [.box (encSt25 y0.1), .box [.nl, .nl, .nl, .nl, .bool false, .int .i64 0, .int .i64 0, .int .i64 0, .int .i64 0, .int .i64 0, .int .i64 0, .int .i64 0, .int .i64 0, .int .i64 0, .bool false, .int .i32 0, .int .i64 0]]) hFH hFD [0, 1] ?_
     exact kXl [1, 2, 3, 6, 7, 8]
 ·subst hs
  have h17 := joinX_inl h0
  refine kS ?_
  refine kSR ?_
  refine kC 2 [1,2,3,6,7,8,83,84] ?_
  obtain ⟨y7, hy7, h18⟩ := bindS h17
  refine kA 85 (exergueref10_at_ok hy7) ?_
  refine kC 1 [1,2,3,6,7,8,86] ?_
  refine kEN ?_
  refine kBJ 86 h18 (fun h19 => ?_) (fun h20 => ?_)
  ·refine kT ?_
   refine kSR ?_
   refine kC 5 [1,2,3,6,7,8] ?_
   refine kEN ?_
   refine kX ?_
   refine PJ.passRet ?_
   obtain rfl := oi h19
   exact kZ hFn hFH hFD
  ·refine kF ?_
   refine kK ?_
   refine PJ.next ?_
   refine kSR ?_
   refine kC 3 [1,2,3,6,7,8] ?_
   refine kEN ?_
   obtain ⟨s1, hy8, h21⟩ := bindS h20
   refine K.cutN (by kernel_rfl) (fun (s1 : Int × Bool) => ([(1, lsv (encI .i32) 1 x1), (2, .int .i64 s1.1), (3, .ptr 0 0), (6, .ptr 1 0), (7, .int .i64 0), (8, .bool false)], [.box [lsv encSt106 2 s0.2.1, lsv encSt106 2 s0.2.2.1, lsv encSt106 2 s0.2.2.2.1, lsv encSt106 2 s0.2.2.2.2.1, .bool s0.2.2.2.2.2.1, .int .i64 s0.2.2.2.2.2.2.1, .int .i64 s0.2.2.2.2.2.2.2.1, .int .i64 s0.2.2.2.2.2.2.2.2.1, .int .i64 s0.2.2.2.2.2.2.2.2.2.1, .int .i64 s0.2.2.2.2.2.2.2.2.2.2.1, .int .i64 s0.2.2.2.2.2.2.2.2.2.2.2.1, .int .i64 s0.2.2.2.2.2.2.2.2.2.2.2.2.1, .int .i64 s0.2.2.2.2.2.2.2.2.2.2.2.2.2.1, .int .i64 s0.2.2.2.2.2.2.2.2.2.2.2.2.2.2.1, .bool s1.2, .int .i32 s0.2.2.2.2.2.2.2.2.2.2.2.2.2.2.2.2.1, .int .i64 s0.2.2.2.2.2.2.2.2.2.2.2.2.2.2.2.2.2], .box [.nl, .nl, .nl, .nl, .bool false, .int .i64 0, .int .i64 0, .int .i64 0, .int .i64 0, .int .i64 0, .int .i64 0, .int .i64 0, .int .i64 0, .int .i64 0, .bool false, .int .i32 0, .int .i64 0]])) s1 ?_ ?_
   ·refine kSR ?_
    refine kC 2 [1,2,3,6,7,8,91,92] ?_
    obtain ⟨y8, hy9, h22⟩ := bindS hy8
    refine kA 93 (exergueref10_at_ok hy9) ?_
    refine kC 1 [1,2,3,6,7,8,94] ?_
    refine kEN ?_
    refine kBJ 94 h22 (fun h23 => ?_) (fun h24 => ?_)
    ·refine kT ?_
     refine kSR ?_
     refine kC 2 [1,2,3,6,7,8] ?_
     refine kEN ?_
     refine kR ?_
     refine kC 3 [1,2,3,6,7,8] ?_
     refine kE ?_
     obtain rfl := oi h23
     exact kN [1, 2, 3, 6, 7, 8]
    ·refine kF ?_
     refine kK ?_
     obtain rfl := oi h24
     exact kN [1, 2, 3, 6, 7, 8]
   ·refine kSR ?_
    refine kC 2 [2,3,6,7,8,98,99] ?_
    obtain ⟨y5, hy10, h25⟩ := bindS h21
    refine kA 100 (exergueref10_many_ok hy10) ?_
    refine kC 2 [2,3,6,7,8] ?_
    refine kEN ?_
    refine kS ?_
    refine J.keep [2, 3, 6, 7, 8] (L2 := [(2, .int .i64 s1.1), (3, .ptr 0 0), (6, .ptr 1 0), (7, .int .i64 0), (8, .bool false)]) (by kernel_rfl) ?_
    refine K.draw (by kernel_rfl) (by kernel_rfl) (by kernel_rfl) (H2 := [.box [lsv encSt106 2 s0.2.1, lsv encSt106 2 s0.2.2.1, lsv encSt106 2 s0.2.2.2.1, lsv encSt106 2 s0.2.2.2.2.1, .bool s0.2.2.2.2.2.1, .int .i64 s0.2.2.2.2.2.2.1, .int .i64 s0.2.2.2.2.2.2.2.1, .int .i64 s0.2.2.2.2.2.2.2.2.1, .int .i64 s0.2.2.2.2.2.2.2.2.2.1, .int .i64 s0.2.2.2.2.2.2.2.2.2.2.1, .int .i64 s0.2.2.2.2.2.2.2.2.2.2.2.1, .int .i64 s0.2.2.2.2.2.2.2.2.2.2.2.2.1, .int .i64 s0.2.2.2.2.2.2.2.2.2.2.2.2.2.1, .int .i64 y5, .bool s1.2, .int .i32 s0.2.2.2.2.2.2.2.2.2.2.2.2.2.2.2.2.1, .int .i64 s0.2.2.2.2.2.2.2.2.2.2.2.2.2.2.2.2.2], .box [.nl, .nl, .nl, .nl, .bool false, .int .i64 0, .int .i64 0, .int .i64 0, .int .i64 0, .int .i64 0, .int .i64 0, .int .i64 0, .int .i64 0, .int .i64 0, .bool false, .int .i32 0, .int .i64 0]]) (by kernel_rfl) (n := 2) (by kernel_rfl) ?_
    refine kD 11 ?_
    refine kEN ?_
    refine kX ?_
    obtain rfl := oi h25
    exact kZ hFn hFH hFD
def exergueref10_first (x0 : List Int) : Option (St25 × Int × Int × Int × Bool) :=
 (Option.bind (exergueref10_pad (⟨([] : List St106), ([] : List St106), ([] : List St106), ([] : List St106), false, 0, 0, 0, 0, 0, 0, 0, 0, 0, false, 0, 0⟩ : St25) x0 0 1) fun y0 => (bif (!y0.2.2) then (some (y0.1, 0, 0, y0.2.1, false)) else (Option.bind (exergueref10_affix x0 y0.2.1) fun y2 => (bif (!y2.2.2) then (some (y0.1, 0, 0, y2.2.1, false)) else (Option.bind (exergueref10_pad (⟨y2.1, y0.1.Suf_, y0.1.NPre_, y0.1.NSuf_, y0.1.Neg_, y0.1.Hash_, y0.1.MinInt_, y0.1.MinFrac_, y0.1.MaxFrac_, y0.1.G1_, y0.1.G2_, y0.1.MinSig_, y0.1.MaxSig_, y0.1.Exp_, y0.1.ExpPlus_, y0.1.Pad_, y0.1.PadAt_⟩ : St25) x0 y2.2.1 2) fun y3 => (bif (!y3.2.2) then (some ((⟨y2.1, y0.1.Suf_, y0.1.NPre_, y0.1.NSuf_, y0.1.Neg_, y0.1.Hash_, y0.1.MinInt_, y0.1.MinFrac_, y0.1.MaxFrac_, y0.1.G1_, y0.1.G2_, y0.1.MinSig_, y0.1.MaxSig_, y0.1.Exp_, y0.1.ExpPlus_, y0.1.Pad_, y0.1.PadAt_⟩ : St25), 0, 0, y3.2.1, false)) else (Option.bind (exergueref10_number y3.1 x0 y3.2.1) fun y4 => (bif (!y4.2.2) then (some ((⟨y2.1, y0.1.Suf_, y0.1.NPre_, y0.1.NSuf_, y0.1.Neg_, y0.1.Hash_, y0.1.MinInt_, y0.1.MinFrac_, y0.1.MaxFrac_, y0.1.G1_, y0.1.G2_, y0.1.MinSig_, y0.1.MaxSig_, y0.1.Exp_, y0.1.ExpPlus_, y0.1.Pad_, y0.1.PadAt_⟩ : St25), 0, 0, y4.2.1, false)) else (Option.bind (exergueref10_pad y4.1 x0 y4.2.1 3) fun y1 => (bif (!y1.2.2) then (some ((⟨y2.1, y0.1.Suf_, y0.1.NPre_, y0.1.NSuf_, y0.1.Neg_, y0.1.Hash_, y0.1.MinInt_, y0.1.MinFrac_, y0.1.MaxFrac_, y0.1.G1_, y0.1.G2_, y0.1.MinSig_, y0.1.MaxSig_, y0.1.Exp_, y0.1.ExpPlus_, y0.1.Pad_, y0.1.PadAt_⟩ : St25), 0, 0, y1.2.1, false)) else (Option.bind (exergueref10_affix x0 y1.2.1) fun y5 => (bif (!y5.2.2) then (some ((⟨y2.1, y0.1.Suf_, y0.1.NPre_, y0.1.NSuf_, y0.1.Neg_, y0.1.Hash_, y0.1.MinInt_, y0.1.MinFrac_, y0.1.MaxFrac_, y0.1.G1_, y0.1.G2_, y0.1.MinSig_, y0.1.MaxSig_, y0.1.Exp_, y0.1.ExpPlus_, y0.1.Pad_, y0.1.PadAt_⟩ : St25), 0, 0, y5.2.1, false)) else (Option.bind (exergueref10_pad (⟨y1.1.Pre_, y5.1, y1.1.NPre_, y1.1.NSuf_, y1.1.Neg_, y1.1.Hash_, y1.1.MinInt_, y1.1.MinFrac_, y1.1.MaxFrac_, y1.1.G1_, y1.1.G2_, y1.1.MinSig_, y1.1.MaxSig_, y1.1.Exp_, y1.1.ExpPlus_, y1.1.Pad_, y1.1.PadAt_⟩ : St25) x0 y5.2.1 4) fun y6 => (some (y6.1, y3.2.1, y4.2.1, y6.2.1, y6.2.2)))))))))))))))
theorem exergueref10_first_ok {x0 : List Int} {r : St25 × Int × Int × Int × Bool} (h : exergueref10_first x0 = some r) : SC Tryz.prog 82 [lsv (encI .i32) 1 x0] [] (.tup [.agg (encSt25 r.1), .int .i64 r.2.1, .int .i64 r.2.2.1, .int .i64 r.2.2.2.1, .bool r.2.2.2.2]) [] := by
 refine kFn (fn := Tryz.f82) (fun F hFn hFH hFD => ?_)
 unfold exergueref10_first at h
 refine kSR ?_
 refine kC 5 [0,2,3,4,5,6] ?_
 refine kEN ?_
 refine kSR ?_
 refine kC 2 [0,2,3,4,5,6,29,30] ?_
 obtain ⟨y0, hy0, h0⟩ := bindS h
 refine RJ.call0 (d := (some 31)) (f := 107) (args := [.agg [.nl, .nl, .nl, .nl, .bool false, .int .i64 0, .int .i64 0, .int .i64 0, .int .i64 0, .int .i64 0, .int .i64 0, .int .i64 0, .int .i64 0, .int .i64 0, .bool false, .int .i32 0, .int .i64 0], lsv (encI .i32) 1 x0, .int .i64 0, .int .i64 1]) (v := .tup [.agg (encSt25 y0.1), .int .i64 y0.2.1, .bool y0.2.2]) (tr2 := []) (by kernel_rfl) (by kernel_rfl) (.cons (Le.agg (.cons (Le.nl _) (.cons (Le.nl _) (.cons (Le.nl _) (.cons (Le.nl _) (.cons (Le.refl _) (.cons (Le.refl _) (.cons (Le.refl _) (.cons (Le.refl _) (.cons (Le.refl _) (.cons (Le.refl _) (.cons (Le.refl _) (.cons (Le.refl _) (.cons (Le.refl _) (.cons (Le.refl _) (.cons (Le.refl _) (.cons (Le.refl _) (.cons (Le.refl _) .nil)))))))))))))))))) (.cons (Le.refl _) (.cons (Le.refl _) (.cons (Le.refl _) .nil)))) (exergueref10_pad_ok hy0) (by kernel_rfl) ?_
 refine kC 8 [0,2,3,4,5,6,7,8,9] ?_
 refine kEN ?_
 refine kS ?_
 refine kSR ?_
 refine kC 2 [0,2,3,4,5,6,7,8,36] ?_
 refine kEN ?_
 refine kBJ 36 h0 (fun h1 => ?_) (fun h2 => ?_)
 ·refine kT ?_
  refine kSR ?_
  refine kC 7 [0,2,3,4,5,6,7,8] ?_
  refine kEN ?_
  refine kX ?_
  refine PJ.passRet ?_
  obtain rfl := oi h1
  exact kZ hFn hFH hFD
 ·refine kF ?_
  refine kK ?_
  refine PJ.next ?_
  refine kSR ?_
  refine kC 2 [0,2,3,4,5,6,7,40,41] ?_
  obtain ⟨y2, hy1, h3⟩ := bindS h2
  refine kA 42 (exergueref10_affix_ok hy1) ?_
  refine kC 7 [0,2,3,4,5,6,7,10,11,12] ?_
  refine kEN ?_
  refine kS ?_
  refine kSR ?_
  refine kC 2 [0,2,3,4,5,6,7,10,11,47] ?_
  refine kEN ?_
  refine kBJ 47 h3 (fun h4 => ?_) (fun h5 => ?_)
  ·refine kT ?_
   refine kSR ?_
   refine kC 7 [0,2,3,4,5,6,7,10,11] ?_
   refine kEN ?_
   refine kX ?_
   refine PJ.passRet ?_
   obtain rfl := oi h4
   exact kZ hFn hFH hFD
  ·refine kF ?_
   refine kK ?_
   refine PJ.next ?_
   refine kSR ?_
   refine kC 3 [0,2,3,4,5,6,7,11] ?_
   refine kEN ?_
   refine kSR ?_
   refine RJ.seg 3 [0, 2, 3, 4, 5, 6, 7, 53, 54, 55] (L2 := [(0, lsv (encI .i32) 1 x0), (2, .ptr 0 0), (3, .int .i64 0), (4, .int .i64 0), (5, .int .i64 0), (6, .bool false), (7, .ptr 1 0), (53, .agg [lsv encSt106 2 y2.1, lsv encSt106 2 y0.1.Suf_, lsv encSt106 2 y0.1.NPre_, lsv encSt106 2 y0.1.NSuf_, .bool y0.1.Neg_, .int .i64 y0.1.Hash_, .int .i64 y0.1.MinInt_, .int .i64 y0.1.MinFrac_, .int .i64 y0.1.MaxFrac_, .int .i64 y0.1.G1_, .int .i64 y0.1.G2_, .int .i64 y0.1.MinSig_, .int .i64 y0.1.MaxSig_, .int .i64 y0.1.Exp_, .bool y0.1.ExpPlus_, .int .i32 y0.1.Pad_, .int .i64 y0.1.PadAt_]), (54, lsv (encI .i32) 1 x0), (55, .int .i64 y2.2.1)]) (H2 := [.box [.nl, .nl, .nl, .nl, .bool false, .int .i64 0, .int .i64 0, .int .i64 0, .int .i64 0, .int .i64 0, .int .i64 0, .int .i64 0, .int .i64 0, .int .i64 0, .bool false, .int .i32 0, .int .i64 0], .box [lsv encSt106 2 y2.1, lsv encSt106 2 y0.1.Suf_, lsv encSt106 2 y0.1.NPre_, lsv encSt106 2 y0.1.NSuf_, .bool y0.1.Neg_, .int .i64 y0.1.Hash_, .int .i64 y0.1.MinInt_, .int .i64 y0.1.MinFrac_, .int .i64 y0.1.MaxFrac_, .int .i64 y0.1.G1_, .int .i64 y0.1.G2_, .int .i64 y0.1.MinSig_, .int .i64 y0.1.MaxSig_, .int .i64 y0.1.Exp_, .bool y0.1.ExpPlus_, .int .i32 y0.1.Pad_, .int .i64 y0.1.PadAt_]]) (by kernel_rfl) ?_
   obtain ⟨y3, hy2, h6⟩ := bindS h5
   refine kA 56 (exergueref10_pad_ok hy2) ?_
   refine kC 8 [0,2,3,4,5,6,7,13,14,15] ?_
   refine kEN ?_
   refine kS ?_
   refine kSR ?_
   refine kC 2 [0,2,3,4,5,6,7,13,14,61] ?_
   refine kEN ?_
   refine kBJ 61 h6 (fun h7 => ?_) (fun h8 => ?_)
   ·refine kT ?_
    refine kSR ?_
    refine kC 7 [0,2,3,4,5,6,7,13,14] ?_
    refine kEN ?_
    refine kX ?_
    refine PJ.passRet ?_
    obtain rfl := oi h7
    exact kZ hFn hFH hFD
   ·refine kF ?_
    refine kK ?_
    refine PJ.next ?_
    refine kSR ?_
    refine kC 3 [0,2,3,4,5,6,7,14,65,66,67] ?_
    obtain ⟨y4, hy3, h9⟩ := bindS h8
    refine kA 68 (exergueref10_number_ok hy3) ?_
    refine kC 8 [0,2,3,4,5,6,7,14,16,17,18] ?_
    refine kEN ?_
    refine kS ?_
    refine kSR ?_
    refine kC 2 [0,2,3,4,5,6,7,14,16,17,73] ?_
    refine kEN ?_
    refine kBJ 73 h9 (fun h10 => ?_) (fun h11 => ?_)
    ·refine kT ?_
     refine kSR ?_
     refine kC 7 [0,2,3,4,5,6,7,14,16,17] ?_
     refine kEN ?_
     refine kX ?_
     refine PJ.passRet ?_
     obtain rfl := oi h10
     exact kZ hFn hFH hFD
    ·refine kF ?_
     refine kK ?_
     refine PJ.next ?_
     refine kSR ?_
     refine kC 3 [0,2,3,4,5,6,7,14,17,77,78,79] ?_
     obtain ⟨y1, hy4, h12⟩ := bindS h11
     refine kA 80 (exergueref10_pad_ok hy4) ?_
     refine kC 8 [0,2,3,4,5,6,7,14,17,19,20,21] ?_
     refine kEN ?_
     refine kS ?_
     refine kSR ?_
     refine kC 2 [0,2,3,4,5,6,7,14,17,19,20,85] ?_
     refine kEN ?_
     refine kBJ 85 h12 (fun h13 => ?_) (fun h14 => ?_)
     ·refine kT ?_
      refine kSR ?_
      refine RJ.seg 7 [0, 2, 3, 4, 5, 6, 7, 14, 17, 19, 20] (L2 := [(0, lsv (encI .i32) 1 x0), (2, .ptr 0 0), (3, .int .i64 0), (4, .int .i64 0), (5, .int .i64 y1.2.1), (6, .bool false), (7, .ptr 1 0), (14, .int .i64 y3.2.1), (17, .int .i64 y4.2.1), (19, .ptr 4 0), (20, .int .i64 y1.2.1)]) (H2 := [.box [lsv encSt106 2 y2.1, lsv encSt106 2 y0.1.Suf_, lsv encSt106 2 y0.1.NPre_, lsv encSt106 2 y0.1.NSuf_, .bool y0.1.Neg_, .int .i64 y0.1.Hash_, .int .i64 y0.1.MinInt_, .int .i64 y0.1.MinFrac_, .int .i64 y0.1.MaxFrac_, .int .i64 y0.1.G1_, .int .i64 y0.1.G2_, .int .i64 y0.1.MinSig_, .int .i64 y0.1.MaxSig_, .int .i64 y0.1.Exp_, .bool y0.1.ExpPlus_, .int .i32 y0.1.Pad_, .int .i64 y0.1.PadAt_], .box [lsv encSt106 2 y2.1, lsv encSt106 2 y0.1.Suf_, lsv encSt106 2 y0.1.NPre_, lsv encSt106 2 y0.1.NSuf_, .bool y0.1.Neg_, .int .i64 y0.1.Hash_, .int .i64 y0.1.MinInt_, .int .i64 y0.1.MinFrac_, .int .i64 y0.1.MaxFrac_, .int .i64 y0.1.G1_, .int .i64 y0.1.G2_, .int .i64 y0.1.MinSig_, .int .i64 y0.1.MaxSig_, .int .i64 y0.1.Exp_, .bool y0.1.ExpPlus_, .int .i32 y0.1.Pad_, .int .i64 y0.1.PadAt_], .box (encSt25 y3.1), .box (encSt25 y4.1), .box (encSt25 y1.1)]) (by kernel_rfl) ?_
      refine kEN ?_
      refine kX ?_
      refine PJ.passRet ?_
      obtain rfl := oi h13
      exact kZ hFn hFH hFD
     ·refine kF ?_
      refine kK ?_
      refine PJ.next ?_
      refine kSR ?_
      refine RJ.seg 2 [0, 2, 3, 4, 5, 6, 7, 14, 17, 19, 89, 90] (L2 := [(0, lsv (encI .i32) 1 x0), (2, .ptr 0 0), (3, .int .i64 0), (4, .int .i64 0), (5, .int .i64 0), (6, .bool false), (7, .ptr 1 0), (14, .int .i64 y3.2.1), (17, .int .i64 y4.2.1), (19, .ptr 4 0), (89, lsv (encI .i32) 1 x0), (90, .int .i64 y1.2.1)]) (H2 := [.box [.nl, .nl, .nl, .nl, .bool false, .int .i64 0, .int .i64 0, .int .i64 0, .int .i64 0, .int .i64 0, .int .i64 0, .int .i64 0, .int .i64 0, .int .i64 0, .bool false, .int .i32 0, .int .i64 0], .box [lsv encSt106 2 y2.1, lsv encSt106 2 y0.1.Suf_, lsv encSt106 2 y0.1.NPre_, lsv encSt106 2 y0.1.NSuf_, .bool y0.1.Neg_, .int .i64 y0.1.Hash_, .int .i64 y0.1.MinInt_, .int .i64 y0.1.MinFrac_, .int .i64 y0.1.MaxFrac_, .int .i64 y0.1.G1_, .int .i64 y0.1.G2_, .int .i64 y0.1.MinSig_, .int .i64 y0.1.MaxSig_, .int .i64 y0.1.Exp_, .bool y0.1.ExpPlus_, .int .i32 y0.1.Pad_, .int .i64 y0.1.PadAt_], .box (encSt25 y3.1), .box (encSt25 y4.1), .box (encSt25 y1.1)]) (by kernel_rfl) ?_
      obtain ⟨y5, hy5, h15⟩ := bindS h14
      refine kA 91 (exergueref10_affix_ok hy5) ?_
      refine kC 7 [0,2,3,4,5,6,7,14,17,19,22,23,24] ?_
      refine kEN ?_
      refine kS ?_
      refine kSR ?_
      refine kC 2 [0,2,3,4,5,6,7,14,17,19,22,23,96] ?_
      refine kEN ?_
      refine kBJ 96 h15 (fun h16 => ?_) (fun h17 => ?_)
      ·refine kT ?_
       refine kSR ?_
       refine kC 7 [0,2,3,4,5,6,14,17,19,22,23] ?_
       refine kEN ?_
       refine kX ?_
       refine PJ.passRet ?_
       obtain rfl := oi h16
       exact kZ hFn hFH hFD
      ·refine kF ?_
       refine kK ?_
       refine PJ.next ?_
       refine kSR ?_
       refine kC 3 [0,2,3,4,5,6,14,17,19,23] ?_
       refine kEN ?_
       refine kSR ?_
       refine kC 3 [2,3,4,5,6,14,17,102,103,104] ?_
       obtain ⟨y6, hy6, h18⟩ := bindS h17
       refine kA 105 (exergueref10_pad_ok hy6) ?_
       refine kC 8 [2,3,4,5,6,14,17,25,26,27] ?_
       refine kEN ?_
       refine kSR ?_
       refine kC 10 [2,3,4,5,6] ?_
       refine kEN ?_
       refine kX ?_
       obtain rfl := oi h18
       exact kZ hFn hFH hFD
def exergueref10_second (x0 : St25) (x1 : List Int) (x2 : Int) (x3 : Int) (x4 : Int) : Option (St25 × Int × Bool) :=
 (Option.bind (exergueref10_affix x1 x2) fun y0 => (bif (!y0.2.2) then (some ((⟨x0.Pre_, x0.Suf_, x0.NPre_, x0.NSuf_, true, x0.Hash_, x0.MinInt_, x0.MinFrac_, x0.MaxFrac_, x0.G1_, x0.G2_, x0.MinSig_, x0.MaxSig_, x0.Exp_, x0.ExpPlus_, x0.Pad_, x0.PadAt_⟩ : St25), y0.2.1, false)) else (Option.bind (loopN (fun (s0 : Int × Int) => (bif (decide (s0.2 < x4)) then (Option.bind (exergueref10_at x1 s0.1) fun y2 => (bif inR s0.2 x1.length then (bif (decide (¬ y2 = (nth x1 s0.2))) then (some (.inr (.inr ((⟨x0.Pre_, x0.Suf_, y0.1, x0.NSuf_, true, x0.Hash_, x0.MinInt_, x0.MinFrac_, x0.MaxFrac_, x0.G1_, x0.G2_, x0.MinSig_, x0.MaxSig_, x0.Exp_, x0.ExpPlus_, x0.Pad_, x0.PadAt_⟩ : St25), s0.1, false)))) else (some (.inl ((IntKind.wrap .i64 (s0.1 + 1)), (IntKind.wrap .i64 (s0.2 + 1)))))) else none)) else (some (.inr (.inl s0.1))))) big (y0.2.1, x3)) (joinX fun (s1 : Int) => (Option.bind (exergueref10_affix x1 s1) fun y1 => (some ((⟨x0.Pre_, x0.Suf_, y0.1, y1.1, true, x0.Hash_, x0.MinInt_, x0.MinFrac_, x0.MaxFrac_, x0.G1_, x0.G2_, x0.MinSig_, x0.MaxSig_, x0.Exp_, x0.ExpPlus_, x0.Pad_, x0.PadAt_⟩ : St25), y1.2.1, y1.2.2)))))))
theorem exergueref10_second_ok {x0 : St25} {x1 : List Int} {x2 : Int} {x3 : Int} {x4 : Int} {r : St25 × Int × Bool} (h : exergueref10_second x0 x1 x2 x3 x4 = some r) : SC Tryz.prog 84 [.agg (encSt25 x0), lsv (encI .i32) 1 x1, .int .i64 x2, .int .i64 x3, .int .i64 x4] [] (.tup [.agg (encSt25 r.1), .int .i64 r.2.1, .bool r.2.2]) [] := by
 refine kFn (fn := Tryz.f84) (fun F hFn hFH hFD => ?_)
 unfold exergueref10_second at h
 refine kSR ?_
 refine kC 4 [1,2,3,4,5,10,11,12] ?_
 refine kEN ?_
 refine kSR ?_
 refine kC 2 [1,2,3,4,5,10,11,12] ?_
 refine kEN ?_
 refine kSR ?_
 refine kC 2 [1,3,4,5,10,11,12,22,23] ?_
 obtain ⟨y0, hy0, h1⟩ := bindS h
 refine kA 24 (exergueref10_affix_ok hy0) ?_
 refine kC 7 [1,3,4,5,10,11,12,13,14,15] ?_
 refine kEN ?_
 refine kS ?_
 refine kSR ?_
 refine kC 2 [1,3,4,5,10,11,12,13,14,29] ?_
 refine kEN ?_
 refine kBJ 29 h1 (fun h2 => ?_) (fun h3 => ?_)
 ·refine kT ?_
  refine kSR ?_
  refine kC 5 [1,3,4,5,10,11,12,13,14] ?_
  refine kEN ?_
  refine kX ?_
  refine PJ.passRet ?_
  obtain rfl := oi h2
  exact kZ hFn hFH hFD
 ·refine kF ?_
  refine kK ?_
  refine PJ.next ?_
  refine kSR ?_
  refine kC 3 [1,3,4,5,10,11,12,14] ?_
  refine kEN ?_
  obtain ⟨y3, hy1, h0⟩ := bindS h3
  refine K.cutX (by kernel_rfl) (fun (s1 : Int) => ([(1, lsv (encI .i32) 1 x1), (5, .ptr 0 0), (10, .ptr 1 0), (11, .int .i64 0), (12, .bool false), (14, .int .i64 s1)], [.box [lsv encSt106 2 x0.Pre_, lsv encSt106 2 x0.Suf_, lsv encSt106 2 y0.1, lsv encSt106 2 x0.NSuf_, .bool true, .int .i64 x0.Hash_, .int .i64 x0.MinInt_, .int .i64 x0.MinFrac_, .int .i64 x0.MaxFrac_, .int .i64 x0.G1_, .int .i64 x0.G2_, .int .i64 x0.MinSig_, .int .i64 x0.MaxSig_, .int .i64 x0.Exp_, .bool x0.ExpPlus_, .int .i32 x0.Pad_, .int .i64 x0.PadAt_], .box [.nl, .nl, .nl, .nl, .bool false, .int .i64 0, .int .i64 0, .int .i64 0, .int .i64 0, .int .i64 0, .int .i64 0, .int .i64 0, .int .i64 0, .int .i64 0, .bool false, .int .i32 0, .int .i64 0]])) y3 ?_ (fun s1 hs => ?_)
  ·refine kSR ?_
   refine kC 2 [1,4,5,10,11,12,14,16] ?_
   refine kEN ?_
   refine kb 0 ?_
   refine kl (fun (s0 : Int × Int) => ([(1, lsv (encI .i32) 1 x1), (4, .int .i64 x4), (5, .ptr 0 0), (10, .ptr 1 0), (11, .int .i64 0), (12, .bool false), (14, .int .i64 s0.1), (16, .int .i64 s0.2)], [.box [lsv encSt106 2 x0.Pre_, lsv encSt106 2 x0.Suf_, lsv encSt106 2 y0.1, lsv encSt106 2 x0.NSuf_, .bool true, .int .i64 x0.Hash_, .int .i64 x0.MinInt_, .int .i64 x0.MinFrac_, .int .i64 x0.MaxFrac_, .int .i64 x0.G1_, .int .i64 x0.G2_, .int .i64 x0.MinSig_, .int .i64 x0.MaxSig_, .int .i64 x0.Exp_, .bool x0.ExpPlus_, .int .i32 x0.Pad_, .int .i64 x0.PadAt_], .box [.nl, .nl, .nl, .nl, .bool false, .int .i64 0, .int .i64 0, .int .i64 0, .int .i64 0, .int .i64 0, .int .i64 0, .int .i64 0, .int .i64 0, .int .i64 0, .bool false, .int .i32 0, .int .i64 0]])) hy1 [1, 4, 5, 10, 11, 12, 14, 16] (fun s0 x92 hs0 => ?_)
   refine kS ?_
   refine kSR ?_
   refine kC 3 [1,4,5,10,11,12,14,16,37] ?_
   refine kEN ?_
   refine kBJ 37 hs0 (fun h4 => ?_) (fun h5 => ?_)
   ·refine kT ?_
    refine kK ?_
    refine PJ.next ?_
    refine kS ?_
    refine kb 1 ?_
    refine kS ?_
    refine kS ?_
    refine J.keep [1, 4, 5, 10, 11, 12, 14, 16] (L2 := [(1, lsv (encI .i32) 1 x1), (4, .int .i64 x4), (5, .ptr 0 0), (10, .ptr 1 0), (11, .int .i64 0), (12, .bool false), (14, .int .i64 s0.1), (16, .int .i64 s0.2)]) (by kernel_rfl) ?_
    refine K.draw (by kernel_rfl) (by kernel_rfl) (by kernel_rfl) (H2 := [.box [lsv encSt106 2 x0.Pre_, lsv encSt106 2 x0.Suf_, lsv encSt106 2 y0.1, lsv encSt106 2 x0.NSuf_, .bool true, .int .i64 x0.Hash_, .int .i64 x0.MinInt_, .int .i64 x0.MinFrac_, .int .i64 x0.MaxFrac_, .int .i64 x0.G1_, .int .i64 x0.G2_, .int .i64 x0.MinSig_, .int .i64 x0.MaxSig_, .int .i64 x0.Exp_, .bool x0.ExpPlus_, .int .i32 x0.Pad_, .int .i64 x0.PadAt_], .box [.nl, .nl, .nl, .nl, .bool false, .int .i64 0, .int .i64 0, .int .i64 0, .int .i64 0, .int .i64 0, .int .i64 0, .int .i64 0, .int .i64 0, .int .i64 0, .bool false, .int .i32 0, .int .i64 0], .res]) (by kernel_rfl) (n := 2) (by kernel_rfl) ?_
    refine kD 2 ?_
    obtain ⟨y2, hy2, h6⟩ := bindS h4
    refine RJ.call0 (d := (some 42)) (f := 83) (args := [lsv (encI .i32) 1 x1, .int .i64 s0.1]) (v := .int .i32 y2) (tr2 := [([], []), ([], []), ([], [4, 5])]) (by kernel_rfl) (by kernel_rfl) (.cons (Le.refl _) (.cons (Le.refl _) .nil)) (exergueref10_at_ok hy2) (by kernel_rfl) ?_
    refine kD 2 ?_
    obtain ⟨hm, h7⟩ := asrt h6
    refine kJ 45 (tr2 := [([], []), ([], []), ([], [4, 5]), ([], []), ([], []), ([], [])]) (encI_len .i32) hm ?_
    refine kD 2 ?_
    refine kEN ?_
    refine kBJ 47 h7 (fun h8 => ?_) (fun h9 => ?_)
    ·refine kT ?_
     refine kSR ?_
     refine kC 5 [1,4,5,10,11,12,14,16] ?_
     refine kEN ?_
     refine kX ?_
     refine PJ.passRet ?_
     refine PJ.blockRet ?_
     refine PJ.passRet ?_
     obtain rfl := oi h8
     refine PJ.loopOut (fun e => nomatch e) (fun he0 => ?_)
     have h10 := congrArg some he0
     refine PJ.blockRet ?_
     obtain rfl := oi h10
     have h11 := joinX_inr h0
     refine PJ.cutXr (fun e => nomatch e) ?_
     obtain rfl := oi h11
     exact kZ hFn hFH hFD
    ·refine kF ?_
     refine kK ?_
     refine PJ.next ?_
     refine kR ?_
     refine kC 3 [1,4,5,10,11,12,14,16] ?_
     refine kE ?_
     refine PJ.blockNormal ?_
     refine PJ.next ?_
     refine kR ?_
     refine kC 3 [1,4,5,10,11,12,14,16] ?_
     refine kE ?_
     obtain rfl := oi h9
     refine kW (L2 := [(1, lsv (encI .i32) 1 x1), (4, .int .i64 x4), (5, .ptr 0 0), (10, .ptr 1 0), (11, .int .i64 0), (12, .bool false), (14, .int .i64 (IntKind.wrap .i64 (s0.1 + 1))), (16, .int .i64 (IntKind.wrap .i64 (s0.2 + 1)))]) (H2 := [.box [lsv encSt106 2 x0.Pre_, lsv encSt106 2 x0.Suf_, lsv encSt106 2 y0.1, lsv encSt106 2 x0.NSuf_, .bool true, .int .i64 x0.Hash_, .int .i64 x0.MinInt_, .int .i64 x0.MinFrac_, .int .i64 x0.MaxFrac_, .int .i64 x0.G1_, .int .i64 x0.G2_, .int .i64 x0.MinSig_, .int .i64 x0.MaxSig_, .int .i64 x0.Exp_, .bool x0.ExpPlus_, .int .i32 x0.Pad_, .int .i64 x0.PadAt_], .box [.nl, .nl, .nl, .nl, .bool false, .int .i64 0, .int .i64 0, .int .i64 0, .int .i64 0, .int .i64 0, .int .i64 0, .int .i64 0, .int .i64 0, .int .i64 0, .bool false, .int .i32 0, .int .i64 0]]) hFH hFD [0, 1] ?_
     exact kLN [1, 4, 5, 10, 11, 12, 14, 16]
   ·refine kF ?_
    refine K.exit 0 (by kernel_rfl) ?_
    refine PJ.passExit ?_
    obtain rfl := oi h5
    refine PJ.loopOut (fun e => nomatch e) (fun he1 => ?_)
    have h12 := congrArg some he1
    refine PJ.blockOut ?_
    obtain rfl := oi h12
    exact kXl [1, 5, 10, 11, 12, 14]
  ·subst hs
   have h13 := joinX_inl h0
   refine kSR ?_
   refine kC 2 [5,10,11,12,53,54] ?_
   obtain ⟨y1, hy3, h14⟩ := bindS h13
   refine kA 55 (exergueref10_affix_ok hy3) ?_
   refine kC 7 [5,10,11,12,17,18,19] ?_
   refine kEN ?_
   refine kSR ?_
   refine kC 3 [5,10,11,12,18,19] ?_
   refine kEN ?_
   refine kSR ?_
   refine kC 6 [10,11,12] ?_
   refine kEN ?_
   refine kX ?_
   obtain rfl := oi h14
   exact kZ hFn hFH hFD
def exergueref10_Parse (x0 : List UInt8) : Option (St25 × Int × Int) :=
 (Option.bind (exergueref01_Decode (bytesI x0)) fun y2 => (bif (decide (¬ y2.2.2 = 0)) then (some ((⟨([] : List St106), ([] : List St106), ([] : List St106), ([] : List St106), false, 0, 0, 0, 0, 0, 0, 0, 0, 0, false, 0, 0⟩ : St25), y2.2.1, 3)) else (bif (decide ((y2.1.length : Int) > 120)) then (some ((⟨([] : List St106), ([] : List St106), ([] : List St106), ([] : List St106), false, 0, 0, 0, 0, 0, 0, 0, 0, 0, false, 0, 0⟩ : St25), 0, 11)) else (Option.bind (exergueref10_first y2.1) fun y0 => (Option.bind (Option.bind (bif y0.2.2.2.2 then (Option.bind (exergueref10_at y2.1 y0.2.2.2.1) fun y3 => (some (decide (y3 = 59)))) else (some false)) fun (s1 : Bool) => (bif s1 then (Option.bind (exergueref10_second y0.1 y2.1 (IntKind.wrap .i64 (y0.2.2.2.1 + 1)) y0.2.1 y0.2.2.1) fun y1 => (some (y1.2.1, y1.2.2, y1.1.Pre_, y1.1.Suf_, y1.1.NPre_, y1.1.NSuf_, y1.1.Neg_, y1.1.Hash_, y1.1.MinInt_, y1.1.MinFrac_, y1.1.MaxFrac_, y1.1.G1_, y1.1.G2_, y1.1.MinSig_, y1.1.MaxSig_, y1.1.Exp_, y1.1.ExpPlus_, y1.1.Pad_, y1.1.PadAt_))) else (some (y0.2.2.2.1, y0.2.2.2.2, y0.1.Pre_, y0.1.Suf_, y0.1.NPre_, y0.1.NSuf_, y0.1.Neg_, y0.1.Hash_, y0.1.MinInt_, y0.1.MinFrac_, y0.1.MaxFrac_, y0.1.G1_, y0.1.G2_, y0.1.MinSig_, y0.1.MaxSig_, y0.1.Exp_, y0.1.ExpPlus_, y0.1.Pad_, y0.1.PadAt_)))) fun (s0 : Int × Bool × (List St106) × (List St106) × (List St106) × (List St106) × Bool × Int × Int × Int × Int × Int × Int × Int × Int × Int × Bool × Int × Int) => (Option.bind (Option.bind (bif (!s0.2.1) then (some true) else (some ((decide (s0.1 < (y2.1.length : Int)))))) fun (s2 : Bool) => (bif s2 then (some (.inr ((⟨([] : List St106), ([] : List St106), ([] : List St106), ([] : List St106), false, 0, 0, 0, 0, 0, 0, 0, 0, 0, false, 0, 0⟩ : St25), s0.1, 2))) else (some (.inl ())))) (joinX fun (s4 : Unit) => (Option.bind (Option.bind (bif (decide ((IntKind.wrap .i64 (s0.2.2.2.2.2.2.2.1 + s0.2.2.2.2.2.2.2.2.1)) > 40)) then (some true) else (bif (decide (s0.2.2.2.2.2.2.2.2.2.2.1 > 40)) then (some true) else (bif (decide (s0.2.2.2.2.2.2.2.2.2.2.2.2.2.2.1 > 40)) then (some true) else (some (decide (s0.2.2.2.2.2.2.2.2.2.2.2.2.2.2.2.1 > 40)))))) fun (s3 : Bool) => (bif s3 then (some (.inr ((⟨([] : List St106), ([] : List St106), ([] : List St106), ([] : List St106), false, 0, 0, 0, 0, 0, 0, 0, 0, 0, false, 0, 0⟩ : St25), 0, 11))) else (some (.inl ())))) (joinX fun (s5 : Unit) => (some ((⟨s0.2.2.1, s0.2.2.2.1, s0.2.2.2.2.1, s0.2.2.2.2.2.1, s0.2.2.2.2.2.2.1, s0.2.2.2.2.2.2.2.1, s0.2.2.2.2.2.2.2.2.1, s0.2.2.2.2.2.2.2.2.2.1, s0.2.2.2.2.2.2.2.2.2.2.1, s0.2.2.2.2.2.2.2.2.2.2.2.1, s0.2.2.2.2.2.2.2.2.2.2.2.2.1, s0.2.2.2.2.2.2.2.2.2.2.2.2.2.1, s0.2.2.2.2.2.2.2.2.2.2.2.2.2.2.1, s0.2.2.2.2.2.2.2.2.2.2.2.2.2.2.2.1, s0.2.2.2.2.2.2.2.2.2.2.2.2.2.2.2.2.1, s0.2.2.2.2.2.2.2.2.2.2.2.2.2.2.2.2.2.1, s0.2.2.2.2.2.2.2.2.2.2.2.2.2.2.2.2.2.2⟩ : St25), 0, 0)))))))))))
theorem exergueref10_Parse_ok {x0 : List UInt8} {r : St25 × Int × Int} (h : exergueref10_Parse x0 = some r) : SC Tryz.prog 57 [.str x0] [] (.tup [.agg (encSt25 r.1), .int .i64 r.2.1, .int .i64 r.2.2]) [] := by
 refine kFn (fn := Tryz.f57) (fun F hFn hFH hFD => ?_)
 unfold exergueref10_Parse at h
 refine kSR ?_
 refine kC 3 [0,2,3,4] ?_
 refine kEN ?_
 refine kSR ?_
 refine kC 1 [2,3,4,17] ?_
 refine RJ.rel (d := (some 18)) (ef := ⟨.lst x0.length 1 (x0.map byteSV), [], []⟩) (ef' := ⟨lsv (encI .u8) 1 (bytesI x0), [], []⟩) (c := true) (tr2 := []) (H2 := [.box [.nl, .nl, .nl, .nl, .bool false, .int .i64 0, .int .i64 0, .int .i64 0, .int .i64 0, .int .i64 0, .int .i64 0, .int .i64 0, .int .i64 0, .int .i64 0, .bool false, .int .i32 0, .int .i64 0]]) (by kernel_rfl) rfl (fun hc => N.toBytes) (by kernel_rfl) ?_
 obtain ⟨y2, hy0, h2⟩ := bindS h
 refine kA 19 (exergueref01_Decode_ok hy0) ?_
 refine kC 7 [2,3,4,5,6,7] ?_
 refine kEN ?_
 refine kS ?_
 refine kSR ?_
 refine kC 2 [2,3,4,5,6,24] ?_
 refine kEN ?_
 refine kBJ 24 h2 (fun h3 => ?_) (fun h4 => ?_)
 ·refine kT ?_
  refine kSR ?_
  refine kC 5 [2,3,4,5] ?_
  refine kEN ?_
  refine kX ?_
  refine PJ.passRet ?_
  obtain rfl := oi h3
  refine PJ.res (v1 := .tup [.agg [.nl, .nl, .nl, .nl, .bool false, .int .i64 0, .int .i64 0, .int .i64 0, .int .i64 0, .int .i64 0, .int .i64 0, .int .i64 0, .int .i64 0, .int .i64 0, .bool false, .int .i32 0, .int .i64 0], .int .i64 y2.2.1, .int .i64 3]) (Le.tup (.cons (Le.agg (.cons (Le.nl _) (.cons (Le.nl _) (.cons (Le.nl _) (.cons (Le.nl _) (.cons (Le.refl _) (.cons (Le.refl _) (.cons (Le.refl _) (.cons (Le.refl _) (.cons (Le.refl _) (.cons (Le.refl _) (.cons (Le.refl _) (.cons (Le.refl _) (.cons (Le.refl _) (.cons (Le.refl _) (.cons (Le.refl _) (.cons (Le.refl _) (.cons (Le.refl _) .nil)))))))))))))))))) (.cons (Le.refl _) (.cons (Le.refl _) .nil)))) ?_
  exact kZ hFn hFH hFD
 ·refine kF ?_
  refine kK ?_
  refine PJ.next ?_
  refine kS ?_
  refine kSR ?_
  refine kC 3 [2,3,4,5,29] ?_
  refine kEN ?_
  refine kBJ 29 h4 (fun h5 => ?_) (fun h6 => ?_)
  ·refine kT ?_
   refine kSR ?_
   refine kC 4 [2,3,4,5] ?_
   refine kEN ?_
   refine kX ?_
   refine PJ.passRet ?_
   obtain rfl := oi h5
   refine PJ.res (v1 := .tup [.agg [.nl, .nl, .nl, .nl, .bool false, .int .i64 0, .int .i64 0, .int .i64 0, .int .i64 0, .int .i64 0, .int .i64 0, .int .i64 0, .int .i64 0, .int .i64 0, .bool false, .int .i32 0, .int .i64 0], .int .i64 0, .int .i64 11]) (Le.tup (.cons (Le.agg (.cons (Le.nl _) (.cons (Le.nl _) (.cons (Le.nl _) (.cons (Le.nl _) (.cons (Le.refl _) (.cons (Le.refl _) (.cons (Le.refl _) (.cons (Le.refl _) (.cons (Le.refl _) (.cons (Le.refl _) (.cons (Le.refl _) (.cons (Le.refl _) (.cons (Le.refl _) (.cons (Le.refl _) (.cons (Le.refl _) (.cons (Le.refl _) (.cons (Le.refl _) .nil)))))))))))))))))) (.cons (Le.refl _) (.cons (Le.refl _) .nil)))) ?_
   exact kZ hFn hFH hFD
  ·refine kF ?_
   refine kK ?_
   refine PJ.next ?_
   refine kSR ?_
   refine kC 1 [2,3,4,5,32] ?_
   obtain ⟨y0, hy1, h7⟩ := bindS h6
   refine kA 33 (exergueref10_first_ok hy1) ?_
   refine kC 12 [2,3,4,5,8,9,10,11,12] ?_
   refine kEN ?_
   obtain ⟨s0, hy2, h8⟩ := bindS h7
   refine K.cutN (by kernel_rfl) (fun (s0 : Int × Bool × (List St106) × (List St106) × (List St106) × (List St106) × Bool × Int × Int × Int × Int × Int × Int × Int × Int × Int × Bool × Int × Int) => ([(2, .ptr 0 0), (3, .int .i64 0), (4, .int .i64 0), (5, lsv (encI .i32) 1 y2.1), (8, .ptr 1 0), (11, .int .i64 s0.1), (12, .bool s0.2.1)], [.box [.nl, .nl, .nl, .nl, .bool false, .int .i64 0, .int .i64 0, .int .i64 0, .int .i64 0, .int .i64 0, .int .i64 0, .int .i64 0, .int .i64 0, .int .i64 0, .bool false, .int .i32 0, .int .i64 0], .box [lsv encSt106 2 s0.2.2.1, lsv encSt106 2 s0.2.2.2.1, lsv encSt106 2 s0.2.2.2.2.1, lsv encSt106 2 s0.2.2.2.2.2.1, .bool s0.2.2.2.2.2.2.1, .int .i64 s0.2.2.2.2.2.2.2.1, .int .i64 s0.2.2.2.2.2.2.2.2.1, .int .i64 s0.2.2.2.2.2.2.2.2.2.1, .int .i64 s0.2.2.2.2.2.2.2.2.2.2.1, .int .i64 s0.2.2.2.2.2.2.2.2.2.2.2.1, .int .i64 s0.2.2.2.2.2.2.2.2.2.2.2.2.1, .int .i64 s0.2.2.2.2.2.2.2.2.2.2.2.2.2.1, .int .i64 s0.2.2.2.2.2.2.2.2.2.2.2.2.2.2.1, .int .i64 s0.2.2.2.2.2.2.2.2.2.2.2.2.2.2.2.1, .bool s0.2.2.2.2.2.2.2.2.2.2.2.2.2.2.2.2.1, .int .i32 s0.2.2.2.2.2.2.2.2.2.2.2.2.2.2.2.2.2.1, .int .i64 s0.2.2.2.2.2.2.2.2.2.2.2.2.2.2.2.2.2.2]])) s0 ?_ ?_
   ·obtain ⟨s1, hy3, h9⟩ := bindS hy2
    refine K.cutN (by kernel_rfl) (fun (s1 : Bool) => ([(2, .ptr 0 0), (3, .int .i64 0), (4, .int .i64 0), (5, lsv (encI .i32) 1 y2.1), (8, .ptr 1 0), (9, .int .i64 y0.2.1), (10, .int .i64 y0.2.2.1), (11, .int .i64 y0.2.2.2.1), (12, .bool y0.2.2.2.2), (45, .bool s1)], [.box [.nl, .nl, .nl, .nl, .bool false, .int .i64 0, .int .i64 0, .int .i64 0, .int .i64 0, .int .i64 0, .int .i64 0, .int .i64 0, .int .i64 0, .int .i64 0, .bool false, .int .i32 0, .int .i64 0], .box (encSt25 y0.1)])) s1 ?_ ?_
    ·refine kR ?_
     refine kC 2 [2,3,4,5,8,9,10,11,12,40] ?_
     refine kB 40 hy3 (fun h10 => ?_) (fun h11 => ?_)
     ·refine RJ.seg 2 [2, 3, 4, 5, 8, 9, 10, 11, 12, 40, 41, 42] (L2 := [(2, .ptr 0 0), (3, .int .i64 0), (4, .int .i64 0), (5, lsv (encI .i32) 1 y2.1), (8, .ptr 1 0), (9, .int .i64 y0.2.1), (10, .int .i64 y0.2.2.1), (11, .int .i64 y0.2.2.2.1), (12, .bool y0.2.2.2.2), (40, .bool true), (41, lsv (encI .i32) 1 y2.1), (42, .int .i64 y0.2.2.2.1)]) (H2 := [.box [.nl, .nl, .nl, .nl, .bool false, .int .i64 0, .int .i64 0, .int .i64 0, .int .i64 0, .int .i64 0, .int .i64 0, .int .i64 0, .int .i64 0, .int .i64 0, .bool false, .int .i32 0, .int .i64 0], .box (encSt25 y0.1)]) (by kernel_rfl) ?_
      obtain ⟨y3, hy4, h12⟩ := bindS h10
      refine kA 43 (exergueref10_at_ok hy4) ?_
      refine kC 2 [2,3,4,5,8,9,10,11,12,45] ?_
      refine kE ?_
      obtain rfl := oi h12
      exact kN [2, 3, 4, 5, 8, 9, 10, 11, 12, 45]
     ·refine RJ.seg 5 [2, 3, 4, 5, 8, 9, 10, 11, 12, 45] (L2 := [(2, .ptr 0 0), (3, .int .i64 0), (4, .int .i64 0), (5, lsv (encI .i32) 1 y2.1), (8, .ptr 1 0), (9, .int .i64 y0.2.1), (10, .int .i64 y0.2.2.1), (11, .int .i64 y0.2.2.2.1), (12, .bool y0.2.2.2.2), (45, .bool false)]) (H2 := [.box [.nl, .nl, .nl, .nl, .bool false, .int .i64 0, .int .i64 0, .int .i64 0, .int .i64 0, .int .i64 0, .int .i64 0, .int .i64 0, .int .i64 0, .int .i64 0, .bool false, .int .i32 0, .int .i64 0], .box (encSt25 y0.1)]) (by kernel_rfl) ?_
      refine kE ?_
      obtain rfl := oi h11
      exact kN [2, 3, 4, 5, 8, 9, 10, 11, 12, 45]
    ·refine kBJ 45 h9 (fun h13 => ?_) (fun h14 => ?_)
     ·refine kT ?_
      refine kSR ?_
      refine kC 6 [2,3,4,5,8,11,12,47,48,50,51,52] ?_
      obtain ⟨y1, hy5, h15⟩ := bindS h13
      refine kA 53 (exergueref10_second_ok hy5) ?_
      refine kC 8 [2,3,4,5,8,11,12,13,14,15] ?_
      refine kEN ?_
      refine kSR ?_
      refine kC 2 [2,3,4,5,8,11,12,14,15] ?_
      refine kEN ?_
      refine kSR ?_
      refine kC 2 [2,3,4,5,8,11,12,15] ?_
      refine kEN ?_
      refine kR ?_
      refine kC 2 [2,3,4,5,8,11,12] ?_
      refine kE ?_
      obtain rfl := oi h15
      refine kW (L2 := [(2, .ptr 0 0), (3, .int .i64 0), (4, .int .i64 0), (5, lsv (encI .i32) 1 y2.1), (8, .ptr 1 0), (11, .int .i64 y1.2.1), (12, .bool y1.2.2)]) (H2 := [.box [.nl, .nl, .nl, .nl, .bool false, .int .i64 0, .int .i64 0, .int .i64 0, .int .i64 0, .int .i64 0, .int .i64 0, .int .i64 0, .int .i64 0, .int .i64 0, .bool false, .int .i32 0, .int .i64 0], .box (encSt25 y1.1)]) hFH hFD [0, 1] ?_
      exact kN [2, 3, 4, 5, 8, 11, 12]
     ·refine kF ?_
      refine kK ?_
      obtain rfl := oi h14
      exact kN [2, 3, 4, 5, 8, 11, 12]
   ·obtain ⟨y4, hy6, h0⟩ := bindS h8
    refine K.cutX (by kernel_rfl) (fun (s4 : Unit) => ([(2, .ptr 0 0), (3, .int .i64 0), (4, .int .i64 0), (8, .ptr 1 0)], [.box [.nl, .nl, .nl, .nl, .bool false, .int .i64 0, .int .i64 0, .int .i64 0, .int .i64 0, .int .i64 0, .int .i64 0, .int .i64 0, .int .i64 0, .int .i64 0, .bool false, .int .i32 0, .int .i64 0], .box [lsv encSt106 2 s0.2.2.1, lsv encSt106 2 s0.2.2.2.1, lsv encSt106 2 s0.2.2.2.2.1, lsv encSt106 2 s0.2.2.2.2.2.1, .bool s0.2.2.2.2.2.2.1, .int .i64 s0.2.2.2.2.2.2.2.1, .int .i64 s0.2.2.2.2.2.2.2.2.1, .int .i64 s0.2.2.2.2.2.2.2.2.2.1, .int .i64 s0.2.2.2.2.2.2.2.2.2.2.1, .int .i64 s0.2.2.2.2.2.2.2.2.2.2.2.1, .int .i64 s0.2.2.2.2.2.2.2.2.2.2.2.2.1, .int .i64 s0.2.2.2.2.2.2.2.2.2.2.2.2.2.1, .int .i64 s0.2.2.2.2.2.2.2.2.2.2.2.2.2.2.1, .int .i64 s0.2.2.2.2.2.2.2.2.2.2.2.2.2.2.2.1, .bool s0.2.2.2.2.2.2.2.2.2.2.2.2.2.2.2.2.1, .int .i32 s0.2.2.2.2.2.2.2.2.2.2.2.2.2.2.2.2.2.1, .int .i64 s0.2.2.2.2.2.2.2.2.2.2.2.2.2.2.2.2.2.2]])) y4 ?_ (fun s4 hs => ?_)
    ·obtain ⟨s2, hy7, h16⟩ := bindS hy6
     refine K.cutN (by kernel_rfl) (fun (s2 : Bool) => ([(2, .ptr 0 0), (3, .int .i64 0), (4, .int .i64 0), (8, .ptr 1 0), (11, .int .i64 s0.1), (67, .bool s2)], [.box [.nl, .nl, .nl, .nl, .bool false, .int .i64 0, .int .i64 0, .int .i64 0, .int .i64 0, .int .i64 0, .int .i64 0, .int .i64 0, .int .i64 0, .int .i64 0, .bool false, .int .i32 0, .int .i64 0], .box [lsv encSt106 2 s0.2.2.1, lsv encSt106 2 s0.2.2.2.1, lsv encSt106 2 s0.2.2.2.2.1, lsv encSt106 2 s0.2.2.2.2.2.1, .bool s0.2.2.2.2.2.2.1, .int .i64 s0.2.2.2.2.2.2.2.1, .int .i64 s0.2.2.2.2.2.2.2.2.1, .int .i64 s0.2.2.2.2.2.2.2.2.2.1, .int .i64 s0.2.2.2.2.2.2.2.2.2.2.1, .int .i64 s0.2.2.2.2.2.2.2.2.2.2.2.1, .int .i64 s0.2.2.2.2.2.2.2.2.2.2.2.2.1, .int .i64 s0.2.2.2.2.2.2.2.2.2.2.2.2.2.1, .int .i64 s0.2.2.2.2.2.2.2.2.2.2.2.2.2.2.1, .int .i64 s0.2.2.2.2.2.2.2.2.2.2.2.2.2.2.2.1, .bool s0.2.2.2.2.2.2.2.2.2.2.2.2.2.2.2.2.1, .int .i32 s0.2.2.2.2.2.2.2.2.2.2.2.2.2.2.2.2.2.1, .int .i64 s0.2.2.2.2.2.2.2.2.2.2.2.2.2.2.2.2.2.2]])) s2 ?_ ?_
     ·refine kR ?_
      refine kC 3 [2,3,4,5,8,11,62] ?_
      refine kB 62 hy7 (fun h17 => ?_) (fun h18 => ?_)
      ·refine kC 5 [2,3,4,8,11,67] ?_
       refine kE ?_
       obtain rfl := oi h17
       exact kN [2, 3, 4, 8, 11, 67]
      ·refine kC 5 [2,3,4,8,11,67] ?_
       refine kE ?_
       obtain rfl := oi h18
       exact kN [2, 3, 4, 8, 11, 67]
     ·refine kBJ 67 h16 (fun h19 => ?_) (fun h20 => ?_)
      ·refine kT ?_
       refine kSR ?_
       refine kC 5 [2,3,4,8] ?_
       refine kEN ?_
       refine kX ?_
       obtain rfl := oi h19
       have h21 := joinX_inr h0
       refine PJ.cutXr (fun e => nomatch e) ?_
       obtain rfl := oi h21
       refine PJ.res (v1 := .tup [.agg [.nl, .nl, .nl, .nl, .bool false, .int .i64 0, .int .i64 0, .int .i64 0, .int .i64 0, .int .i64 0, .int .i64 0, .int .i64 0, .int .i64 0, .int .i64 0, .bool false, .int .i32 0, .int .i64 0], .int .i64 s0.1, .int .i64 2]) (Le.tup (.cons (Le.agg (.cons (Le.nl _) (.cons (Le.nl _) (.cons (Le.nl _) (.cons (Le.nl _) (.cons (Le.refl _) (.cons (Le.refl _) (.cons (Le.refl _) (.cons (Le.refl _) (.cons (Le.refl _) (.cons (Le.refl _) (.cons (Le.refl _) (.cons (Le.refl _) (.cons (Le.refl _) (.cons (Le.refl _) (.cons (Le.refl _) (.cons (Le.refl _) (.cons (Le.refl _) .nil)))))))))))))))))) (.cons (Le.refl _) (.cons (Le.refl _) .nil)))) ?_
       exact kZ hFn hFH hFD
      ·refine kF ?_
       refine kK ?_
       obtain rfl := oi h20
       exact kXl [2, 3, 4, 8]
    ·subst hs
     have h22 := joinX_inl h0
     obtain ⟨y5, hy8, h1⟩ := bindS h22
     refine K.cutX (by kernel_rfl) (fun (s5 : Unit) => ([(2, .ptr 0 0), (3, .int .i64 0), (4, .int .i64 0), (8, .ptr 1 0)], [.box [.nl, .nl, .nl, .nl, .bool false, .int .i64 0, .int .i64 0, .int .i64 0, .int .i64 0, .int .i64 0, .int .i64 0, .int .i64 0, .int .i64 0, .int .i64 0, .bool false, .int .i32 0, .int .i64 0], .box [lsv encSt106 2 s0.2.2.1, lsv encSt106 2 s0.2.2.2.1, lsv encSt106 2 s0.2.2.2.2.1, lsv encSt106 2 s0.2.2.2.2.2.1, .bool s0.2.2.2.2.2.2.1, .int .i64 s0.2.2.2.2.2.2.2.1, .int .i64 s0.2.2.2.2.2.2.2.2.1, .int .i64 s0.2.2.2.2.2.2.2.2.2.1, .int .i64 s0.2.2.2.2.2.2.2.2.2.2.1, .int .i64 s0.2.2.2.2.2.2.2.2.2.2.2.1, .int .i64 s0.2.2.2.2.2.2.2.2.2.2.2.2.1, .int .i64 s0.2.2.2.2.2.2.2.2.2.2.2.2.2.1, .int .i64 s0.2.2.2.2.2.2.2.2.2.2.2.2.2.2.1, .int .i64 s0.2.2.2.2.2.2.2.2.2.2.2.2.2.2.2.1, .bool s0.2.2.2.2.2.2.2.2.2.2.2.2.2.2.2.2.1, .int .i32 s0.2.2.2.2.2.2.2.2.2.2.2.2.2.2.2.2.2.1, .int .i64 s0.2.2.2.2.2.2.2.2.2.2.2.2.2.2.2.2.2.2]])) y5 ?_ (fun s5 hs => ?_)
     ·obtain ⟨s3, hy9, h23⟩ := bindS hy8
      refine K.cutN (by kernel_rfl) (fun (s3 : Bool) => ([(2, .ptr 0 0), (3, .int .i64 0), (4, .int .i64 0), (8, .ptr 1 0), (90, .bool s3)], [.box [.nl, .nl, .nl, .nl, .bool false, .int .i64 0, .int .i64 0, .int .i64 0, .int .i64 0, .int .i64 0, .int .i64 0, .int .i64 0, .int .i64 0, .int .i64 0, .bool false, .int .i32 0, .int .i64 0], .box [lsv encSt106 2 s0.2.2.1, lsv encSt106 2 s0.2.2.2.1, lsv encSt106 2 s0.2.2.2.2.1, lsv encSt106 2 s0.2.2.2.2.2.1, .bool s0.2.2.2.2.2.2.1, .int .i64 s0.2.2.2.2.2.2.2.1, .int .i64 s0.2.2.2.2.2.2.2.2.1, .int .i64 s0.2.2.2.2.2.2.2.2.2.1, .int .i64 s0.2.2.2.2.2.2.2.2.2.2.1, .int .i64 s0.2.2.2.2.2.2.2.2.2.2.2.1, .int .i64 s0.2.2.2.2.2.2.2.2.2.2.2.2.1, .int .i64 s0.2.2.2.2.2.2.2.2.2.2.2.2.2.1, .int .i64 s0.2.2.2.2.2.2.2.2.2.2.2.2.2.2.1, .int .i64 s0.2.2.2.2.2.2.2.2.2.2.2.2.2.2.2.1, .bool s0.2.2.2.2.2.2.2.2.2.2.2.2.2.2.2.2.1, .int .i32 s0.2.2.2.2.2.2.2.2.2.2.2.2.2.2.2.2.2.1, .int .i64 s0.2.2.2.2.2.2.2.2.2.2.2.2.2.2.2.2.2.2]])) s3 ?_ ?_
      ·refine kR ?_
       refine kC 7 [2,3,4,8,76] ?_
       refine kB 76 hy9 (fun h24 => ?_) (fun h25 => ?_)
       ·refine kC 14 [2,3,4,8,90] ?_
        refine kE ?_
        obtain rfl := oi h24
        exact kN [2, 3, 4, 8, 90]
       ·refine kC 5 [2,3,4,8,81] ?_
        refine kB 81 h25 (fun h26 => ?_) (fun h27 => ?_)
        ·refine kC 9 [2,3,4,8,90] ?_
         refine kE ?_
         obtain rfl := oi h26
         exact kN [2, 3, 4, 8, 90]
        ·refine kC 5 [2,3,4,8,86] ?_
         refine kB 86 h27 (fun h28 => ?_) (fun h29 => ?_)
         ·refine kC 4 [2,3,4,8,90] ?_
          refine kE ?_
          obtain rfl := oi h28
          exact kN [2, 3, 4, 8, 90]
         ·refine kC 4 [2,3,4,8,90] ?_
          refine kE ?_
          obtain rfl := oi h29
          exact kN [2, 3, 4, 8, 90]
      ·refine kBJ 90 h23 (fun h30 => ?_) (fun h31 => ?_)
       ·refine kT ?_
        refine kSR ?_
        refine kC 4 [2,3,4,8] ?_
        refine kEN ?_
        refine kX ?_
        obtain rfl := oi h30
        have h32 := joinX_inr h1
        refine PJ.cutXr (fun e => nomatch e) ?_
        obtain rfl := oi h32
        refine PJ.res (v1 := .tup [.agg [.nl, .nl, .nl, .nl, .bool false, .int .i64 0, .int .i64 0, .int .i64 0, .int .i64 0, .int .i64 0, .int .i64 0, .int .i64 0, .int .i64 0, .int .i64 0, .bool false, .int .i32 0, .int .i64 0], .int .i64 0, .int .i64 11]) (Le.tup (.cons (Le.agg (.cons (Le.nl _) (.cons (Le.nl _) (.cons (Le.nl _) (.cons (Le.nl _) (.cons (Le.refl _) (.cons (Le.refl _) (.cons (Le.refl _) (.cons (Le.refl _) (.cons (Le.refl _) (.cons (Le.refl _) (.cons (Le.refl _) (.cons (Le.refl _) (.cons (Le.refl _) (.cons (Le.refl _) (.cons (Le.refl _) (.cons (Le.refl _) (.cons (Le.refl _) .nil)))))))))))))))))) (.cons (Le.refl _) (.cons (Le.refl _) .nil)))) ?_
        exact kZ hFn hFH hFD
       ·refine kF ?_
        refine kK ?_
        obtain rfl := oi h31
        exact kXl [2, 3, 4, 8]
     ·subst hs
      have h33 := joinX_inl h1
      refine kSR ?_
      refine kC 4 [2,3,4] ?_
      refine kEN ?_
      refine kX ?_
      obtain rfl := oi h33
      exact kZ hFn hFH hFD
def exergueref10_Toks (x0 : List St106) (x1 : List St106) : Option (Bool) :=
 (bif (decide (¬ (x0.length : Int) = (x1.length : Int))) then (some false) else (Option.bind (loopN (fun (s0 : Int) => (bif (decide (s0 < (x0.length : Int))) then (bif inR s0 x0.length then (bif inR s0 x1.length then (bif (!((decide (((nth x0 s0).Kind_) = ((nth x1 s0).Kind_))) && ((decide (((nth x0 s0).R_) = ((nth x1 s0).R_))) && true))) then (some (.inr (.inr false))) else (some (.inl (IntKind.wrap .i64 (s0 + 1))))) else none) else none) else (some (.inr (.inl ()))))) big 0) (joinX fun (s1 : Unit) => (some true))))
theorem exergueref10_Toks_ok {x0 : List St106} {x1 : List St106} {r : Bool} (h : exergueref10_Toks x0 x1 = some r) : SC Tryz.prog 88 [lsv encSt106 2 x0, lsv encSt106 2 x1] [] (.bool r) [] := by
 refine kFn (fn := Tryz.f88) (fun F hFn hFH hFD => ?_)
 unfold exergueref10_Toks at h
 refine kSR ?_
 refine kC 1 [0,1,4] ?_
 refine kEN ?_
 refine kS ?_
 refine kSR ?_
 refine kC 5 [0,1,4,10] ?_
 refine kEN ?_
 refine kBJ 10 h (fun h1 => ?_) (fun h2 => ?_)
 ·refine kT ?_
  refine kSR ?_
  refine kC 1 [0,1,4] ?_
  refine kEN ?_
  refine kX ?_
  refine PJ.passRet ?_
  obtain rfl := oi h1
  exact kZ hFn hFH hFD
 ·refine kF ?_
  refine kK ?_
  refine PJ.next ?_
  obtain ⟨y0, hy0, h0⟩ := bindS h2
  refine K.cutX (by kernel_rfl) (fun (s1 : Unit) => ([(4, .bool false)], [])) y0 ?_ (fun s1 hs => ?_)
  ·refine kSR ?_
   refine kC 1 [0,1,4,5] ?_
   refine kEN ?_
   refine kb 0 ?_
   refine kl (fun (s0 : Int) => ([(0, lsv encSt106 2 x0), (1, lsv encSt106 2 x1), (4, .bool false), (5, .int .i64 s0)], [])) hy0 [0, 1, 4, 5] (fun s0 x79 hs0 => ?_)
   refine kS ?_
   refine kSR ?_
   refine kC 4 [0,1,4,5,14] ?_
   refine kEN ?_
   refine kBJ 14 hs0 (fun h3 => ?_) (fun h4 => ?_)
   ·refine kT ?_
    refine kK ?_
    refine PJ.next ?_
    refine kS ?_
    refine kb 1 ?_
    refine kS ?_
    refine J.keep [0, 1, 4, 5] (L2 := [(0, lsv encSt106 2 x0), (1, lsv encSt106 2 x1), (4, .bool false), (5, .int .i64 s0)]) (by kernel_rfl) ?_
    refine K.draw (by kernel_rfl) (by kernel_rfl) (by kernel_rfl) (H2 := []) (by kernel_rfl) (n := 0) (by kernel_rfl) ?_
    refine kD 2 ?_
    obtain ⟨hm, h5⟩ := asrt h3
    refine kJ 19 (tr2 := [([], []), ([], []), ([], [])]) encSt106_len hm ?_
    refine kD 3 ?_
    obtain ⟨hm, h6⟩ := asrt h5
    refine kJ 23 (tr2 := [([], []), ([], []), ([], []), ([], []), ([], []), ([], []), ([], [])]) encSt106_len hm ?_
    refine kD 2 ?_
    refine kEN ?_
    refine kBJ 25 h6 (fun h7 => ?_) (fun h8 => ?_)
    ·refine kT ?_
     refine kSR ?_
     refine kC 1 [0,1,4,5] ?_
     refine kEN ?_
     refine kX ?_
     refine PJ.blockRet ?_
     refine PJ.passRet ?_
     obtain rfl := oi h7
     refine PJ.loopOut (fun e => nomatch e) (fun he0 => ?_)
     have h9 := congrArg some he0
     refine PJ.blockRet ?_
     obtain rfl := oi h9
     have h10 := joinX_inr h0
     refine PJ.cutXr (fun e => nomatch e) ?_
     obtain rfl := oi h10
     exact kZ hFn hFH hFD
    ·refine kF ?_
     refine kK ?_
     refine PJ.blockNormal ?_
     refine PJ.next ?_
     refine kR ?_
     refine kC 3 [0,1,4,5] ?_
     refine kE ?_
     obtain rfl := oi h8
     exact kLN [0, 1, 4, 5]
   ·refine kF ?_
    refine K.exit 0 (by kernel_rfl) ?_
    refine PJ.passExit ?_
    obtain rfl := oi h4
    refine PJ.loopOut (fun e => nomatch e) (fun he1 => ?_)
    have h11 := congrArg some he1
    refine PJ.blockOut ?_
    obtain rfl := oi h11
    exact kXl [4]
  ·subst hs
   have h12 := joinX_inl h0
   refine kSR ?_
   refine kC 1 [4] ?_
   refine kEN ?_
   refine kX ?_
   obtain rfl := oi h12
   exact kZ hFn hFH hFD
def exergueref10_Same (x0 : St25) (x1 : St25) : Option (Bool) :=
 (Option.bind (Option.bind (exergueref10_Toks x0.Pre_ x1.Pre_) fun y0 => (bif y0 then (Option.bind (exergueref10_Toks x0.Suf_ x1.Suf_) fun y1 => (some y1)) else (some false))) fun (s0 : Bool) => (Option.bind (Option.bind (exergueref10_Toks x0.NPre_ x1.NPre_) fun y2 => (bif y2 then (Option.bind (exergueref10_Toks x0.NSuf_ x1.NSuf_) fun y3 => (some y3)) else (some false))) fun (s1 : Bool) => (Option.bind (Option.bind (bif (!s0) then (some true) else (bif (!s1) then (some true) else (bif (x0.Neg_ != x1.Neg_) then (some true) else (bif (decide (¬ x0.Pad_ = x1.Pad_)) then (some true) else (bif (decide (¬ x0.PadAt_ = x1.PadAt_)) then (some true) else (some (x0.ExpPlus_ != x1.ExpPlus_))))))) fun (s2 : Bool) => (bif s2 then (some (.inr false)) else (some (.inl ())))) (joinX fun (s5 : Unit) => (Option.bind (bif (decide (x0.Hash_ = x1.Hash_)) then (bif (decide (x0.MinInt_ = x1.MinInt_)) then (bif (decide (x0.G1_ = x1.G1_)) then (some (decide (x0.G2_ = x1.G2_))) else (some false)) else (some false)) else (some false)) fun (s3 : Bool) => (Option.bind (bif s3 then (bif (decide (x0.MinFrac_ = x1.MinFrac_)) then (bif (decide (x0.MaxFrac_ = x1.MaxFrac_)) then (bif (decide (x0.MinSig_ = x1.MinSig_)) then (bif (decide (x0.MaxSig_ = x1.MaxSig_)) then (some (decide (x0.Exp_ = x1.Exp_))) else (some false)) else (some false)) else (some false)) else (some false)) else (some false)) fun (s4 : Bool) => (some s4)))))))
theorem exergueref10_Same_ok {x0 : St25} {x1 : St25} {r : Bool} (h : exergueref10_Same x0 x1 = some r) : SC Tryz.prog 59 [.agg (encSt25 x0), .agg (encSt25 x1)] [] (.bool r) [] := by
 refine kFn (fn := Tryz.f59) (fun F hFn hFH hFD => ?_)
 unfold exergueref10_Same at h
 refine kSR ?_
 refine kC 3 [2,3,4] ?_
 refine kEN ?_
 obtain ⟨s0, hy0, h1⟩ := bindS h
 refine K.cutN (by kernel_rfl) (fun (s0 : Bool) => ([(2, .ptr 0 0), (3, .ptr 1 0), (4, .bool false), (5, .bool s0)], [.box (encSt25 x0), .box (encSt25 x1)])) s0 ?_ ?_
 ·refine kR ?_
  refine kC 4 [2,3,4,9,11] ?_
  obtain ⟨y0, hy1, h2⟩ := bindS hy0
  refine kA 12 (exergueref10_Toks_ok hy1) ?_
  refine kC 1 [2,3,4,13] ?_
  refine kB 13 h2 (fun h3 => ?_) (fun h4 => ?_)
  ·refine kC 4 [2,3,4,13,15,17] ?_
   obtain ⟨y1, hy2, h5⟩ := bindS h3
   refine kA 18 (exergueref10_Toks_ok hy2) ?_
   refine kC 2 [2,3,4,5] ?_
   refine kE ?_
   obtain rfl := oi h5
   exact kN [2, 3, 4, 5]
  ·refine kC 7 [2,3,4,5] ?_
   refine kE ?_
   obtain rfl := oi h4
   exact kN [2, 3, 4, 5]
 ·obtain ⟨s1, hy3, h6⟩ := bindS h1
  refine K.cutN (by kernel_rfl) (fun (s1 : Bool) => ([(2, .ptr 0 0), (3, .ptr 1 0), (4, .bool false), (5, .bool s0), (6, .bool s1)], [.box (encSt25 x0), .box (encSt25 x1)])) s1 ?_ ?_
  ·refine kR ?_
   refine kC 4 [2,3,4,5,21,23] ?_
   obtain ⟨y2, hy4, h7⟩ := bindS hy3
   refine kA 24 (exergueref10_Toks_ok hy4) ?_
   refine kC 1 [2,3,4,5,25] ?_
   refine kB 25 h7 (fun h8 => ?_) (fun h9 => ?_)
   ·refine kC 4 [2,3,4,5,25,27,29] ?_
    obtain ⟨y3, hy5, h10⟩ := bindS h8
    refine kA 30 (exergueref10_Toks_ok hy5) ?_
    refine kC 2 [2,3,4,5,6] ?_
    refine kE ?_
    obtain rfl := oi h10
    exact kN [2, 3, 4, 5, 6]
   ·refine kC 7 [2,3,4,5,6] ?_
    refine kE ?_
    obtain rfl := oi h9
    exact kN [2, 3, 4, 5, 6]
  ·obtain ⟨y4, hy6, h0⟩ := bindS h6
   refine K.cutX (by kernel_rfl) (fun (s5 : Unit) => ([(2, .ptr 0 0), (3, .ptr 1 0), (4, .bool false)], [.box (encSt25 x0), .box (encSt25 x1)])) y4 ?_ (fun s5 hs => ?_)
   ·obtain ⟨s2, hy7, h11⟩ := bindS hy6
    refine K.cutN (by kernel_rfl) (fun (s2 : Bool) => ([(2, .ptr 0 0), (3, .ptr 1 0), (4, .bool false), (65, .bool s2)], [.box (encSt25 x0), .box (encSt25 x1)])) s2 ?_ ?_
    ·refine kR ?_
     refine kC 3 [2,3,4,6,34] ?_
     refine kB 34 hy7 (fun h12 => ?_) (fun h13 => ?_)
     ·refine kC 31 [2,3,4,65] ?_
      refine kE ?_
      obtain rfl := oi h12
      exact kN [2, 3, 4, 65]
     ·refine kC 4 [2,3,4,38] ?_
      refine kB 38 h13 (fun h14 => ?_) (fun h15 => ?_)
      ·refine kC 27 [2,3,4,65] ?_
       refine kE ?_
       obtain rfl := oi h14
       exact kN [2, 3, 4, 65]
      ·refine kC 7 [2,3,4,45] ?_
       refine kB 45 h15 (fun h16 => ?_) (fun h17 => ?_)
       ·refine kC 20 [2,3,4,65] ?_
        refine kE ?_
        obtain rfl := oi h16
        exact kN [2, 3, 4, 65]
       ·refine kC 7 [2,3,4,52] ?_
        refine kB 52 h17 (fun h18 => ?_) (fun h19 => ?_)
        ·refine kC 13 [2,3,4,65] ?_
         refine kE ?_
         obtain rfl := oi h18
         exact kN [2, 3, 4, 65]
        ·refine kC 7 [2,3,4,59] ?_
         refine kB 59 h19 (fun h20 => ?_) (fun h21 => ?_)
         ·refine kC 6 [2,3,4,65] ?_
          refine kE ?_
          obtain rfl := oi h20
          exact kN [2, 3, 4, 65]
         ·refine kC 6 [2,3,4,65] ?_
          refine kE ?_
          obtain rfl := oi h21
          exact kN [2, 3, 4, 65]
    ·refine kBJ 65 h11 (fun h22 => ?_) (fun h23 => ?_)
     ·refine kT ?_
      refine kSR ?_
      refine kC 1 [2,3,4] ?_
      refine kEN ?_
      refine kX ?_
      obtain rfl := oi h22
      have h24 := joinX_inr h0
      refine PJ.cutXr (fun e => nomatch e) ?_
      obtain rfl := oi h24
      exact kZ hFn hFH hFD
     ·refine kF ?_
      refine kK ?_
      obtain rfl := oi h23
      exact kXl [2, 3, 4]
   ·subst hs
    have h25 := joinX_inl h0
    obtain ⟨s3, hy8, h26⟩ := bindS h25
    refine K.cutN (by kernel_rfl) (fun (s3 : Bool) => ([(2, .ptr 0 0), (3, .ptr 1 0), (4, .bool false), (7, .bool s3)], [.box (encSt25 x0), .box (encSt25 x1)])) s3 ?_ ?_
    ·refine kR ?_
     refine kC 6 [2,3,4,71] ?_
     refine kB 71 hy8 (fun h27 => ?_) (fun h28 => ?_)
     ·refine kC 7 [2,3,4,78] ?_
      refine kB 78 h27 (fun h29 => ?_) (fun h30 => ?_)
      ·refine kC 7 [2,3,4,85] ?_
       refine kB 85 h29 (fun h31 => ?_) (fun h32 => ?_)
       ·refine kC 7 [2,3,4,7] ?_
        refine kE ?_
        obtain rfl := oi h31
        exact kN [2, 3, 4, 7]
       ·refine kC 7 [2,3,4,7] ?_
        refine kE ?_
        obtain rfl := oi h32
        exact kN [2, 3, 4, 7]
      ·refine kC 14 [2,3,4,7] ?_
       refine kE ?_
       obtain rfl := oi h30
       exact kN [2, 3, 4, 7]
     ·refine kC 21 [2,3,4,7] ?_
      refine kE ?_
      obtain rfl := oi h28
      exact kN [2, 3, 4, 7]
    ·obtain ⟨s4, hy9, h33⟩ := bindS h26
     refine K.cutN (by kernel_rfl) (fun (s4 : Bool) => ([(4, .bool s4)], [])) s4 ?_ ?_
     ·refine kR ?_
      refine kC 2 [2,3,4,93] ?_
      refine kB 93 hy9 (fun h34 => ?_) (fun h35 => ?_)
      ·refine kC 7 [2,3,4,100] ?_
       refine kB 100 h34 (fun h36 => ?_) (fun h37 => ?_)
       ·refine kC 7 [2,3,4,107] ?_
        refine kB 107 h36 (fun h38 => ?_) (fun h39 => ?_)
        ·refine kC 7 [2,3,4,114] ?_
         refine kB 114 h38 (fun h40 => ?_) (fun h41 => ?_)
         ·refine kC 7 [2,3,4,121] ?_
          refine kB 121 h40 (fun h42 => ?_) (fun h43 => ?_)
          ·refine kC 7 [4] ?_
           refine kE ?_
           obtain rfl := oi h42
           refine kW (L2 := [(4, .bool (decide (x0.Exp_ = x1.Exp_)))]) (H2 := []) hFH hFD [] ?_
           exact kN [4]
          ·refine kC 7 [4] ?_
           refine kE ?_
           obtain rfl := oi h43
           refine kW (L2 := [(4, .bool false)]) (H2 := []) hFH hFD [] ?_
           exact kN [4]
         ·refine kC 14 [4] ?_
          refine kE ?_
          obtain rfl := oi h41
          refine kW (L2 := [(4, .bool false)]) (H2 := []) hFH hFD [] ?_
          exact kN [4]
        ·refine kC 21 [4] ?_
         refine kE ?_
         obtain rfl := oi h39
         refine kW (L2 := [(4, .bool false)]) (H2 := []) hFH hFD [] ?_
         exact kN [4]
       ·refine kC 28 [4] ?_
        refine kE ?_
        obtain rfl := oi h37
        refine kW (L2 := [(4, .bool false)]) (H2 := []) hFH hFD [] ?_
        exact kN [4]
      ·refine kC 35 [4] ?_
       refine kE ?_
       obtain rfl := oi h35
       refine kW (L2 := [(4, .bool false)]) (H2 := []) hFH hFD [] ?_
       exact kN [4]
     ·refine kX ?_
      obtain rfl := oi h33
      exact kZ hFn hFH hFD
def exergueref10_Right (x0 : St25) : Option (Bool) :=
 (Option.bind (loopN (fun (s0 : Int) => (bif (decide (s0 < (([x0.Hash_, x0.MinInt_, x0.MinFrac_, x0.MaxFrac_, x0.G1_, x0.G2_, x0.MinSig_, x0.MaxSig_, x0.Exp_] : List Int).length : Int))) then (Option.bind (Option.bind (bif inR s0 ([x0.Hash_, x0.MinInt_, x0.MinFrac_, x0.MaxFrac_, x0.G1_, x0.G2_, x0.MinSig_, x0.MaxSig_, x0.Exp_] : List Int).length then (bif inR s0 ([x0.Hash_, x0.MinInt_, x0.MinFrac_, x0.MaxFrac_, x0.G1_, x0.G2_, x0.MinSig_, x0.MaxSig_, x0.Exp_] : List Int).length then (bif (decide ((nth ([x0.Hash_, x0.MinInt_, x0.MinFrac_, x0.MaxFrac_, x0.G1_, x0.G2_, x0.MinSig_, x0.MaxSig_, x0.Exp_] : List Int) s0) < 0)) then (some true) else (bif inR s0 ([x0.Hash_, x0.MinInt_, x0.MinFrac_, x0.MaxFrac_, x0.G1_, x0.G2_, x0.MinSig_, x0.MaxSig_, x0.Exp_] : List Int).length then (bif inR s0 ([x0.Hash_, x0.MinInt_, x0.MinFrac_, x0.MaxFrac_, x0.G1_, x0.G2_, x0.MinSig_, x0.MaxSig_, x0.Exp_] : List Int).length then (some ((decide ((nth ([x0.Hash_, x0.MinInt_, x0.MinFrac_, x0.MaxFrac_, x0.G1_, x0.G2_, x0.MinSig_, x0.MaxSig_, x0.Exp_] : List Int) s0) > 40)))) else none) else none)) else none) else none) fun (s2 : Bool) => (bif s2 then (some (.inr (.inr (.inr false)))) else (some (.inl ())))) (joinX fun (s6 : Unit) => (some (.inl (IntKind.wrap .i64 (s0 + 1)))))) else (some (.inr (.inl ()))))) big 0) (joinX fun (s7 : Unit) => (Option.bind (exergueref01_Is x0.Pad_) fun y0 => (Option.bind (Option.bind (exergueref10_runes x0.Pre_) fun y3 => (bif y3 then (Option.bind (exergueref10_runes x0.Suf_) fun y4 => (some y4)) else (some false))) fun (s1 : Bool) => (Option.bind (Option.bind (exergueref10_runes x0.NPre_) fun y5 => (bif y5 then (Option.bind (exergueref10_runes x0.NSuf_) fun y6 => (some y6)) else (some false))) fun (s3 : Bool) => (Option.bind (Option.bind (bif (!y0) then (some true) else (bif (!s1) then (some true) else (some (!s3)))) fun (s4 : Bool) => (bif s4 then (some (.inr false)) else (some (.inl ())))) (joinX fun (s8 : Unit) => (Option.bind (exergueref10_Text x0) fun y7 => (Option.bind (exergueref10_Parse y7) fun y1 => (Option.bind (bif (decide (y1.2.2 = 0)) then (Option.bind (exergueref10_Same x0 y1.1) fun y2 => (some y2)) else (some false)) fun (s5 : Bool) => (some s5)))))))))))
theorem exergueref10_Right_ok {x0 : St25} {r : Bool} (h : exergueref10_Right x0 = some r) : SC Tryz.prog 23 [.agg (encSt25 x0)] [] (.bool r) [] := by
 refine kFn (fn := Tryz.f23) (fun F hFn hFH hFD => ?_)
 unfold exergueref10_Right at h
 refine kSR ?_
 refine kC 2 [1,2] ?_
 refine kEN ?_
 refine kSR ?_
 refine kC 20 [1,2,3] ?_
 refine kEN ?_
 obtain ⟨y8, hy0, h0⟩ := bindS h
 refine K.cutX (by kernel_rfl) (fun (s7 : Unit) => ([(1, .ptr 0 0), (2, .bool false)], [.box (encSt25 x0)])) y8 ?_ (fun s7 hs => ?_)
 ·refine kSR ?_
  refine kC 1 [1,2,3,4] ?_
  refine kEN ?_
  refine kb 0 ?_
  refine kl (fun (s0 : Int) => ([(1, .ptr 0 0), (2, .bool false), (3, .vc 1), (4, .int .i64 s0)], [.box (encSt25 x0), vecL (encI .i64) 1 3 ([x0.Hash_, x0.MinInt_, x0.MinFrac_, x0.MaxFrac_, x0.G1_, x0.G2_, x0.MinSig_, x0.MaxSig_, x0.Exp_] : List Int)])) hy0 [1, 2, 3, 4] (fun s0 x321 hs0 => ?_)
  refine kS ?_
  refine kSR ?_
  refine kC 4 [1,2,3,4,33] ?_
  refine kEN ?_
  refine kBJ 33 hs0 (fun h3 => ?_) (fun h4 => ?_)
  ·refine kT ?_
   refine kK ?_
   refine PJ.next ?_
   obtain ⟨y9, hy1, h1⟩ := bindS h3
   refine K.cutX (by kernel_rfl) (fun (s6 : Unit) => ([(1, .ptr 0 0), (2, .bool false), (3, .vc 1), (4, .int .i64 s0)], [.box (encSt25 x0), vecL (encI .i64) 1 3 ([x0.Hash_, x0.MinInt_, x0.MinFrac_, x0.MaxFrac_, x0.G1_, x0.G2_, x0.MinSig_, x0.MaxSig_, x0.Exp_] : List Int)])) y9 ?_ (fun s6 hs => ?_)
   ·refine kb 1 ?_
    obtain ⟨s2, hy2, h5⟩ := bindS hy1
    refine K.cutN (by kernel_rfl) (fun (s2 : Bool) => ([(1, .ptr 0 0), (2, .bool false), (3, .vc 1), (4, .int .i64 s0), (47, .bool s2)], [.box (encSt25 x0), vecL (encI .i64) 1 3 ([x0.Hash_, x0.MinInt_, x0.MinFrac_, x0.MaxFrac_, x0.G1_, x0.G2_, x0.MinSig_, x0.MaxSig_, x0.Exp_] : List Int)])) s2 ?_ ?_
    ·refine kR ?_
     refine kC 2 [1,2,3,4,36,37] ?_
     obtain ⟨hm, h6⟩ := asrt hy2
     refine kQ 38 (.ptr 1 ((s0 : Int).toNat * 1)) [1] (tr2 := []) hm ?_
     obtain ⟨hm, h7⟩ := asrt h6
     refine RJ.rel (d := (some 39)) (ef := ⟨(((([x0.Hash_, x0.MinInt_, x0.MinFrac_, x0.MaxFrac_, x0.G1_, x0.G2_, x0.MinSig_, x0.MaxSig_, x0.Exp_] : List Int)).flatMap (encI .i64)).drop ((s0 : Int).toNat * 1)).headD .undef, [1], []⟩) (ef' := ⟨.int .i64 (nth ([x0.Hash_, x0.MinInt_, x0.MinFrac_, x0.MaxFrac_, x0.G1_, x0.G2_, x0.MinSig_, x0.MaxSig_, x0.Exp_] : List Int) s0), [1], []⟩) (c := Nat.blt ((s0 : Int).toNat * 1) (([x0.Hash_, x0.MinInt_, x0.MinFrac_, x0.MaxFrac_, x0.G1_, x0.G2_, x0.MinSig_, x0.MaxSig_, x0.Exp_] : List Int).flatMap (encI .i64)).length) (tr2 := []) (H2 := [.box (encSt25 x0), vecL (encI .i64) 1 3 ([x0.Hash_, x0.MinInt_, x0.MinFrac_, x0.MaxFrac_, x0.G1_, x0.G2_, x0.MinSig_, x0.MaxSig_, x0.Exp_] : List Int)]) (by kernel_rfl) (loadv_ok (encI_len .i64) rfl hm) (fun hc => N.load1 (encI_len .i64) (fun _ => rfl) hm) (by kernel_rfl) ?_
     refine kC 2 [1,2,3,4,41] ?_
     refine kB 41 h7 (fun h8 => ?_) (fun h9 => ?_)
     ·refine kC 6 [1,2,3,4,47] ?_
      refine kE ?_
      obtain rfl := oi h8
      exact kN [1, 2, 3, 4, 47]
     ·refine kC 2 [1,2,3,4,41,42,43] ?_
      obtain ⟨hm, h10⟩ := asrt h9
      refine kQ 44 (.ptr 1 ((s0 : Int).toNat * 1)) [1] (tr2 := []) hm ?_
      obtain ⟨hm, h11⟩ := asrt h10
      refine RJ.rel (d := (some 45)) (ef := ⟨(((([x0.Hash_, x0.MinInt_, x0.MinFrac_, x0.MaxFrac_, x0.G1_, x0.G2_, x0.MinSig_, x0.MaxSig_, x0.Exp_] : List Int)).flatMap (encI .i64)).drop ((s0 : Int).toNat * 1)).headD .undef, [1], []⟩) (ef' := ⟨.int .i64 (nth ([x0.Hash_, x0.MinInt_, x0.MinFrac_, x0.MaxFrac_, x0.G1_, x0.G2_, x0.MinSig_, x0.MaxSig_, x0.Exp_] : List Int) s0), [1], []⟩) (c := Nat.blt ((s0 : Int).toNat * 1) (([x0.Hash_, x0.MinInt_, x0.MinFrac_, x0.MaxFrac_, x0.G1_, x0.G2_, x0.MinSig_, x0.MaxSig_, x0.Exp_] : List Int).flatMap (encI .i64)).length) (tr2 := []) (H2 := [.box (encSt25 x0), vecL (encI .i64) 1 3 ([x0.Hash_, x0.MinInt_, x0.MinFrac_, x0.MaxFrac_, x0.G1_, x0.G2_, x0.MinSig_, x0.MaxSig_, x0.Exp_] : List Int)]) (by kernel_rfl) (loadv_ok (encI_len .i64) rfl hm) (fun hc => N.load1 (encI_len .i64) (fun _ => rfl) hm) (by kernel_rfl) ?_
      refine kC 2 [1,2,3,4,47] ?_
      refine kE ?_
      obtain rfl := oi h11
      exact kN [1, 2, 3, 4, 47]
    ·refine kBJ 47 h5 (fun h12 => ?_) (fun h13 => ?_)
     ·refine kT ?_
      refine kSR ?_
      refine kC 1 [1,2,3,4] ?_
      refine kEN ?_
      refine kX ?_
      refine PJ.blockRet ?_
      obtain rfl := oi h12
      have h14 := joinX_inr h1
      refine PJ.cutXr (fun e => nomatch e) ?_
      obtain rfl := oi h14
      refine PJ.loopOut (fun e => nomatch e) (fun he0 => ?_)
      have h15 := congrArg some he0
      refine PJ.blockRet ?_
      obtain rfl := oi h15
      have h16 := joinX_inr h0
      refine PJ.cutXr (fun e => nomatch e) ?_
      obtain rfl := oi h16
      exact kZ hFn hFH hFD
     ·refine kF ?_
      refine kK ?_
      refine PJ.blockNormal ?_
      obtain rfl := oi h13
      exact kXl [1, 2, 3, 4]
   ·subst hs
    have h17 := joinX_inl h1
    refine kR ?_
    refine kC 3 [1,2,3,4] ?_
    refine kE ?_
    obtain rfl := oi h17
    exact kLN [1, 2, 3, 4]
  ·refine kF ?_
   refine K.exit 0 (by kernel_rfl) ?_
   refine PJ.passExit ?_
   obtain rfl := oi h4
   refine PJ.loopOut (fun e => nomatch e) (fun he1 => ?_)
   have h18 := congrArg some he1
   refine PJ.blockOut ?_
   obtain rfl := oi h18
   refine kW (L2 := [(1, .ptr 0 0), (2, .bool false)]) (H2 := [.box (encSt25 x0)]) hFH hFD [0] ?_
   exact kXl [1, 2]
 ·subst hs
  have h19 := joinX_inl h0
  refine kSR ?_
  refine kC 2 [1,2,49] ?_
  obtain ⟨y0, hy3, h20⟩ := bindS h19
  refine kA 50 (exergueref01_Is_ok hy3) ?_
  refine kC 1 [1,2,5] ?_
  refine kEN ?_
  obtain ⟨s1, hy4, h21⟩ := bindS h20
  refine K.cutN (by kernel_rfl) (fun (s1 : Bool) => ([(1, .ptr 0 0), (2, .bool false), (5, .bool y0), (6, .bool s1)], [.box (encSt25 x0)])) s1 ?_ ?_
  ·refine kR ?_
   refine kC 2 [1,2,5,52] ?_
   obtain ⟨y3, hy5, h22⟩ := bindS hy4
   refine kA 53 (exergueref10_runes_ok hy5) ?_
   refine kC 1 [1,2,5,54] ?_
   refine kB 54 h22 (fun h23 => ?_) (fun h24 => ?_)
   ·refine kC 2 [1,2,5,54,56] ?_
    obtain ⟨y4, hy6, h25⟩ := bindS h23
    refine kA 57 (exergueref10_runes_ok hy6) ?_
    refine kC 2 [1,2,5,6] ?_
    refine kE ?_
    obtain rfl := oi h25
    exact kN [1, 2, 5, 6]
   ·refine kC 5 [1,2,5,6] ?_
    refine kE ?_
    obtain rfl := oi h24
    exact kN [1, 2, 5, 6]
  ·obtain ⟨s3, hy7, h26⟩ := bindS h21
   refine K.cutN (by kernel_rfl) (fun (s3 : Bool) => ([(1, .ptr 0 0), (2, .bool false), (5, .bool y0), (6, .bool s1), (7, .bool s3)], [.box (encSt25 x0)])) s3 ?_ ?_
   ·refine kR ?_
    refine kC 2 [1,2,5,6,60] ?_
    obtain ⟨y5, hy8, h27⟩ := bindS hy7
    refine kA 61 (exergueref10_runes_ok hy8) ?_
    refine kC 1 [1,2,5,6,62] ?_
    refine kB 62 h27 (fun h28 => ?_) (fun h29 => ?_)
    ·refine kC 2 [1,2,5,6,62,64] ?_
     obtain ⟨y6, hy9, h30⟩ := bindS h28
     refine kA 65 (exergueref10_runes_ok hy9) ?_
     refine kC 2 [1,2,5,6,7] ?_
     refine kE ?_
     obtain rfl := oi h30
     exact kN [1, 2, 5, 6, 7]
    ·refine kC 5 [1,2,5,6,7] ?_
     refine kE ?_
     obtain rfl := oi h29
     exact kN [1, 2, 5, 6, 7]
   ·obtain ⟨y10, hy10, h2⟩ := bindS h26
    refine K.cutX (by kernel_rfl) (fun (s8 : Unit) => ([(1, .ptr 0 0), (2, .bool false)], [.box (encSt25 x0)])) y10 ?_ (fun s8 hs => ?_)
    ·obtain ⟨s4, hy11, h31⟩ := bindS hy10
     refine K.cutN (by kernel_rfl) (fun (s4 : Bool) => ([(1, .ptr 0 0), (2, .bool false), (76, .bool s4)], [.box (encSt25 x0)])) s4 ?_ ?_
     ·refine kR ?_
      refine kC 3 [1,2,6,7,69] ?_
      refine kB 69 hy11 (fun h32 => ?_) (fun h33 => ?_)
      ·refine kC 7 [1,2,76] ?_
       refine kE ?_
       obtain rfl := oi h32
       exact kN [1, 2, 76]
      ·refine kC 4 [1,2,7,73] ?_
       refine kB 73 h33 (fun h34 => ?_) (fun h35 => ?_)
       ·refine kC 3 [1,2,76] ?_
        refine kE ?_
        obtain rfl := oi h34
        exact kN [1, 2, 76]
       ·refine kC 3 [1,2,76] ?_
        refine kE ?_
        obtain rfl := oi h35
        exact kN [1, 2, 76]
     ·refine kBJ 76 h31 (fun h36 => ?_) (fun h37 => ?_)
      ·refine kT ?_
       refine kSR ?_
       refine kC 1 [1,2] ?_
       refine kEN ?_
       refine kX ?_
       obtain rfl := oi h36
       have h38 := joinX_inr h2
       refine PJ.cutXr (fun e => nomatch e) ?_
       obtain rfl := oi h38
       exact kZ hFn hFH hFD
      ·refine kF ?_
       refine kK ?_
       obtain rfl := oi h37
       exact kXl [1, 2]
    ·subst hs
     have h39 := joinX_inl h2
     refine kSR ?_
     refine kC 1 [1,2,78] ?_
     obtain ⟨y7, hy12, h40⟩ := bindS h39
     refine kA 79 (exergueref10_Text_ok hy12) ?_
     obtain ⟨y1, hy13, h41⟩ := bindS h40
     refine kA 80 (exergueref10_Parse_ok hy13) ?_
     refine kC 8 [1,2,8,10] ?_
     refine kEN ?_
     obtain ⟨s5, hy14, h42⟩ := bindS h41
     refine K.cutN (by kernel_rfl) (fun (s5 : Bool) => ([(2, .bool s5)], [])) s5 ?_ ?_
     ·refine kR ?_
      refine kC 3 [1,2,8,86] ?_
      refine kB 86 hy14 (fun h43 => ?_) (fun h44 => ?_)
      ·refine kC 2 [2,86,87,88] ?_
       obtain ⟨y2, hy15, h45⟩ := bindS h43
       refine kA 89 (exergueref10_Same_ok hy15) ?_
       refine kC 2 [2] ?_
       refine kE ?_
       obtain rfl := oi h45
       refine kW (L2 := [(2, .bool y2)]) (H2 := []) hFH hFD [] ?_
       exact kN [2]
      ·refine kC 5 [2] ?_
       refine kE ?_
       obtain rfl := oi h44
       refine kW (L2 := [(2, .bool false)]) (H2 := []) hFH hFD [] ?_
       exact kN [2]
     ·refine kX ?_
      obtain rfl := oi h42
      exact kZ hFn hFH hFD
def exerguelaw17_of (x0 : St25) (x1 : Int) : Option (Bool) :=
 (Option.bind (Option.bind (exergueref10_Few x0) fun y0 => (bif y0 then (Option.bind (exergueref10_Right x0) fun y1 => (bif y1 then (some (decide (x1 ≤ 40))) else (some false))) else (some false))) fun (s0 : Bool) => (some s0))
theorem exerguelaw17_of_ok {x0 : St25} {x1 : Int} {r : Bool} (h : exerguelaw17_of x0 x1 = some r) : SC Tryz.prog 6 [.agg (encSt25 x0), .int .i64 x1] [] (.bool r) [] := by
 refine kFn (fn := Tryz.f6) (fun F hFn hFH hFD => ?_)
 unfold exerguelaw17_of at h
 refine kSR ?_
 refine kC 2 [1,2,4] ?_
 refine kEN ?_
 obtain ⟨s0, hy0, h0⟩ := bindS h
 refine K.cutN (by kernel_rfl) (fun (s0 : Bool) => ([(4, .bool s0)], [])) s0 ?_ ?_
 ·refine kR ?_
  refine kC 1 [1,2,4,5] ?_
  obtain ⟨y0, hy1, h1⟩ := bindS hy0
  refine kA 6 (exergueref10_Few_ok hy1) ?_
  refine kC 1 [1,2,4,7] ?_
  refine kB 7 h1 (fun h2 => ?_) (fun h3 => ?_)
  ·refine kC 1 [1,4,7,8] ?_
   obtain ⟨y1, hy2, h4⟩ := bindS h2
   refine kA 9 (exergueref10_Right_ok hy2) ?_
   refine kC 2 [1,4,11] ?_
   refine kB 11 h4 (fun h5 => ?_) (fun h6 => ?_)
   ·refine kC 4 [4] ?_
    refine kE ?_
    obtain rfl := oi h5
    refine kW (L2 := [(4, .bool (decide (x1 ≤ 40)))]) (H2 := []) hFH hFD [] ?_
    exact kN [4]
   ·refine kC 4 [4] ?_
    refine kE ?_
    obtain rfl := oi h6
    refine kW (L2 := [(4, .bool false)]) (H2 := []) hFH hFD [] ?_
    exact kN [4]
  ·refine kC 8 [4] ?_
   refine kE ?_
   obtain rfl := oi h3
   refine kW (L2 := [(4, .bool false)]) (H2 := []) hFH hFD [] ?_
   exact kN [4]
 ·refine kX ?_
  obtain rfl := oi h0
  exact kZ hFn hFH hFD
def exergueref02_turning (x0 : Int) : Option (Bool) :=
 (Option.bind (bif (decide (x0 = 1564)) then (some true) else (bif (decide (x0 = 8206)) then (some true) else (bif (decide (x0 = 8207)) then (some true) else (bif (decide (x0 ≥ 8234)) then (bif (decide (x0 ≤ 8238)) then (some true) else (bif (decide (x0 ≥ 8294)) then (some (decide (x0 ≤ 8297))) else (some false))) else (bif (decide (x0 ≥ 8294)) then (some (decide (x0 ≤ 8297))) else (some false)))))) fun (s0 : Bool) => (some s0))
theorem exergueref02_turning_ok {x0 : Int} {r : Bool} (h : exergueref02_turning x0 = some r) : SC Tryz.prog 60 [.int .i64 x0] [] (.bool r) [] := by
 refine kFn (fn := Tryz.f60) (fun F hFn hFH hFD => ?_)
 unfold exergueref02_turning at h
 refine kSR ?_
 refine kC 1 [0,2] ?_
 refine kEN ?_
 obtain ⟨s0, hy0, h0⟩ := bindS h
 refine K.cutN (by kernel_rfl) (fun (s0 : Bool) => ([(2, .bool s0)], [])) s0 ?_ ?_
 ·refine kR ?_
  refine kC 3 [0,2,5] ?_
  refine kB 5 hy0 (fun h1 => ?_) (fun h2 => ?_)
  ·refine kC 24 [2] ?_
   refine kE ?_
   obtain rfl := oi h1
   exact kN [2]
  ·refine kC 4 [0,2,9] ?_
   refine kB 9 h2 (fun h3 => ?_) (fun h4 => ?_)
   ·refine kC 20 [2] ?_
    refine kE ?_
    obtain rfl := oi h3
    exact kN [2]
   ·refine kC 4 [0,2,13] ?_
    refine kB 13 h4 (fun h5 => ?_) (fun h6 => ?_)
    ·refine kC 16 [2] ?_
     refine kE ?_
     obtain rfl := oi h5
     exact kN [2]
    ·refine kC 3 [0,2,13,16] ?_
     refine kB 16 h6 (fun h7 => ?_) (fun h8 => ?_)
     ·refine kC 5 [0,2,21] ?_
      refine kB 21 h7 (fun h9 => ?_) (fun h10 => ?_)
      ·refine kC 8 [2] ?_
       refine kE ?_
       obtain rfl := oi h9
       exact kN [2]
      ·refine kC 3 [0,2,21,24] ?_
       refine kB 24 h10 (fun h11 => ?_) (fun h12 => ?_)
       ·refine kC 5 [2] ?_
        refine kE ?_
        obtain rfl := oi h11
        exact kN [2]
       ·refine kC 5 [2] ?_
        refine kE ?_
        obtain rfl := oi h12
        exact kN [2]
     ·refine kC 8 [0,2,21,24] ?_
      refine kB 24 h8 (fun h13 => ?_) (fun h14 => ?_)
      ·refine kC 5 [2] ?_
       refine kE ?_
       obtain rfl := oi h13
       exact kN [2]
      ·refine kC 5 [2] ?_
       refine kE ?_
       obtain rfl := oi h14
       exact kN [2]
 ·refine kX ?_
  obtain rfl := oi h0
  exact kZ hFn hFH hFD
def exergueref02_blank (x0 : Int) : Option (Bool) :=
 (Option.bind (bif (decide (x0 = 32)) then (some true) else (bif (decide (x0 = 160)) then (some true) else (bif (decide (x0 = 5760)) then (some true) else (bif (decide (x0 ≥ 8192)) then (bif (decide (x0 ≤ 8202)) then (some true) else (bif (decide (x0 = 8232)) then (some true) else (bif (decide (x0 = 8233)) then (some true) else (bif (decide (x0 = 8239)) then (some true) else (bif (decide (x0 = 8287)) then (some true) else (some (decide (x0 = 12288)))))))) else (bif (decide (x0 = 8232)) then (some true) else (bif (decide (x0 = 8233)) then (some true) else (bif (decide (x0 = 8239)) then (some true) else (bif (decide (x0 = 8287)) then (some true) else (some (decide (x0 = 12288))))))))))) fun (s0 : Bool) => (some s0))
theorem exergueref02_blank_ok {x0 : Int} {r : Bool} (h : exergueref02_blank x0 = some r) : SC Tryz.prog 61 [.int .i64 x0] [] (.bool r) [] := by
 refine kFn (fn := Tryz.f61) (fun F hFn hFH hFD => ?_)
 unfold exergueref02_blank at h
 refine kSR ?_
 refine kC 1 [0,2] ?_
 refine kEN ?_
 obtain ⟨s0, hy0, h0⟩ := bindS h
 refine K.cutN (by kernel_rfl) (fun (s0 : Bool) => ([(2, .bool s0)], [])) s0 ?_ ?_
 ·refine kR ?_
  refine kC 3 [0,2,5] ?_
  refine kB 5 hy0 (fun h1 => ?_) (fun h2 => ?_)
  ·refine kC 36 [2] ?_
   refine kE ?_
   obtain rfl := oi h1
   exact kN [2]
  ·refine kC 4 [0,2,9] ?_
   refine kB 9 h2 (fun h3 => ?_) (fun h4 => ?_)
   ·refine kC 32 [2] ?_
    refine kE ?_
    obtain rfl := oi h3
    exact kN [2]
   ·refine kC 4 [0,2,13] ?_
    refine kB 13 h4 (fun h5 => ?_) (fun h6 => ?_)
    ·refine kC 28 [2] ?_
     refine kE ?_
     obtain rfl := oi h5
     exact kN [2]
    ·refine kC 3 [0,2,13,16] ?_
     refine kB 16 h6 (fun h7 => ?_) (fun h8 => ?_)
     ·refine kC 5 [0,2,21] ?_
      refine kB 21 h7 (fun h9 => ?_) (fun h10 => ?_)
      ·refine kC 20 [2] ?_
       refine kE ?_
       obtain rfl := oi h9
       exact kN [2]
      ·refine kC 4 [0,2,25] ?_
       refine kB 25 h10 (fun h11 => ?_) (fun h12 => ?_)
       ·refine kC 16 [2] ?_
        refine kE ?_
        obtain rfl := oi h11
        exact kN [2]
       ·refine kC 4 [0,2,29] ?_
        refine kB 29 h12 (fun h13 => ?_) (fun h14 => ?_)
        ·refine RJ.seg 12 [2] (L2 := [(2, .bool true)]) (H2 := []) (by kernel_rfl) ?_
         refine kE ?_
         obtain rfl := oi h13
         exact kN [2]
        ·refine RJ.seg 4 [0, 2, 33] (L2 := [(0, .int .i64 x0), (2, .bool false), (33, .bool (decide (x0 = 8239)))]) (H2 := []) (by kernel_rfl) ?_
         refine kB 33 h14 (fun h15 => ?_) (fun h16 => ?_)
         ·refine kC 8 [2] ?_
          refine kE ?_
          obtain rfl := oi h15
          exact kN [2]
         ·refine kC 4 [0,2,37] ?_
          refine kB 37 h16 (fun h17 => ?_) (fun h18 => ?_)
          ·refine kC 4 [2] ?_
           refine kE ?_
           obtain rfl := oi h17
           exact kN [2]
          ·refine kC 4 [2] ?_
           refine kE ?_
           obtain rfl := oi h18
           exact kN [2]
     ·refine kC 9 [0,2,25] ?_
      refine kB 25 h8 (fun h19 => ?_) (fun h20 => ?_)
      ·refine kC 16 [2] ?_
       refine kE ?_
       obtain rfl := oi h19
       exact kN [2]
      ·refine kC 4 [0,2,29] ?_
       refine kB 29 h20 (fun h21 => ?_) (fun h22 => ?_)
       ·refine kC 12 [2] ?_
        refine kE ?_
        obtain rfl := oi h21
        exact kN [2]
       ·refine kC 4 [0,2,33] ?_
        refine kB 33 h22 (fun h23 => ?_) (fun h24 => ?_)
        ·refine RJ.seg 8 [2] (L2 := [(2, .bool true)]) (H2 := []) (by kernel_rfl) ?_
         refine kE ?_
         obtain rfl := oi h23
         exact kN [2]
        ·refine RJ.seg 4 [0, 2, 37] (L2 := [(0, .int .i64 x0), (2, .bool false), (37, .bool (decide (x0 = 8287)))]) (H2 := []) (by kernel_rfl) ?_
         refine kB 37 h24 (fun h25 => ?_) (fun h26 => ?_)
         ·refine kC 4 [2] ?_
          refine kE ?_
          obtain rfl := oi h25
          exact kN [2]
         ·refine kC 4 [2] ?_
          refine kE ?_
          obtain rfl := oi h26
          exact kN [2]
 ·refine kX ?_
  obtain rfl := oi h0
  exact kZ hFn hFH hFD
def exergueref02_noughts  : Option (List Int) :=
 (some ([48, 1632, 1776, 1984, 2406, 2534, 2662, 2790, 2918, 3046, 3174, 3302, 3430, 3664, 3792, 3872, 6112, 6160, 65296, 120782] : List Int))
theorem exergueref02_noughts_ok  {r : List Int} (h : exergueref02_noughts = some r) : SC Tryz.prog 63 [] [] (lsv (encI .i32) 1 r) [] := by
 refine kFn (fn := Tryz.f63) (fun F hFn hFH hFD => ?_)
 unfold exergueref02_noughts at h
 refine kSR ?_
 refine kC 1 [0] ?_
 refine kEN ?_
 refine kSR ?_
 refine kC 2 [0] ?_
 refine kEN ?_
 refine kX ?_
 obtain rfl := oi h
 refine PJ.wk (Wk.freeze 0 (n := ([48, 1632, 1776, 1984, 2406, 2534, 2662, 2790, 2918, 3046, 3174, 3302, 3430, 3664, 3792, 3872, 6112, 6160, 65296, 120782] : List Int).length) (k := 1) (e := 21) (cs := ([48, 1632, 1776, 1984, 2406, 2534, 2662, 2790, 2918, 3046, 3174, 3302, 3430, 3664, 3792, 3872, 6112, 6160, 65296, 120782] : List Int).flatMap (encI .i32)) (by kernel_rfl)) ?_
 exact kZ hFn hFH hFD
def exergueref02_Value (x0 : Int) : Option (Int × Bool) :=
 (Option.bind exergueref02_noughts fun y0 => (Option.bind (loopN (fun (s0 : Int) => (bif (decide (s0 < (y0.length : Int))) then (Option.bind (loopN (fun (s1 : Int) => (bif (decide (s1 < 10)) then (bif inR s0 y0.length then (bif (decide (((IntKind.wrap .i64 ((IntKind.wrap .i64 (nth y0 s0)) + s1))) = (IntKind.wrap .i64 x0))) then (some (.inr (.inr (.inr (.inr (s1, true)))))) else (some (.inl (IntKind.wrap .i64 (s1 + 1))))) else none) else (some (.inr (.inl ()))))) big 0) (joinX fun (s2 : Unit) => (some (.inl (IntKind.wrap .i64 (s0 + 1)))))) else (some (.inr (.inl ()))))) big 0) (joinX fun (s3 : Unit) => (some (0, false)))))
theorem exergueref02_Value_ok {x0 : Int} {r : Int × Bool} (h : exergueref02_Value x0 = some r) : SC Tryz.prog 62 [.int .i32 x0] [] (.tup [.int .i64 r.1, .bool r.2]) [] := by
 refine kFn (fn := Tryz.f62) (fun F hFn hFH hFD => ?_)
 unfold exergueref02_Value at h
 refine kSR ?_
 refine kC 2 [0,2,3] ?_
 refine kEN ?_
 refine kSR ?_
 obtain ⟨y0, hy0, h2⟩ := bindS h
 refine kA 7 (exergueref02_noughts_ok hy0) ?_
 refine kC 1 [0,2,3,4] ?_
 refine kEN ?_
 obtain ⟨y1, hy1, h0⟩ := bindS h2
 refine K.cutX (by kernel_rfl) (fun (s3 : Unit) => ([(2, .int .i64 0), (3, .bool false)], [])) y1 ?_ (fun s3 hs => ?_)
 ·refine kSR ?_
  refine kC 1 [0,2,3,4,5] ?_
  refine kEN ?_
  refine kb 0 ?_
  refine kl (fun (s0 : Int) => ([(0, .int .i32 x0), (2, .int .i64 0), (3, .bool false), (4, lsv (encI .i32) 1 y0), (5, .int .i64 s0)], [])) hy1 [0, 2, 3, 4, 5] (fun s0 x544 hs0 => ?_)
  refine kS ?_
  refine kSR ?_
  refine kC 4 [0,2,3,4,5,11] ?_
  refine kEN ?_
  refine kBJ 11 hs0 (fun h3 => ?_) (fun h4 => ?_)
  ·refine kT ?_
   refine kK ?_
   refine PJ.next ?_
   obtain ⟨y2, hy2, h1⟩ := bindS h3
   refine K.cutX (by kernel_rfl) (fun (s2 : Unit) => ([(0, .int .i32 x0), (2, .int .i64 0), (3, .bool false), (4, lsv (encI .i32) 1 y0), (5, .int .i64 s0)], [])) y2 ?_ (fun s2 hs => ?_)
   ·refine kb 1 ?_
    refine kSR ?_
    refine kC 1 [0,2,3,4,5,6] ?_
    refine kEN ?_
    refine kb 2 ?_
    refine kl (fun (s1 : Int) => ([(0, .int .i32 x0), (2, .int .i64 0), (3, .bool false), (4, lsv (encI .i32) 1 y0), (5, .int .i64 s0), (6, .int .i64 s1)], [])) hy2 [0, 2, 3, 4, 5, 6] (fun s1 x633 hs1 => ?_)
    refine kS ?_
    refine kSR ?_
    refine kC 2 [0,2,3,4,5,6,15] ?_
    refine kEN ?_
    refine kBJ 15 hs1 (fun h5 => ?_) (fun h6 => ?_)
    ·refine kT ?_
     refine kK ?_
     refine PJ.next ?_
     refine kS ?_
     refine kb 3 ?_
     refine kSR ?_
     refine kC 2 [0,2,3,4,5,6,18,19] ?_
     obtain ⟨hm, h7⟩ := asrt h5
     refine kI 20 (encI_len .i32) hm ?_
     refine kC 7 [0,2,3,4,5,6,27] ?_
     refine kEN ?_
     refine kBJ 27 h7 (fun h8 => ?_) (fun h9 => ?_)
     ·refine kT ?_
      refine kSR ?_
      refine kC 3 [0,2,3,4,5,6] ?_
      refine kEN ?_
      refine kX ?_
      refine PJ.blockRet ?_
      refine PJ.passRet ?_
      obtain rfl := oi h8
      refine PJ.loopOut (fun e => nomatch e) (fun he0 => ?_)
      have h10 := congrArg some he0
      refine PJ.blockRet ?_
      refine PJ.blockRet ?_
      obtain rfl := oi h10
      have h11 := joinX_inr h1
      refine PJ.cutXr (fun e => nomatch e) ?_
      obtain rfl := oi h11
      refine PJ.loopOut (fun e => nomatch e) (fun he1 => ?_)
      have h12 := congrArg some he1
      refine PJ.blockRet ?_
      obtain rfl := oi h12
      have h13 := joinX_inr h0
      refine PJ.cutXr (fun e => nomatch e) ?_
      obtain rfl := oi h13
      exact kZ hFn hFH hFD
     ·refine kF ?_
      refine kK ?_
      refine PJ.blockNormal ?_
      refine PJ.next ?_
      refine kR ?_
      refine kC 3 [0,2,3,4,5,6] ?_
      refine kE ?_
      obtain rfl := oi h9
      exact kLN [0, 2, 3, 4, 5, 6]
    ·refine kF ?_
     refine K.exit 2 (by kernel_rfl) ?_
     refine PJ.passExit ?_
     obtain rfl := oi h6
     refine PJ.loopOut (fun e => nomatch e) (fun he2 => ?_)
     have h14 := congrArg some he2
     refine PJ.blockOut ?_
     refine PJ.blockNormal ?_
     obtain rfl := oi h14
     exact kXl [0, 2, 3, 4, 5]
   ·subst hs
    have h15 := joinX_inl h1
    refine kR ?_
    refine kC 3 [0,2,3,4,5] ?_
    refine kE ?_
    obtain rfl := oi h15
    exact kLN [0, 2, 3, 4, 5]
  ·refine kF ?_
   refine K.exit 0 (by kernel_rfl) ?_
   refine PJ.passExit ?_
   obtain rfl := oi h4
   refine PJ.loopOut (fun e => nomatch e) (fun he3 => ?_)
   have h16 := congrArg some he3
   refine PJ.blockOut ?_
   obtain rfl := oi h16
   exact kXl [2, 3]
 ·subst hs
  have h17 := joinX_inl h0
  refine kSR ?_
  refine kC 2 [2,3] ?_
  refine kEN ?_
  refine kX ?_
  obtain rfl := oi h17
  exact kZ hFn hFH hFD
def exergueref02_Of (x0 : Int) : Option (Int) :=
 (Option.bind (exergueref01_Is x0) fun y3 => (Option.bind (exergueref02_turning (IntKind.wrap .i64 x0)) fun y2 => (Option.bind (exergueref02_blank (IntKind.wrap .i64 x0)) fun y0 => (Option.bind (exergueref02_Value x0) fun y1 => (bif (!y3) then (some 6) else (Option.bind (Option.bind (bif (decide ((IntKind.wrap .i64 x0) < 32)) then (some true) else (bif (decide ((IntKind.wrap .i64 x0) ≥ 127)) then (some ((decide ((IntKind.wrap .i64 x0) ≤ 159)))) else (some false))) fun (s0 : Bool) => (bif s0 then (some (.inr 1)) else (some (.inl ())))) (joinX fun (s2 : Unit) => (bif y2 then (some 2) else (Option.bind (Option.bind (bif (decide ((IntKind.wrap .i64 x0) ≥ 64976)) then (bif (decide ((IntKind.wrap .i64 x0) ≤ 65007)) then (some true) else (some ((decide ((Int.tmod (IntKind.wrap .i64 x0) 65536) ≥ 65534))))) else (some ((decide ((Int.tmod (IntKind.wrap .i64 x0) 65536) ≥ 65534))))) fun (s1 : Bool) => (bif s1 then (some (.inr 3)) else (some (.inl ())))) (joinX fun (s3 : Unit) => (bif y0 then (some 4) else (bif y1.2 then (some 5) else (some 0)))))))))))))
theorem exergueref02_Of_ok {x0 : Int} {r : Int} (h : exergueref02_Of x0 = some r) : SC Tryz.prog 24 [.int .i32 x0] [] (.int .i64 r) [] := by
 refine kFn (fn := Tryz.f24) (fun F hFn hFH hFD => ?_)
 unfold exergueref02_Of at h
 refine kSR ?_
 refine kC 1 [0,2] ?_
 refine kEN ?_
 refine kSR ?_
 refine kC 3 [0,2,3] ?_
 refine kEN ?_
 refine kSR ?_
 refine kC 1 [0,2,3,11] ?_
 obtain ⟨y3, hy0, h2⟩ := bindS h
 refine kA 12 (exergueref01_Is_ok hy0) ?_
 refine kC 1 [0,2,3,4] ?_
 refine kEN ?_
 refine kSR ?_
 refine kC 1 [0,2,3,4,13] ?_
 obtain ⟨y2, hy1, h3⟩ := bindS h2
 refine kA 14 (exergueref02_turning_ok hy1) ?_
 refine kC 1 [0,2,3,4,5] ?_
 refine kEN ?_
 refine kSR ?_
 refine kC 1 [0,2,3,4,5,15] ?_
 obtain ⟨y0, hy2, h4⟩ := bindS h3
 refine kA 16 (exergueref02_blank_ok hy2) ?_
 refine kC 1 [0,2,3,4,5,6] ?_
 refine kEN ?_
 refine kSR ?_
 refine RJ.seg 1 [2, 3, 4, 5, 6, 18] (L2 := [(2, .int .i64 0), (3, .int .i64 (IntKind.wrap .i64 x0)), (4, .bool y3), (5, .bool y2), (6, .bool y0), (18, .int .i32 x0)]) (H2 := []) (by kernel_rfl) ?_
 obtain ⟨y1, hy3, h5⟩ := bindS h4
 refine kA 19 (exergueref02_Value_ok hy3) ?_
 refine kC 5 [2,3,4,5,6,8] ?_
 refine kEN ?_
 refine kS ?_
 refine kSR ?_
 refine kC 2 [2,3,5,6,8,23] ?_
 refine kEN ?_
 refine kBJ 23 h5 (fun h6 => ?_) (fun h7 => ?_)
 ·refine kT ?_
  refine kSR ?_
  refine kC 1 [2,3,5,6,8] ?_
  refine kEN ?_
  refine kX ?_
  refine PJ.passRet ?_
  obtain rfl := oi h6
  exact kZ hFn hFH hFD
 ·refine kF ?_
  refine kK ?_
  refine PJ.next ?_
  obtain ⟨y4, hy4, h0⟩ := bindS h7
  refine K.cutX (by kernel_rfl) (fun (s2 : Unit) => ([(2, .int .i64 0), (3, .int .i64 (IntKind.wrap .i64 x0)), (5, .bool y2), (6, .bool y0), (8, .bool y1.2)], [])) y4 ?_ (fun s2 hs => ?_)
  ·obtain ⟨s0, hy5, h8⟩ := bindS hy4
   refine K.cutN (by kernel_rfl) (fun (s0 : Bool) => ([(2, .int .i64 0), (3, .int .i64 (IntKind.wrap .i64 x0)), (5, .bool y2), (6, .bool y0), (8, .bool y1.2), (33, .bool s0)], [])) s0 ?_ ?_
   ·refine kR ?_
    refine kC 3 [2,3,5,6,8,26] ?_
    refine kB 26 hy5 (fun h9 => ?_) (fun h10 => ?_)
    ·refine kC 7 [2,3,5,6,8,33] ?_
     refine kE ?_
     obtain rfl := oi h9
     exact kN [2, 3, 5, 6, 8, 33]
    ·refine kC 3 [2,3,5,6,8,26,29] ?_
     refine kB 29 h10 (fun h11 => ?_) (fun h12 => ?_)
     ·refine kC 4 [2,3,5,6,8,33] ?_
      refine kE ?_
      obtain rfl := oi h11
      exact kN [2, 3, 5, 6, 8, 33]
     ·refine kC 4 [2,3,5,6,8,33] ?_
      refine kE ?_
      obtain rfl := oi h12
      exact kN [2, 3, 5, 6, 8, 33]
   ·refine kBJ 33 h8 (fun h13 => ?_) (fun h14 => ?_)
    ·refine kT ?_
     refine kSR ?_
     refine kC 1 [2,3,5,6,8] ?_
     refine kEN ?_
     refine kX ?_
     obtain rfl := oi h13
     have h15 := joinX_inr h0
     refine PJ.cutXr (fun e => nomatch e) ?_
     obtain rfl := oi h15
     exact kZ hFn hFH hFD
    ·refine kF ?_
     refine kK ?_
     obtain rfl := oi h14
     exact kXl [2, 3, 5, 6, 8]
  ·subst hs
   have h16 := joinX_inl h0
   refine kS ?_
   refine kSR ?_
   refine kC 1 [2,3,6,8,34] ?_
   refine kEN ?_
   refine kBJ 34 h16 (fun h17 => ?_) (fun h18 => ?_)
   ·refine kT ?_
    refine kSR ?_
    refine kC 1 [2,3,6,8] ?_
    refine kEN ?_
    refine kX ?_
    refine PJ.passRet ?_
    obtain rfl := oi h17
    exact kZ hFn hFH hFD
   ·refine kF ?_
    refine kK ?_
    refine PJ.next ?_
    obtain ⟨y5, hy6, h1⟩ := bindS h18
    refine K.cutX (by kernel_rfl) (fun (s3 : Unit) => ([(2, .int .i64 0), (6, .bool y0), (8, .bool y1.2)], [])) y5 ?_ (fun s3 hs => ?_)
    ·obtain ⟨s1, hy7, h19⟩ := bindS hy6
     refine K.cutN (by kernel_rfl) (fun (s1 : Bool) => ([(2, .int .i64 0), (6, .bool y0), (8, .bool y1.2), (45, .bool s1)], [])) s1 ?_ ?_
     ·refine kR ?_
      refine kC 3 [2,3,6,8,37] ?_
      refine kB 37 hy7 (fun h20 => ?_) (fun h21 => ?_)
      ·refine kC 4 [2,3,6,8,41] ?_
       refine kB 41 h20 (fun h22 => ?_) (fun h23 => ?_)
       ·refine kC 4 [2,6,8,45] ?_
        refine kE ?_
        obtain rfl := oi h22
        exact kN [2, 6, 8, 45]
       ·refine kC 4 [2,6,8,45] ?_
        refine kE ?_
        obtain rfl := oi h23
        exact kN [2, 6, 8, 45]
      ·refine kC 8 [2,6,8,45] ?_
       refine kE ?_
       obtain rfl := oi h21
       exact kN [2, 6, 8, 45]
     ·refine kBJ 45 h19 (fun h24 => ?_) (fun h25 => ?_)
      ·refine kT ?_
       refine kSR ?_
       refine kC 1 [2,6,8] ?_
       refine kEN ?_
       refine kX ?_
       obtain rfl := oi h24
       have h26 := joinX_inr h1
       refine PJ.cutXr (fun e => nomatch e) ?_
       obtain rfl := oi h26
       exact kZ hFn hFH hFD
      ·refine kF ?_
       refine kK ?_
       obtain rfl := oi h25
       exact kXl [2, 6, 8]
    ·subst hs
     have h27 := joinX_inl h1
     refine kS ?_
     refine kSR ?_
     refine kC 1 [2,8,46] ?_
     refine kEN ?_
     refine kBJ 46 h27 (fun h28 => ?_) (fun h29 => ?_)
     ·refine kT ?_
      refine kSR ?_
      refine kC 1 [2,8] ?_
      refine kEN ?_
      refine kX ?_
      refine PJ.passRet ?_
      obtain rfl := oi h28
      exact kZ hFn hFH hFD
     ·refine kF ?_
      refine kK ?_
      refine PJ.next ?_
      refine kS ?_
      refine kSR ?_
      refine kC 1 [2,47] ?_
      refine kEN ?_
      refine kBJ 47 h29 (fun h30 => ?_) (fun h31 => ?_)
      ·refine kT ?_
       refine kSR ?_
       refine kC 1 [2] ?_
       refine kEN ?_
       refine kX ?_
       refine PJ.passRet ?_
       obtain rfl := oi h30
       exact kZ hFn hFH hFD
      ·refine kF ?_
       refine kK ?_
       refine PJ.next ?_
       refine kSR ?_
       refine kC 1 [2] ?_
       refine kEN ?_
       refine kX ?_
       obtain rfl := oi h31
       exact kZ hFn hFH hFD
def exergueref02_Zero (x0 : Int) : Option (Bool) :=
 (Option.bind exergueref02_noughts fun y0 => (Option.bind (loopN (fun (s0 : Int) => (bif (decide (s0 < (y0.length : Int))) then (bif inR s0 y0.length then (bif (decide ((nth y0 s0) = x0)) then (some (.inr (.inr true))) else (some (.inl (IntKind.wrap .i64 (s0 + 1))))) else none) else (some (.inr (.inl ()))))) big 0) (joinX fun (s1 : Unit) => (some false))))
theorem exergueref02_Zero_ok {x0 : Int} {r : Bool} (h : exergueref02_Zero x0 = some r) : SC Tryz.prog 25 [.int .i32 x0] [] (.bool r) [] := by
 refine kFn (fn := Tryz.f25) (fun F hFn hFH hFD => ?_)
 unfold exergueref02_Zero at h
 refine kSR ?_
 refine kC 1 [0,2] ?_
 refine kEN ?_
 refine kSR ?_
 obtain ⟨y0, hy0, h1⟩ := bindS h
 refine kA 5 (exergueref02_noughts_ok hy0) ?_
 refine kC 1 [0,2,3] ?_
 refine kEN ?_
 obtain ⟨y1, hy1, h0⟩ := bindS h1
 refine K.cutX (by kernel_rfl) (fun (s1 : Unit) => ([(2, .bool false)], [])) y1 ?_ (fun s1 hs => ?_)
 ·refine kSR ?_
  refine kC 1 [0,2,3,4] ?_
  refine kEN ?_
  refine kb 0 ?_
  refine kl (fun (s0 : Int) => ([(0, .int .i32 x0), (2, .bool false), (3, lsv (encI .i32) 1 y0), (4, .int .i64 s0)], [])) hy1 [0, 2, 3, 4] (fun s0 x74 hs0 => ?_)
  refine kS ?_
  refine kSR ?_
  refine kC 4 [0,2,3,4,9] ?_
  refine kEN ?_
  refine kBJ 9 hs0 (fun h2 => ?_) (fun h3 => ?_)
  ·refine kT ?_
   refine kK ?_
   refine PJ.next ?_
   refine kS ?_
   refine kb 1 ?_
   refine kSR ?_
   refine kC 2 [0,2,3,4,12,13] ?_
   obtain ⟨hm, h4⟩ := asrt h2
   refine kI 14 (encI_len .i32) hm ?_
   refine kC 3 [0,2,3,4,17] ?_
   refine kEN ?_
   refine kBJ 17 h4 (fun h5 => ?_) (fun h6 => ?_)
   ·refine kT ?_
    refine kSR ?_
    refine kC 1 [0,2,3,4] ?_
    refine kEN ?_
    refine kX ?_
    refine PJ.blockRet ?_
    refine PJ.passRet ?_
    obtain rfl := oi h5
    refine PJ.loopOut (fun e => nomatch e) (fun he0 => ?_)
    have h7 := congrArg some he0
    refine PJ.blockRet ?_
    obtain rfl := oi h7
    have h8 := joinX_inr h0
    refine PJ.cutXr (fun e => nomatch e) ?_
    obtain rfl := oi h8
    exact kZ hFn hFH hFD
   ·refine kF ?_
    refine kK ?_
    refine PJ.blockNormal ?_
    refine PJ.next ?_
    refine kR ?_
    refine kC 3 [0,2,3,4] ?_
    refine kE ?_
    obtain rfl := oi h6
    exact kLN [0, 2, 3, 4]
  ·refine kF ?_
   refine K.exit 0 (by kernel_rfl) ?_
   refine PJ.passExit ?_
   obtain rfl := oi h3
   refine PJ.loopOut (fun e => nomatch e) (fun he1 => ?_)
   have h9 := congrArg some he1
   refine PJ.blockOut ?_
   obtain rfl := oi h9
   exact kXl [2]
 ·subst hs
  have h10 := joinX_inl h0
  refine kSR ?_
  refine kC 1 [2] ?_
  refine kEN ?_
  refine kX ?_
  obtain rfl := oi h10
  exact kZ hFn hFH hFD
def exergueref13_Good (x0 : St22) : Option (Bool) :=
 (Option.bind (loopN (fun (s0 : Int) => (bif (decide (s0 < (([x0.Dec_, x0.Group_, x0.Minus_, x0.Plus_, x0.Percent_, x0.Exp_] : List Int).length : Int))) then (Option.bind (bif inR s0 ([x0.Dec_, x0.Group_, x0.Minus_, x0.Plus_, x0.Percent_, x0.Exp_] : List Int).length then (bif inR s0 ([x0.Dec_, x0.Group_, x0.Minus_, x0.Plus_, x0.Percent_, x0.Exp_] : List Int).length then (Option.bind (exergueref02_Of (nth ([x0.Dec_, x0.Group_, x0.Minus_, x0.Plus_, x0.Percent_, x0.Exp_] : List Int) s0)) fun y0 => (Option.bind (Option.bind (bif (decide (¬ y0 = 0)) then (some (decide (¬ y0 = 4))) else (some false)) fun (s2 : Bool) => (bif s2 then (some (.inr (.inr (.inr (.inr false))))) else (some (.inl ())))) (joinX fun (s3 : Unit) => (loopN (fun (s1 : Int) => (bif (decide (s1 < s0)) then (bif inR s1 ([x0.Dec_, x0.Group_, x0.Minus_, x0.Plus_, x0.Percent_, x0.Exp_] : List Int).length then (bif inR s1 ([x0.Dec_, x0.Group_, x0.Minus_, x0.Plus_, x0.Percent_, x0.Exp_] : List Int).length then (bif inR s0 ([x0.Dec_, x0.Group_, x0.Minus_, x0.Plus_, x0.Percent_, x0.Exp_] : List Int).length then (bif inR s0 ([x0.Dec_, x0.Group_, x0.Minus_, x0.Plus_, x0.Percent_, x0.Exp_] : List Int).length then (bif (decide ((nth ([x0.Dec_, x0.Group_, x0.Minus_, x0.Plus_, x0.Percent_, x0.Exp_] : List Int) s1) = (nth ([x0.Dec_, x0.Group_, x0.Minus_, x0.Plus_, x0.Percent_, x0.Exp_] : List Int) s0))) then (some (.inr (.inr (.inr (.inr false))))) else (some (.inl (IntKind.wrap .i64 (s1 + 1))))) else none) else none) else none) else none) else (some (.inr (.inl ()))))) big 0)))) else none) else none) (joinX fun (s4 : Unit) => (some (.inl (IntKind.wrap .i64 (s0 + 1)))))) else (some (.inr (.inl ()))))) big 0) (joinX fun (s5 : Unit) => (Option.bind (exergueref02_Zero x0.Zero_) fun y1 => (some y1))))
theorem exergueref13_Good_ok {x0 : St22} {r : Bool} (h : exergueref13_Good x0 = some r) : SC Tryz.prog 7 [.agg (encSt22 x0)] [] (.bool r) [] := by
 refine kFn (fn := Tryz.f7) (fun F hFn hFH hFD => ?_)
 unfold exergueref13_Good at h
 refine kSR ?_
 refine kC 2 [1,2] ?_
 refine kEN ?_
 refine kSR ?_
 refine kC 14 [1,2,3] ?_
 refine kEN ?_
 obtain ⟨y2, hy0, h0⟩ := bindS h
 refine K.cutX (by kernel_rfl) (fun (s5 : Unit) => ([(1, .ptr 0 0), (2, .bool false)], [.box (encSt22 x0)])) y2 ?_ (fun s5 hs => ?_)
 ·refine kSR ?_
  refine kC 1 [1,2,3,4] ?_
  refine kEN ?_
  refine kb 0 ?_
  refine kl (fun (s0 : Int) => ([(1, .ptr 0 0), (2, .bool false), (3, .vc 1), (4, .int .i64 s0)], [.box (encSt22 x0), vecL (encI .i32) 1 21 ([x0.Dec_, x0.Group_, x0.Minus_, x0.Plus_, x0.Percent_, x0.Exp_] : List Int)])) hy0 [1, 2, 3, 4] (fun s0 x1111 hs0 => ?_)
  refine kS ?_
  refine kSR ?_
  refine kC 4 [1,2,3,4,23] ?_
  refine kEN ?_
  refine kBJ 23 hs0 (fun h3 => ?_) (fun h4 => ?_)
  ·refine kT ?_
   refine kK ?_
   refine PJ.next ?_
   obtain ⟨y3, hy1, h1⟩ := bindS h3
   refine K.cutX (by kernel_rfl) (fun (s4 : Unit) => ([(1, .ptr 0 0), (2, .bool false), (3, .vc 1), (4, .int .i64 s0)], [.box (encSt22 x0), vecL (encI .i32) 1 21 ([x0.Dec_, x0.Group_, x0.Minus_, x0.Plus_, x0.Percent_, x0.Exp_] : List Int)])) y3 ?_ (fun s4 hs => ?_)
   ·refine kb 1 ?_
    refine kSR ?_
    refine kC 2 [1,2,3,4,26,27] ?_
    obtain ⟨hm, h5⟩ := asrt hy1
    refine kQ 28 (.ptr 1 ((s0 : Int).toNat * 1)) [1] (tr2 := []) hm ?_
    obtain ⟨hm, h6⟩ := asrt h5
    refine RJ.rel (d := (some 29)) (ef := ⟨(((([x0.Dec_, x0.Group_, x0.Minus_, x0.Plus_, x0.Percent_, x0.Exp_] : List Int)).flatMap (encI .i32)).drop ((s0 : Int).toNat * 1)).headD .undef, [1], []⟩) (ef' := ⟨.int .i32 (nth ([x0.Dec_, x0.Group_, x0.Minus_, x0.Plus_, x0.Percent_, x0.Exp_] : List Int) s0), [1], []⟩) (c := Nat.blt ((s0 : Int).toNat * 1) (([x0.Dec_, x0.Group_, x0.Minus_, x0.Plus_, x0.Percent_, x0.Exp_] : List Int).flatMap (encI .i32)).length) (tr2 := []) (H2 := [.box (encSt22 x0), vecL (encI .i32) 1 21 ([x0.Dec_, x0.Group_, x0.Minus_, x0.Plus_, x0.Percent_, x0.Exp_] : List Int)]) (by kernel_rfl) (loadv_ok (encI_len .i32) rfl hm) (fun hc => N.load1 (encI_len .i32) (fun _ => rfl) hm) (by kernel_rfl) ?_
    obtain ⟨y0, hy2, h7⟩ := bindS h6
    refine kA 30 (exergueref02_Of_ok hy2) ?_
    refine kC 1 [1,2,3,4,5] ?_
    refine kEN ?_
    obtain ⟨y4, hy3, h2⟩ := bindS h7
    refine K.cutX (by kernel_rfl) (fun (s3 : Unit) => ([(1, .ptr 0 0), (2, .bool false), (3, .vc 1), (4, .int .i64 s0)], [.box (encSt22 x0), vecL (encI .i32) 1 21 ([x0.Dec_, x0.Group_, x0.Minus_, x0.Plus_, x0.Percent_, x0.Exp_] : List Int)])) y4 ?_ (fun s3 hs => ?_)
    ·obtain ⟨s2, hy4, h8⟩ := bindS hy3
     refine K.cutN (by kernel_rfl) (fun (s2 : Bool) => ([(1, .ptr 0 0), (2, .bool false), (3, .vc 1), (4, .int .i64 s0), (36, .bool s2)], [.box (encSt22 x0), vecL (encI .i32) 1 21 ([x0.Dec_, x0.Group_, x0.Minus_, x0.Plus_, x0.Percent_, x0.Exp_] : List Int)])) s2 ?_ ?_
     ·refine kR ?_
      refine kC 3 [1,2,3,4,5,33] ?_
      refine kB 33 hy4 (fun h9 => ?_) (fun h10 => ?_)
      ·refine kC 3 [1,2,3,4,36] ?_
       refine kE ?_
       obtain rfl := oi h9
       exact kN [1, 2, 3, 4, 36]
      ·refine kC 3 [1,2,3,4,36] ?_
       refine kE ?_
       obtain rfl := oi h10
       exact kN [1, 2, 3, 4, 36]
     ·refine kBJ 36 h8 (fun h11 => ?_) (fun h12 => ?_)
      ·refine kT ?_
       refine kSR ?_
       refine kC 1 [1,2,3,4] ?_
       refine kEN ?_
       refine kX ?_
       obtain rfl := oi h11
       have h13 := joinX_inr h2
       refine PJ.cutXr (fun e => nomatch e) ?_
       refine PJ.blockRet ?_
       obtain rfl := oi h13
       have h14 := joinX_inr h1
       refine PJ.cutXr (fun e => nomatch e) ?_
       obtain rfl := oi h14
       refine PJ.loopOut (fun e => nomatch e) (fun he0 => ?_)
       have h15 := congrArg some he0
       refine PJ.blockRet ?_
       obtain rfl := oi h15
       have h16 := joinX_inr h0
       refine PJ.cutXr (fun e => nomatch e) ?_
       obtain rfl := oi h16
       exact kZ hFn hFH hFD
      ·refine kF ?_
       refine kK ?_
       obtain rfl := oi h12
       exact kXl [1, 2, 3, 4]
    ·subst hs
     have h17 := joinX_inl h2
     refine kSR ?_
     refine kC 1 [1,2,3,4,6] ?_
     refine kEN ?_
     refine kb 2 ?_
     refine kl (fun (s1 : Int) => ([(1, .ptr 0 0), (2, .bool false), (3, .vc 1), (4, .int .i64 s0), (6, .int .i64 s1)], [.box (encSt22 x0), vecL (encI .i32) 1 21 ([x0.Dec_, x0.Group_, x0.Minus_, x0.Plus_, x0.Percent_, x0.Exp_] : List Int)])) h17 [1, 2, 3, 4, 6] (fun s1 x1311 hs1 => ?_)
     refine kS ?_
     refine kSR ?_
     refine kC 3 [1,2,3,4,6,39] ?_
     refine kEN ?_
     refine kBJ 39 hs1 (fun h18 => ?_) (fun h19 => ?_)
     ·refine kT ?_
      refine kK ?_
      refine PJ.next ?_
      refine kS ?_
      refine kb 3 ?_
      refine kS ?_
      refine J.keep [1, 2, 3, 4, 6] (L2 := [(1, .ptr 0 0), (2, .bool false), (3, .vc 1), (4, .int .i64 s0), (6, .int .i64 s1)]) (by kernel_rfl) ?_
      refine K.draw (by kernel_rfl) (by kernel_rfl) (by kernel_rfl) (H2 := [.box (encSt22 x0), vecL (encI .i32) 1 21 ([x0.Dec_, x0.Group_, x0.Minus_, x0.Plus_, x0.Percent_, x0.Exp_] : List Int)]) (by kernel_rfl) (n := 2) (by kernel_rfl) ?_
      refine kD 2 ?_
      obtain ⟨hm, h20⟩ := asrt h18
      refine kQ 44 (.ptr 1 ((s1 : Int).toNat * 1)) [1] (tr2 := [([], []), ([], []), ([3], [])]) hm ?_
      obtain ⟨hm, h21⟩ := asrt h20
      refine RJ.rel (d := (some 45)) (ef := ⟨(((([x0.Dec_, x0.Group_, x0.Minus_, x0.Plus_, x0.Percent_, x0.Exp_] : List Int)).flatMap (encI .i32)).drop ((s1 : Int).toNat * 1)).headD .undef, [1], []⟩) (ef' := ⟨.int .i32 (nth ([x0.Dec_, x0.Group_, x0.Minus_, x0.Plus_, x0.Percent_, x0.Exp_] : List Int) s1), [1], []⟩) (c := Nat.blt ((s1 : Int).toNat * 1) (([x0.Dec_, x0.Group_, x0.Minus_, x0.Plus_, x0.Percent_, x0.Exp_] : List Int).flatMap (encI .i32)).length) (tr2 := [([], []), ([], []), ([3], []), ([2, 3], [])]) (H2 := [.box (encSt22 x0), vecL (encI .i32) 1 21 ([x0.Dec_, x0.Group_, x0.Minus_, x0.Plus_, x0.Percent_, x0.Exp_] : List Int)]) (by kernel_rfl) (loadv_ok (encI_len .i32) rfl hm) (fun hc => N.load1 (encI_len .i32) (fun _ => rfl) hm) (by kernel_rfl) ?_
      refine kD 2 ?_
      obtain ⟨hm, h22⟩ := asrt h21
      refine kQ 48 (.ptr 1 ((s0 : Int).toNat * 1)) [1] (tr2 := [([], []), ([], []), ([3], []), ([2, 3], []), ([], []), ([], []), ([3], [])]) hm ?_
      obtain ⟨hm, h23⟩ := asrt h22
      refine RJ.rel (d := (some 49)) (ef := ⟨(((([x0.Dec_, x0.Group_, x0.Minus_, x0.Plus_, x0.Percent_, x0.Exp_] : List Int)).flatMap (encI .i32)).drop ((s0 : Int).toNat * 1)).headD .undef, [1], []⟩) (ef' := ⟨.int .i32 (nth ([x0.Dec_, x0.Group_, x0.Minus_, x0.Plus_, x0.Percent_, x0.Exp_] : List Int) s0), [1], []⟩) (c := Nat.blt ((s0 : Int).toNat * 1) (([x0.Dec_, x0.Group_, x0.Minus_, x0.Plus_, x0.Percent_, x0.Exp_] : List Int).flatMap (encI .i32)).length) (tr2 := [([], []), ([], []), ([3], []), ([2, 3], []), ([], []), ([], []), ([3], []), ([2, 3], [])]) (H2 := [.box (encSt22 x0), vecL (encI .i32) 1 21 ([x0.Dec_, x0.Group_, x0.Minus_, x0.Plus_, x0.Percent_, x0.Exp_] : List Int)]) (by kernel_rfl) (loadv_ok (encI_len .i32) rfl hm) (fun hc => N.load1 (encI_len .i32) (fun _ => rfl) hm) (by kernel_rfl) ?_
      refine kD 1 ?_
      refine kEN ?_
      refine kBJ 50 h23 (fun h24 => ?_) (fun h25 => ?_)
      ·refine kT ?_
       refine kSR ?_
       refine kC 1 [1,2,3,4,6] ?_
       refine kEN ?_
       refine kX ?_
       refine PJ.blockRet ?_
       refine PJ.passRet ?_
       obtain rfl := oi h24
       refine PJ.loopOut (fun e => nomatch e) (fun he1 => ?_)
       have h26 := congrArg some he1
       refine PJ.blockRet ?_
       refine PJ.blockRet ?_
       obtain rfl := oi h26
       have h27 := joinX_inr h1
       refine PJ.cutXr (fun e => nomatch e) ?_
       obtain rfl := oi h27
       refine PJ.loopOut (fun e => nomatch e) (fun he2 => ?_)
       have h28 := congrArg some he2
       refine PJ.blockRet ?_
       obtain rfl := oi h28
       have h29 := joinX_inr h0
       refine PJ.cutXr (fun e => nomatch e) ?_
       obtain rfl := oi h29
       exact kZ hFn hFH hFD
      ·refine kF ?_
       refine kK ?_
       refine PJ.blockNormal ?_
       refine PJ.next ?_
       refine kR ?_
       refine kC 3 [1,2,3,4,6] ?_
       refine kE ?_
       obtain rfl := oi h25
       exact kLN [1, 2, 3, 4, 6]
     ·refine kF ?_
      refine K.exit 2 (by kernel_rfl) ?_
      refine PJ.passExit ?_
      obtain rfl := oi h19
      refine PJ.loopOut (fun e => nomatch e) (fun he3 => ?_)
      have h30 := congrArg some he3
      refine PJ.blockOut ?_
      refine PJ.blockNormal ?_
      obtain rfl := oi h30
      exact kXl [1, 2, 3, 4]
   ·subst hs
    have h31 := joinX_inl h1
    refine kR ?_
    refine kC 3 [1,2,3,4] ?_
    refine kE ?_
    obtain rfl := oi h31
    exact kLN [1, 2, 3, 4]
  ·refine kF ?_
   refine K.exit 0 (by kernel_rfl) ?_
   refine PJ.passExit ?_
   obtain rfl := oi h4
   refine PJ.loopOut (fun e => nomatch e) (fun he4 => ?_)
   have h32 := congrArg some he4
   refine PJ.blockOut ?_
   obtain rfl := oi h32
   refine kW (L2 := [(1, .ptr 0 0), (2, .bool false)]) (H2 := [.box (encSt22 x0)]) hFH hFD [0] ?_
   exact kXl [1, 2]
 ·subst hs
  have h33 := joinX_inl h0
  refine kSR ?_
  refine kC 2 [2,52] ?_
  obtain ⟨y1, hy5, h34⟩ := bindS h33
  refine kA 53 (exergueref02_Zero_ok hy5) ?_
  refine kC 1 [2] ?_
  refine kEN ?_
  refine kX ?_
  obtain rfl := oi h34
  exact kZ hFn hFH hFD
def exergueref05_Right (x0 : St28) : Option (Bool) :=
 (Option.bind (loopN (fun (s0 : Int) => (bif (decide (s0 < (x0.D_.length : Int))) then (bif inR s0 x0.D_.length then (bif (decide ((nth x0.D_ s0) > 9)) then (some (.inr (.inr false))) else (some (.inl (IntKind.wrap .i64 (s0 + 1))))) else none) else (some (.inr (.inl ()))))) big 0) (joinX fun (s2 : Unit) => (bif (decide ((x0.D_.length : Int) = 0)) then (some (decide (x0.E_ = 0))) else (Option.bind (bif (decide ((x0.D_.length : Int) ≤ 1000)) then (bif inR 0 x0.D_.length then (bif (decide ((nth x0.D_ 0) > 0)) then (bif inR ((IntKind.wrap .i64 ((x0.D_.length : Int) - 1))) x0.D_.length then (bif (decide (((nth x0.D_ ((IntKind.wrap .i64 ((x0.D_.length : Int) - 1))))) > 0)) then (bif (decide (x0.E_ ≥ (-1000))) then (some (decide (x0.E_ ≤ 1000))) else (some false)) else (some false)) else none) else (some false)) else none) else (some false)) fun (s1 : Bool) => (some s1)))))
theorem exergueref05_Right_ok {x0 : St28} {r : Bool} (h : exergueref05_Right x0 = some r) : SC Tryz.prog 26 [.agg (encSt28 x0)] [] (.bool r) [] := by
 refine kFn (fn := Tryz.f26) (fun F hFn hFH hFD => ?_)
 unfold exergueref05_Right at h
 refine kSR ?_
 refine kC 2 [1,2] ?_
 refine kEN ?_
 refine kSR ?_
 refine kC 4 [1,2,3] ?_
 refine kEN ?_
 obtain ⟨y0, hy0, h0⟩ := bindS h
 refine K.cutX (by kernel_rfl) (fun (s2 : Unit) => ([(1, .ptr 0 0), (2, .bool false), (3, .int .i64 (x0.D_.length : Int))], [.box (encSt28 x0)])) y0 ?_ (fun s2 hs => ?_)
 ·refine kSR ?_
  refine kC 1 [1,2,3,4] ?_
  refine kEN ?_
  refine kb 0 ?_
  refine kl (fun (s0 : Int) => ([(1, .ptr 0 0), (2, .bool false), (3, .int .i64 (x0.D_.length : Int)), (4, .int .i64 s0)], [.box (encSt28 x0)])) hy0 [1, 2, 3, 4] (fun s0 x71 hs0 => ?_)
  refine kS ?_
  refine kSR ?_
  refine kC 3 [1,2,3,4,10] ?_
  refine kEN ?_
  refine kBJ 10 hs0 (fun h1 => ?_) (fun h2 => ?_)
  ·refine kT ?_
   refine kK ?_
   refine PJ.next ?_
   refine kS ?_
   refine kb 1 ?_
   refine kSR ?_
   refine kC 3 [1,2,3,4,14,15] ?_
   obtain ⟨hm, h3⟩ := asrt h1
   refine kI 16 (encI_len .u8) hm ?_
   refine kC 2 [1,2,3,4,18] ?_
   refine kEN ?_
   refine kBJ 18 h3 (fun h4 => ?_) (fun h5 => ?_)
   ·refine kT ?_
    refine kSR ?_
    refine kC 1 [1,2,3,4] ?_
    refine kEN ?_
    refine kX ?_
    refine PJ.blockRet ?_
    refine PJ.passRet ?_
    obtain rfl := oi h4
    refine PJ.loopOut (fun e => nomatch e) (fun he0 => ?_)
    have h6 := congrArg some he0
    refine PJ.blockRet ?_
    obtain rfl := oi h6
    have h7 := joinX_inr h0
    refine PJ.cutXr (fun e => nomatch e) ?_
    obtain rfl := oi h7
    exact kZ hFn hFH hFD
   ·refine kF ?_
    refine kK ?_
    refine PJ.blockNormal ?_
    refine PJ.next ?_
    refine kR ?_
    refine kC 3 [1,2,3,4] ?_
    refine kE ?_
    obtain rfl := oi h5
    exact kLN [1, 2, 3, 4]
  ·refine kF ?_
   refine K.exit 0 (by kernel_rfl) ?_
   refine PJ.passExit ?_
   obtain rfl := oi h2
   refine PJ.loopOut (fun e => nomatch e) (fun he1 => ?_)
   have h8 := congrArg some he1
   refine PJ.blockOut ?_
   obtain rfl := oi h8
   exact kXl [1, 2, 3]
 ·subst hs
  have h9 := joinX_inl h0
  refine kS ?_
  refine kSR ?_
  refine kC 2 [1,2,3,20] ?_
  refine kEN ?_
  refine kBJ 20 h9 (fun h10 => ?_) (fun h11 => ?_)
  ·refine kT ?_
   refine kSR ?_
   refine kC 4 [1,2,3] ?_
   refine kEN ?_
   refine kX ?_
   refine PJ.passRet ?_
   obtain rfl := oi h10
   exact kZ hFn hFH hFD
  ·refine kF ?_
   refine kK ?_
   refine PJ.next ?_
   obtain ⟨s1, hy1, h12⟩ := bindS h11
   refine K.cutN (by kernel_rfl) (fun (s1 : Bool) => ([(2, .bool s1)], [])) s1 ?_ ?_
   ·refine kR ?_
    refine kC 3 [1,2,3,26] ?_
    refine kB 26 hy1 (fun h13 => ?_) (fun h14 => ?_)
    ·refine kC 2 [1,2,3,26,28] ?_
     obtain ⟨hm, h15⟩ := asrt h13
     refine kI 29 (encI_len .u8) hm ?_
     refine kC 4 [1,2,3,33] ?_
     refine kB 33 h15 (fun h16 => ?_) (fun h17 => ?_)
     ·refine kC 4 [1,2,33,35,37] ?_
      obtain ⟨hm, h18⟩ := asrt h16
      refine kI 38 (encI_len .u8) hm ?_
      refine kC 4 [1,2,42] ?_
      refine kB 42 h18 (fun h19 => ?_) (fun h20 => ?_)
      ·refine kC 5 [1,2,47] ?_
       refine kB 47 h19 (fun h21 => ?_) (fun h22 => ?_)
       ·refine kC 5 [2] ?_
        refine kE ?_
        obtain rfl := oi h21
        refine kW (L2 := [(2, .bool (decide (x0.E_ ≤ 1000)))]) (H2 := []) hFH hFD [] ?_
        exact kN [2]
       ·refine kC 5 [2] ?_
        refine kE ?_
        obtain rfl := oi h22
        refine kW (L2 := [(2, .bool false)]) (H2 := []) hFH hFD [] ?_
        exact kN [2]
      ·refine kC 10 [2] ?_
       refine kE ?_
       obtain rfl := oi h20
       refine kW (L2 := [(2, .bool false)]) (H2 := []) hFH hFD [] ?_
       exact kN [2]
     ·refine kC 19 [2] ?_
      refine kE ?_
      obtain rfl := oi h17
      refine kW (L2 := [(2, .bool false)]) (H2 := []) hFH hFD [] ?_
      exact kN [2]
    ·refine kC 26 [2] ?_
     refine kE ?_
     obtain rfl := oi h14
     refine kW (L2 := [(2, .bool false)]) (H2 := []) hFH hFD [] ?_
     exact kN [2]
   ·refine kX ?_
    obtain rfl := oi h12
    exact kZ hFn hFH hFD
def exergueref06_Near (x0 : St28) : Option (Bool) :=
 (Option.bind (exergueref05_Right x0) fun y0 => (Option.bind (bif y0 then (bif (decide ((x0.D_.length : Int) ≤ 40)) then (bif (decide (x0.E_ ≥ (-60))) then (some (decide (x0.E_ ≤ 60))) else (some false)) else (some false)) else (some false)) fun (s0 : Bool) => (some s0)))
theorem exergueref06_Near_ok {x0 : St28} {r : Bool} (h : exergueref06_Near x0 = some r) : SC Tryz.prog 8 [.agg (encSt28 x0)] [] (.bool r) [] := by
 refine kFn (fn := Tryz.f8) (fun F hFn hFH hFD => ?_)
 unfold exergueref06_Near at h
 refine kSR ?_
 refine kC 2 [1,2] ?_
 refine kEN ?_
 refine kSR ?_
 refine kC 1 [1,2,4] ?_
 obtain ⟨y0, hy0, h0⟩ := bindS h
 refine kA 5 (exergueref05_Right_ok hy0) ?_
 refine kC 1 [1,2,3] ?_
 refine kEN ?_
 obtain ⟨s0, hy1, h1⟩ := bindS h0
 refine K.cutN (by kernel_rfl) (fun (s0 : Bool) => ([(2, .bool s0)], [])) s0 ?_ ?_
 ·refine kR ?_
  refine kC 2 [1,2,7] ?_
  refine kB 7 hy1 (fun h2 => ?_) (fun h3 => ?_)
  ·refine kC 6 [1,2,13] ?_
   refine kB 13 h2 (fun h4 => ?_) (fun h5 => ?_)
   ·refine kC 5 [1,2,18] ?_
    refine kB 18 h4 (fun h6 => ?_) (fun h7 => ?_)
    ·refine kC 5 [2] ?_
     refine kE ?_
     obtain rfl := oi h6
     refine kW (L2 := [(2, .bool (decide (x0.E_ ≤ 60)))]) (H2 := []) hFH hFD [] ?_
     exact kN [2]
    ·refine kC 5 [2] ?_
     refine kE ?_
     obtain rfl := oi h7
     refine kW (L2 := [(2, .bool false)]) (H2 := []) hFH hFD [] ?_
     exact kN [2]
   ·refine kC 10 [2] ?_
    refine kE ?_
    obtain rfl := oi h5
    refine kW (L2 := [(2, .bool false)]) (H2 := []) hFH hFD [] ?_
    exact kN [2]
  ·refine kC 16 [2] ?_
   refine kE ?_
   obtain rfl := oi h3
   refine kW (L2 := [(2, .bool false)]) (H2 := []) hFH hFD [] ?_
   exact kN [2]
 ·refine kX ?_
  obtain rfl := oi h1
  exact kZ hFn hFH hFD
def exergueref05_Mag (x0 : St28) : Option (Int) :=
 (bif (decide ((x0.D_.length : Int) = 0)) then (some 0) else (some (IntKind.wrap .i64 (((IntKind.wrap .i64 (x0.E_ + (x0.D_.length : Int)))) - 1))))
theorem exergueref05_Mag_ok {x0 : St28} {r : Int} (h : exergueref05_Mag x0 = some r) : SC Tryz.prog 38 [.agg (encSt28 x0)] [] (.int .i64 r) [] := by
 refine kFn (fn := Tryz.f38) (fun F hFn hFH hFD => ?_)
 unfold exergueref05_Mag at h
 refine kSR ?_
 refine kC 2 [1,2] ?_
 refine kEN ?_
 refine kS ?_
 refine kSR ?_
 refine kC 4 [1,2,6] ?_
 refine kEN ?_
 refine kBJ 6 h (fun h0 => ?_) (fun h1 => ?_)
 ·refine kT ?_
  refine kSR ?_
  refine kC 1 [1,2] ?_
  refine kEN ?_
  refine kX ?_
  refine PJ.passRet ?_
  obtain rfl := oi h0
  exact kZ hFn hFH hFD
 ·refine kF ?_
  refine kK ?_
  refine PJ.next ?_
  refine kSR ?_
  refine kC 8 [2] ?_
  refine kEN ?_
  refine kX ?_
  obtain rfl := oi h1
  exact kZ hFn hFH hFD
def exergueref06_Unit (x0 : Int) (x1 : Int) : Option (Bool) :=
 (Option.bind (bif (decide (x0 ≥ 1)) then (bif (decide (x0 ≤ 1000000000)) then (bif (decide (x1 ≥ (-1000))) then (some (decide (x1 ≤ 1000))) else (some false)) else (some false)) else (some false)) fun (s0 : Bool) => (some s0))
theorem exergueref06_Unit_ok {x0 : Int} {x1 : Int} {r : Bool} (h : exergueref06_Unit x0 x1 = some r) : SC Tryz.prog 96 [.int .i64 x0, .int .i64 x1] [] (.bool r) [] := by
 refine kFn (fn := Tryz.f96) (fun F hFn hFH hFD => ?_)
 unfold exergueref06_Unit at h
 refine kSR ?_
 refine kC 1 [0,1,4] ?_
 refine kEN ?_
 obtain ⟨s0, hy0, h0⟩ := bindS h
 refine K.cutN (by kernel_rfl) (fun (s0 : Bool) => ([(4, .bool s0)], [])) s0 ?_ ?_
 ·refine kR ?_
  refine kC 3 [0,1,4,7] ?_
  refine kB 7 hy0 (fun h1 => ?_) (fun h2 => ?_)
  ·refine kC 4 [1,4,11] ?_
   refine kB 11 h1 (fun h3 => ?_) (fun h4 => ?_)
   ·refine kC 4 [1,4,15] ?_
    refine kB 15 h3 (fun h5 => ?_) (fun h6 => ?_)
    ·refine kC 4 [4] ?_
     refine kE ?_
     obtain rfl := oi h5
     exact kN [4]
    ·refine kC 4 [4] ?_
     refine kE ?_
     obtain rfl := oi h6
     exact kN [4]
   ·refine kC 8 [4] ?_
    refine kE ?_
    obtain rfl := oi h4
    exact kN [4]
  ·refine kC 12 [4] ?_
   refine kE ?_
   obtain rfl := oi h2
   exact kN [4]
 ·refine kX ?_
  obtain rfl := oi h0
  exact kZ hFn hFH hFD
def exergueref06_least (x0 : St28) (x1 : Int) : Option (List Int) :=
 (bif mk x1 x1 then (Option.bind (loopN (fun (s0 : Int × (List Int)) => (bif (decide (s0.1 ≥ 0)) then (bif inR s0.1 x0.D_.length then (bif room (s0.2.length + ([(nth x0.D_ s0.1)] : List Int).length) then (some (.inl ((IntKind.wrap .i64 (s0.1 - 1)), (s0.2 ++ ([(nth x0.D_ s0.1)] : List Int))))) else none) else none) else (some (.inr s0.2)))) big ((IntKind.wrap .i64 ((x0.D_.length : Int) - 1)), (rep x1 (0 : Int)))) fun (s1 : (List Int)) => (some s1)) else none)
theorem exergueref06_least_ok {x0 : St28} {x1 : Int} {r : List Int} (h : exergueref06_least x0 x1 = some r) : SC Tryz.prog 97 [.agg (encSt28 x0), .int .i64 x1] [] (lsv (encI .u8) 1 r) [] := by
 refine kFn (fn := Tryz.f97) (fun F hFn hFH hFD => ?_)
 unfold exergueref06_least at h
 refine kSR ?_
 refine kC 2 [1,2,4] ?_
 refine kEN ?_
 refine kSR ?_
 refine kC 1 [2,4,7] ?_
 obtain ⟨hm, h0⟩ := asrt h
 refine RJ.rel (d := (some 8)) (ef := ⟨.vc 1, [], [(1, .vec (x1 : Int).toNat 1 5 (List.replicate (x1 : Int).toNat ((encI .u8) (0 : Int))).flatten)]⟩) (ef' := ⟨.vc 1, [], [(1, vecL (encI .u8) 1 5 (rep x1 (0 : Int)))]⟩) (c := mk x1 x1) (tr2 := []) (H2 := [.box (encSt28 x0), vecL (encI .u8) 1 5 (rep x1 (0 : Int))]) (by kernel_rfl) hm (fun hc => N.make) (by kernel_rfl) ?_
 refine kC 1 [2,4,5] ?_
 refine kEN ?_
 obtain ⟨s1, hy0, h1⟩ := bindS h0
 refine K.cutN (by kernel_rfl) (fun (s1 : (List Int)) => ([(4, .nl), (5, .vc 0)], [vecL (encI .u8) 1 5 s1])) s1 ?_ ?_
 ·refine kSR ?_
  refine kC 5 [2,4,5,6] ?_
  refine kEN ?_
  refine kb 0 ?_
  refine kl (fun (s0 : Int × (List Int)) => ([(2, .ptr 0 0), (4, .nl), (5, .vc 1), (6, .int .i64 s0.1)], [.box (encSt28 x0), vecL (encI .u8) 1 5 s0.2])) hy0 [2, 4, 5, 6] (fun s0 x47 hs0 => ?_)
  refine kS ?_
  refine kSR ?_
  refine kC 2 [2,4,5,6,14] ?_
  refine kEN ?_
  refine kBJ 14 hs0 (fun h2 => ?_) (fun h3 => ?_)
  ·refine kT ?_
   refine kK ?_
   refine PJ.next ?_
   refine kS ?_
   refine kb 1 ?_
   refine kR ?_
   refine kC 4 [2,4,5,6,17,19,20] ?_
   obtain ⟨hm, h4⟩ := asrt h2
   refine kI 21 (encI_len .u8) hm ?_
   refine kC 2 [2,4,5,6,17,23] ?_
   obtain ⟨hm, h5⟩ := asrt h4
   refine RJ.rel (d := (some 24)) (ef := ⟨.vc 3, [1, 2], [(1, .gone), (3, .vec (s0.2.length + ([(nth x0.D_ s0.1)] : List Int).length) 1 5 (s0.2.flatMap (encI .u8) ++ ([(nth x0.D_ s0.1)] : List Int).flatMap (encI .u8)))]⟩) (ef' := ⟨.vc 3, [1, 2], [(1, .gone), (3, vecL (encI .u8) 1 5 (s0.2 ++ ([(nth x0.D_ s0.1)] : List Int)))]⟩) (c := roomB (s0.2.length + ([(nth x0.D_ s0.1)] : List Int).length)) (tr2 := []) (H2 := [.box (encSt28 x0), .gone, vecL (encI .u8) 1 5 ([(nth x0.D_ s0.1)] : List Int), vecL (encI .u8) 1 5 ((s0.2 ++ ([(nth x0.D_ s0.1)] : List Int)))]) (by kernel_rfl) (roomB_of_room hm) (fun hc => N.app) (by kernel_rfl) ?_
   refine kC 1 [2,4,5,6] ?_
   refine kE ?_
   refine PJ.blockNormal ?_
   refine PJ.next ?_
   refine kR ?_
   refine kC 3 [2,4,5,6] ?_
   refine kE ?_
   obtain rfl := oi h5
   refine kW (L2 := [(2, .ptr 0 0), (4, .nl), (5, .vc 1), (6, .int .i64 (IntKind.wrap .i64 (s0.1 - 1)))]) (H2 := [.box (encSt28 x0), vecL (encI .u8) 1 5 ((s0.2 ++ ([(nth x0.D_ s0.1)] : List Int)))]) hFH hFD [0, 3] ?_
   exact kLN [2, 4, 5, 6]
  ·refine kF ?_
   refine K.exit 0 (by kernel_rfl) ?_
   refine PJ.passExit ?_
   obtain rfl := oi h3
   refine PJ.loopOut (fun e => nomatch e) (fun he0 => ?_)
   have h6 := congrArg some he0
   refine PJ.blockOut ?_
   obtain rfl := oi h6
   refine kW (L2 := [(4, .nl), (5, .vc 0)]) (H2 := [vecL (encI .u8) 1 5 s0.2]) hFH hFD [1] ?_
   exact kN [4, 5]
 ·refine kSR ?_
  refine kC 2 [4] ?_
  refine kEN ?_
  refine kX ?_
  obtain rfl := oi h1
  refine PJ.wk (Wk.freeze 0 (n := s1.length) (k := 1) (e := 5) (cs := s1.flatMap (encI .u8)) (by kernel_rfl)) ?_
  exact kZ hFn hFH hFD
def exergueref06_from (x0 : Int) (x1 : Int) : Option (List Int) :=
 (bif mk x1 x1 then (Option.bind (loopN (fun (s0 : Int × (List Int)) => (bif (decide (s0.1 > 0)) then (bif room (s0.2.length + (([(IntKind.wrap .u8 (Int.tmod s0.1 10))] : List Int)).length) then (some (.inl ((IntKind.wrap .i64 (Int.tdiv s0.1 10)), (s0.2 ++ (([(IntKind.wrap .u8 (Int.tmod s0.1 10))] : List Int)))))) else none) else (some (.inr s0.2)))) big (x0, (rep x1 (0 : Int)))) fun (s1 : (List Int)) => (some s1)) else none)
theorem exergueref06_from_ok {x0 : Int} {x1 : Int} {r : List Int} (h : exergueref06_from x0 x1 = some r) : SC Tryz.prog 98 [.int .i64 x0, .int .i64 x1] [] (lsv (encI .u8) 1 r) [] := by
 refine kFn (fn := Tryz.f98) (fun F hFn hFH hFD => ?_)
 unfold exergueref06_from at h
 refine kSR ?_
 refine kC 1 [0,1,4] ?_
 refine kEN ?_
 refine kSR ?_
 refine kC 1 [0,4,6] ?_
 obtain ⟨hm, h0⟩ := asrt h
 refine RJ.rel (d := (some 7)) (ef := ⟨.vc 0, [], [(0, .vec (x1 : Int).toNat 1 5 (List.replicate (x1 : Int).toNat ((encI .u8) (0 : Int))).flatten)]⟩) (ef' := ⟨.vc 0, [], [(0, vecL (encI .u8) 1 5 (rep x1 (0 : Int)))]⟩) (c := mk x1 x1) (tr2 := []) (H2 := [vecL (encI .u8) 1 5 (rep x1 (0 : Int))]) (by kernel_rfl) hm (fun hc => N.make) (by kernel_rfl) ?_
 refine kC 1 [0,4,5] ?_
 refine kEN ?_
 obtain ⟨s1, hy0, h1⟩ := bindS h0
 refine K.cutN (by kernel_rfl) (fun (s1 : (List Int)) => ([(4, .nl), (5, .vc 0)], [vecL (encI .u8) 1 5 s1])) s1 ?_ ?_
 ·refine kb 0 ?_
  refine kl (fun (s0 : Int × (List Int)) => ([(0, .int .i64 s0.1), (4, .nl), (5, .vc 0)], [vecL (encI .u8) 1 5 s0.2])) hy0 [0, 4, 5] (fun s0 x42 hs0 => ?_)
  refine kS ?_
  refine kSR ?_
  refine kC 2 [0,4,5,9] ?_
  refine kEN ?_
  refine kBJ 9 hs0 (fun h2 => ?_) (fun h3 => ?_)
  ·refine kT ?_
   refine kK ?_
   refine PJ.next ?_
   refine kb 1 ?_
   refine kSR ?_
   refine kC 5 [0,4,5,10,14] ?_
   obtain ⟨hm, h4⟩ := asrt h2
   refine RJ.rel (d := (some 15)) (ef := ⟨.vc 2, [0, 1], [(0, .gone), (2, .vec (s0.2.length + (([(IntKind.wrap .u8 (Int.tmod s0.1 10))] : List Int)).length) 1 5 (s0.2.flatMap (encI .u8) ++ (([(IntKind.wrap .u8 (Int.tmod s0.1 10))] : List Int)).flatMap (encI .u8)))]⟩) (ef' := ⟨.vc 2, [0, 1], [(0, .gone), (2, vecL (encI .u8) 1 5 (s0.2 ++ (([(IntKind.wrap .u8 (Int.tmod s0.1 10))] : List Int))))]⟩) (c := roomB (s0.2.length + (([(IntKind.wrap .u8 (Int.tmod s0.1 10))] : List Int)).length)) (tr2 := []) (H2 := [.gone, vecL (encI .u8) 1 5 (([(IntKind.wrap .u8 (Int.tmod s0.1 10))] : List Int)), vecL (encI .u8) 1 5 ((s0.2 ++ (([(IntKind.wrap .u8 (Int.tmod s0.1 10))] : List Int))))]) (by kernel_rfl) (roomB_of_room hm) (fun hc => N.app) (by kernel_rfl) ?_
   refine kC 1 [0,4,5] ?_
   refine kEN ?_
   refine kR ?_
   refine kC 3 [0,4,5] ?_
   refine kE ?_
   refine PJ.blockNormal ?_
   obtain rfl := oi h4
   refine kW (L2 := [(0, .int .i64 (IntKind.wrap .i64 (Int.tdiv s0.1 10))), (4, .nl), (5, .vc 0)]) (H2 := [vecL (encI .u8) 1 5 ((s0.2 ++ (([(IntKind.wrap .u8 (Int.tmod s0.1 10))] : List Int))))]) hFH hFD [2] ?_
   exact kLN [0, 4, 5]
  ·refine kF ?_
   refine K.exit 0 (by kernel_rfl) ?_
   refine PJ.passExit ?_
   obtain rfl := oi h3
   refine PJ.loopOut (fun e => nomatch e) (fun he0 => ?_)
   have h5 := congrArg some he0
   refine PJ.blockOut ?_
   obtain rfl := oi h5
   exact kN [4, 5]
 ·refine kSR ?_
  refine kC 2 [4] ?_
  refine kEN ?_
  refine kX ?_
  obtain rfl := oi h1
  refine PJ.wk (Wk.freeze 0 (n := s1.length) (k := 1) (e := 5) (cs := s1.flatMap (encI .u8)) (by kernel_rfl)) ?_
  exact kZ hFn hFH hFD
def exergueref06_at (x0 : List Int) (x1 : Int) : Option (Int) :=
 (bif (decide (x1 < (x0.length : Int))) then (bif inR x1 x0.length then (some (nth x0 x1)) else none) else (some 0))
theorem exergueref06_at_ok {x0 : List Int} {x1 : Int} {r : Int} (h : exergueref06_at x0 x1 = some r) : SC Tryz.prog 123 [lsv (encI .u8) 1 x0, .int .i64 x1] [] (.int .u8 r) [] := by
 refine kFn (fn := Tryz.f123) (fun F hFn hFH hFD => ?_)
 unfold exergueref06_at at h
 refine kSR ?_
 refine kC 1 [0,1,4] ?_
 refine kEN ?_
 refine kS ?_
 refine kSR ?_
 refine kC 4 [0,1,4,8] ?_
 refine kEN ?_
 refine kBJ 8 h (fun h0 => ?_) (fun h1 => ?_)
 ·refine kT ?_
  refine kSR ?_
  refine kC 2 [4,9,10] ?_
  obtain ⟨hm, h2⟩ := asrt h0
  refine kI 11 (encI_len .u8) hm ?_
  refine kC 2 [4] ?_
  refine kEN ?_
  refine kX ?_
  refine PJ.passRet ?_
  obtain rfl := oi h2
  exact kZ hFn hFH hFD
 ·refine kF ?_
  refine kK ?_
  refine PJ.next ?_
  refine kSR ?_
  refine kC 1 [4] ?_
  refine kEN ?_
  refine kX ?_
  obtain rfl := oi h1
  exact kZ hFn hFH hFD
end Go.Proofs.YtcmmjficmoflkaaGreat
