/-
  What the functions of this program come to, as functions of natives, each with the proof that it does. No conditions.
-/
import Derived.Test.YthhabncebpaheaaProg
import Derived.Test.YthhabncebpaheaaSySL
import Derived.Test.YthhabncebpaheaaGb
namespace Go.Proofs.Ythhabncebpaheaa
open Go Go.Sy Go.RowKit
set_option linter.unusedVariables false
set_option linter.unusedSimpArgs false
set_option maxRecDepth 100000
set_option maxHeartbeats 4000000
def exergueref09_Take (x0 : List Int) (x1 : Int) (x2 : Int) : Option (Int × Int × Int) :=
 (Option.bind (Option.bind (bif (decide (¬ x2 = 1)) then (bif (decide (¬ x2 = 2)) then (bif (decide (¬ x2 = 4)) then (some true) else (some (decide (x1 < 0)))) else (some (decide (x1 < 0)))) else (some (decide (x1 < 0)))) fun (s1 : Bool) => (bif s1 then (some (.inr (0, 0, 1))) else (some (.inl ())))) (joinX fun (s4 : Unit) => (Option.bind (Option.bind (bif (decide (x1 > (x0.length : Int))) then (some true) else (some ((decide (((IntKind.wrap .i64 ((x0.length : Int) - x1))) < x2))))) fun (s2 : Bool) => (bif s2 then (some (.inr (0, 0, 2))) else (some (.inl ())))) (joinX fun (s5 : Unit) => (Option.bind (loopN (fun (s0 : Int × Int) => (bif (decide (s0.2 < x2)) then (bif inR (IntKind.wrap .i64 (x1 + s0.2)) x0.length then (some (.inl ((IntKind.wrap .u32 ((IntKind.wrap .u32 (s0.1 * 256)) + ((IntKind.wrap .u32 ((nth x0 (IntKind.wrap .i64 (x1 + s0.2)))))))), (IntKind.wrap .i64 (s0.2 + 1))))) else none) else (some (.inr s0.1)))) big (0, 0)) fun (s3 : Int) => (some (s3, (IntKind.wrap .i64 (x1 + x2)), 0)))))))
theorem exergueref09_Take_ok {x0 : List Int} {x1 : Int} {x2 : Int} {r : Int × Int × Int} (h : exergueref09_Take x0 x1 x2 = some r) : SC Try.prog 71 [lB x0, iL x1, iL x2] [] (.tup [.int .u32 r.1, iL r.2.1, iL r.2.2]) [] := by
 refine kFn (fn := Try.f71) (fun F hFn hFH hFD => ?_)
 unfold exergueref09_Take at h
 refine kSR ?_
 refine kC 3 [0,1,2,6,7,8] ?_
 refine kEN ?_
 obtain ⟨y0, hy0, h0⟩ := bindS h
 refine K.cutX (by kernel_rfl) (fun (s4 : Unit) => ([(0, lB x0), (1, iL x1), (2, iL x2), (6, .int .u32 0), (7, iL 0), (8, iL 0)], [])) y0 ?_ (fun s4 hs => ?_)
 ·obtain ⟨s1, hy1, h2⟩ := bindS hy0
  refine K.cutN (by kernel_rfl) (fun (s1 : Bool) => ([(0, lB x0), (1, iL x1), (2, iL x2), (6, .int .u32 0), (7, iL 0), (8, iL 0), (24, .bool s1)], [])) s1 ?_ ?_
  ·refine kR ?_
   refine kC 3 [0,1,2,6,7,8,13] ?_
   refine kB 13 hy1 (fun h3 => ?_) (fun h4 => ?_)
   ·refine kC 4 [0,1,2,6,7,8,17] ?_
    refine kB 17 h3 (fun h5 => ?_) (fun h6 => ?_)
    ·refine kC 4 [0,1,2,6,7,8,21] ?_
     refine kB 21 h5 (fun h7 => ?_) (fun h8 => ?_)
     ·refine kC 3 [0,1,2,6,7,8,24] ?_
      refine kE ?_
      obtain rfl := oi h7
      exact kN [0, 1, 2, 6, 7, 8, 24]
     ·refine kC 3 [0,1,2,6,7,8,24] ?_
      refine kE ?_
      obtain rfl := oi h8
      exact kN [0, 1, 2, 6, 7, 8, 24]
    ·refine kC 7 [0,1,2,6,7,8,24] ?_
     refine kE ?_
     obtain rfl := oi h6
     exact kN [0, 1, 2, 6, 7, 8, 24]
   ·refine kC 11 [0,1,2,6,7,8,24] ?_
    refine kE ?_
    obtain rfl := oi h4
    exact kN [0, 1, 2, 6, 7, 8, 24]
  ·refine kBJ 24 h2 (fun h9 => ?_) (fun h10 => ?_)
   ·refine kT ?_
    refine kSR ?_
    refine kC 3 [0,1,2,6,7,8] ?_
    refine kEN ?_
    refine kX ?_
    obtain rfl := oi h9
    have h11 := joinX_inr h0
    refine PJ.cutXr (fun e => nomatch e) ?_
    obtain rfl := oi h11
    exact kZ hFn hFH hFD
   ·refine kF ?_
    refine kK ?_
    obtain rfl := oi h10
    exact kXl [0, 1, 2, 6, 7, 8]
 ·subst hs
  have h12 := joinX_inl h0
  obtain ⟨y1, hy2, h1⟩ := bindS h12
  refine K.cutX (by kernel_rfl) (fun (s5 : Unit) => ([(0, lB x0), (1, iL x1), (2, iL x2), (6, .int .u32 0), (7, iL 0), (8, iL 0)], [])) y1 ?_ (fun s5 hs => ?_)
  ·obtain ⟨s2, hy3, h13⟩ := bindS hy2
   refine K.cutN (by kernel_rfl) (fun (s2 : Bool) => ([(0, lB x0), (1, iL x1), (2, iL x2), (6, .int .u32 0), (7, iL 0), (8, iL 0), (36, .bool s2)], [])) s2 ?_ ?_
   ·refine kR ?_
    refine kC 5 [0,1,2,6,7,8,29] ?_
    refine kB 29 hy3 (fun h14 => ?_) (fun h15 => ?_)
    ·refine kC 7 [0,1,2,6,7,8,36] ?_
     refine kE ?_
     obtain rfl := oi h14
     exact kN [0, 1, 2, 6, 7, 8, 36]
    ·refine kC 7 [0,1,2,6,7,8,36] ?_
     refine kE ?_
     obtain rfl := oi h15
     exact kN [0, 1, 2, 6, 7, 8, 36]
   ·refine kBJ 36 h13 (fun h16 => ?_) (fun h17 => ?_)
    ·refine kT ?_
     refine kSR ?_
     refine kC 3 [0,1,2,6,7,8] ?_
     refine kEN ?_
     refine kX ?_
     obtain rfl := oi h16
     have h18 := joinX_inr h1
     refine PJ.cutXr (fun e => nomatch e) ?_
     obtain rfl := oi h18
     exact kZ hFn hFH hFD
    ·refine kF ?_
     refine kK ?_
     obtain rfl := oi h17
     exact kXl [0, 1, 2, 6, 7, 8]
  ·subst hs
   have h19 := joinX_inl h1
   refine kSR ?_
   refine kC 1 [0,1,2,6,7,8,9] ?_
   refine kEN ?_
   obtain ⟨s3, hy4, h20⟩ := bindS h19
   refine K.cutN (by kernel_rfl) (fun (s3 : Int) => ([(1, iL x1), (2, iL x2), (6, .int .u32 0), (7, iL 0), (8, iL 0), (9, .int .u32 s3)], [])) s3 ?_ ?_
   ·refine kSR ?_
    refine kC 1 [0,1,2,6,7,8,9,10] ?_
    refine kEN ?_
    refine kb 0 ?_
    refine kl (fun (s0 : Int × Int) => ([(0, lB x0), (1, iL x1), (2, iL x2), (6, .int .u32 0), (7, iL 0), (8, iL 0), (9, .int .u32 s0.1), (10, iL s0.2)], [])) hy4 [0, 1, 2, 6, 7, 8, 9, 10] (fun s0 x135 hs0 => ?_)
    refine kS ?_
    refine kSR ?_
    refine kC 3 [0,1,2,6,7,8,9,10,39] ?_
    refine kEN ?_
    refine kBJ 39 hs0 (fun h21 => ?_) (fun h22 => ?_)
    ·refine kT ?_
     refine kK ?_
     refine PJ.next ?_
     refine kS ?_
     refine kb 1 ?_
     refine kR ?_
     refine kC 6 [0,1,2,6,7,8,9,10,43,44,47] ?_
     obtain ⟨hm, h23⟩ := asrt h21
     refine kI 48 (encI_len .u8) hm ?_
     refine kC 4 [0,1,2,6,7,8,9,10] ?_
     refine kE ?_
     refine PJ.blockNormal ?_
     refine PJ.next ?_
     refine kR ?_
     refine kC 3 [0,1,2,6,7,8,9,10] ?_
     refine kE ?_
     obtain rfl := oi h23
     exact kLN [0, 1, 2, 6, 7, 8, 9, 10]
    ·refine kF ?_
     refine K.exit 0 (by kernel_rfl) ?_
     refine PJ.passExit ?_
     obtain rfl := oi h22
     refine PJ.loopOut (fun e => nomatch e) (fun he0 => ?_)
     have h24 := congrArg some he0
     refine PJ.blockOut ?_
     obtain rfl := oi h24
     exact kN [1, 2, 6, 7, 8, 9]
   ·refine kSR ?_
    refine kC 7 [6,7,8] ?_
    refine kEN ?_
    refine kX ?_
    obtain rfl := oi h20
    exact kZ hFn hFH hFD
def exergueref09_TakePool (x0 : List Int) (x1 : Int) : Option ((List (List UInt8)) × Int × Int) :=
 (bif (decide (x1 < 0)) then (some (([] : List (List UInt8)), 0, 1)) else (Option.bind (exergueref09_Take x0 x1 2) fun y1 => (bif (decide (¬ y1.2.2 = 0)) then (some (([] : List (List UInt8)), 0, y1.2.2)) else (Option.bind (loopN (fun (s0 : Int × Int × (List (List UInt8))) => (bif (decide (s0.2.1 < (IntKind.wrap .i64 y1.1))) then (Option.bind (Option.bind (exergueref09_Take x0 s0.1 2) fun y0 => (Option.bind (Option.bind (bif (decide (¬ y0.2.2 = 0)) then (some true) else (some ((decide (((IntKind.wrap .i64 (y0.2.1 + (IntKind.wrap .i64 y0.1)))) > (x0.length : Int)))))) fun (s3 : Bool) => (bif s3 then (some (.inr (.inr (.inr (.inr (([] : List (List UInt8)), 0, 2)))))) else (some (.inl ())))) (joinX fun (s4 : Unit) => (bif inS y0.2.1 ((IntKind.wrap .i64 (y0.2.1 + (IntKind.wrap .i64 y0.1)))) x0.length then (bif room (s0.2.2.length + (([(bytesS ((cut x0 y0.2.1 ((IntKind.wrap .i64 (y0.2.1 + (IntKind.wrap .i64 y0.1)))))))] : List (List UInt8))).length) then (some (.inl ((IntKind.wrap .i64 (y0.2.1 + (IntKind.wrap .i64 y0.1))), (s0.2.2 ++ (([(bytesS ((cut x0 y0.2.1 ((IntKind.wrap .i64 (y0.2.1 + (IntKind.wrap .i64 y0.1)))))))] : List (List UInt8))))))) else none) else none)))) (joinX fun (s2 : Int × (List (List UInt8))) => (some (.inl (s2.1, (IntKind.wrap .i64 (s0.2.1 + 1)), s2.2))))) else (some (.inr (.inl (s0.1, s0.2.2)))))) big (y1.2.1, 0, ([] : List (List UInt8)))) (joinX fun (s1 : Int × (List (List UInt8))) => (Option.bind (exergueref09_Pool s1.2) fun y2 => (bif (!y2) then (some (([] : List (List UInt8)), 0, 2)) else (some (s1.2, s1.1, 0)))))))))
theorem exergueref09_TakePool_ok {x0 : List Int} {x1 : Int} {r : (List (List UInt8)) × Int × Int} (h : exergueref09_TakePool x0 x1 = some r) : SC Try.prog 57 [lB x0, iL x1] [] (.tup [lT r.1, iL r.2.1, iL r.2.2]) [] := by
 refine kFn (fn := Try.f57) (fun F hFn hFH hFD => ?_)
 unfold exergueref09_TakePool at h
 refine kSR ?_
 refine kC 3 [0,1,4,5,6] ?_
 refine kEN ?_
 refine kS ?_
 refine kSR ?_
 refine kC 2 [0,1,4,5,6,17] ?_
 refine kEN ?_
 refine kBJ 17 h (fun h3 => ?_) (fun h4 => ?_)
 ·refine kT ?_
  refine kSR ?_
  refine kC 3 [0,1,4,5,6] ?_
  refine kEN ?_
  refine kX ?_
  refine PJ.passRet ?_
  obtain rfl := oi h3
  refine PJ.res (v1 := .tup [.nl, iL 0, iL 1]) (Le.tup (.cons (Le.nl _) (.cons (Le.refl _) (.cons (Le.refl _) .nil)))) ?_
  exact kZ hFn hFH hFD
 ·refine kF ?_
  refine kK ?_
  refine PJ.next ?_
  refine kSR ?_
  refine kC 2 [0,4,5,6,19,20] ?_
  obtain ⟨y1, hy0, h5⟩ := bindS h4
  refine kA 21 (exergueref09_Take_ok hy0) ?_
  refine kC 7 [0,4,5,6,7,8,9] ?_
  refine kEN ?_
  refine kS ?_
  refine kSR ?_
  refine kC 2 [0,4,5,6,7,8,9,26] ?_
  refine kEN ?_
  refine kBJ 26 h5 (fun h6 => ?_) (fun h7 => ?_)
  ·refine kT ?_
   refine kSR ?_
   refine kC 4 [0,4,5,6,7,8] ?_
   refine kEN ?_
   refine kX ?_
   refine PJ.passRet ?_
   obtain rfl := oi h6
   refine PJ.res (v1 := .tup [.nl, iL 0, iL y1.2.2]) (Le.tup (.cons (Le.nl _) (.cons (Le.refl _) (.cons (Le.refl _) .nil)))) ?_
   exact kZ hFn hFH hFD
  ·refine kF ?_
   refine kK ?_
   refine PJ.next ?_
   refine kSR ?_
   refine kC 1 [0,4,5,6,7,8,10] ?_
   refine kEN ?_
   obtain ⟨y3, hy1, h0⟩ := bindS h7
   refine K.cutX (by kernel_rfl) (fun (s1 : Int × (List (List UInt8))) => ([(4, .nl), (5, iL 0), (6, iL 0), (8, iL s1.1), (10, .vc 0)], [vecL encT 1 9 s1.2])) y3 ?_ (fun s1 hs => ?_)
   ·refine kSR ?_
    refine kC 1 [0,4,5,6,7,8,10,11] ?_
    refine kEN ?_
    refine kb 0 ?_
    refine J.wk (Wk.viv 10 1 9 (by kernel_rfl)) ?_
    refine kl (fun (s0 : Int × Int × (List (List UInt8))) => ([(0, lB x0), (4, .nl), (5, iL 0), (6, iL 0), (7, .int .u32 y1.1), (8, iL s0.1), (10, .vc 0), (11, iL s0.2.1)], [vecL encT 1 9 s0.2.2])) hy1 [0, 4, 5, 6, 7, 8, 10, 11] (fun s0 x550 hs0 => ?_)
    refine kS ?_
    refine kSR ?_
    refine kC 4 [0,4,5,6,7,8,10,11,31] ?_
    refine kEN ?_
    refine kBJ 31 hs0 (fun h8 => ?_) (fun h9 => ?_)
    ·refine kT ?_
     refine kK ?_
     refine PJ.next ?_
     obtain ⟨y4, hy2, h1⟩ := bindS h8
     refine K.cutX (by kernel_rfl) (fun (s2 : Int × (List (List UInt8))) => ([(0, lB x0), (4, .nl), (5, iL 0), (6, iL 0), (7, .int .u32 y1.1), (8, iL s2.1), (10, .vc 0), (11, iL s0.2.1)], [vecL encT 1 9 s2.2])) y4 ?_ (fun s2 hs => ?_)
     ·refine kb 1 ?_
      refine kSR ?_
      refine kC 2 [0,4,5,6,7,8,10,11,35,36] ?_
      obtain ⟨y0, hy3, h10⟩ := bindS hy2
      refine kA 37 (exergueref09_Take_ok hy3) ?_
      refine kC 7 [0,4,5,6,7,8,10,11,12,13,14] ?_
      refine kEN ?_
      obtain ⟨y5, hy4, h2⟩ := bindS h10
      refine K.cutX (by kernel_rfl) (fun (s4 : Unit) => ([(0, lB x0), (4, .nl), (5, iL 0), (6, iL 0), (7, .int .u32 y1.1), (8, iL s0.1), (10, .vc 0), (11, iL s0.2.1), (12, .int .u32 y0.1), (13, iL y0.2.1)], [vecL encT 1 9 s0.2.2])) y5 ?_ (fun s4 hs => ?_)
      ·obtain ⟨s3, hy5, h11⟩ := bindS hy4
       refine K.cutN (by kernel_rfl) (fun (s3 : Bool) => ([(0, lB x0), (4, .nl), (5, iL 0), (6, iL 0), (7, .int .u32 y1.1), (8, iL s0.1), (10, .vc 0), (11, iL s0.2.1), (12, .int .u32 y0.1), (13, iL y0.2.1), (51, .bool s3)], [vecL encT 1 9 s0.2.2])) s3 ?_ ?_
       ·refine kR ?_
        refine kC 3 [0,4,5,6,7,8,10,11,12,13,43] ?_
        refine kB 43 hy5 (fun h12 => ?_) (fun h13 => ?_)
        ·refine kC 8 [0,4,5,6,7,8,10,11,12,13,51] ?_
         refine kE ?_
         obtain rfl := oi h12
         exact kN [0, 4, 5, 6, 7, 8, 10, 11, 12, 13, 51]
        ·refine kC 8 [0,4,5,6,7,8,10,11,12,13,51] ?_
         refine kE ?_
         obtain rfl := oi h13
         exact kN [0, 4, 5, 6, 7, 8, 10, 11, 12, 13, 51]
       ·refine kBJ 51 h11 (fun h14 => ?_) (fun h15 => ?_)
        ·refine kT ?_
         refine kSR ?_
         refine kC 3 [0,4,5,6,7,8,10,11,12,13] ?_
         refine kEN ?_
         refine kX ?_
         obtain rfl := oi h14
         have h16 := joinX_inr h2
         refine PJ.cutXr (fun e => nomatch e) ?_
         refine PJ.blockRet ?_
         obtain rfl := oi h16
         have h17 := joinX_inr h1
         refine PJ.cutXr (fun e => nomatch e) ?_
         obtain rfl := oi h17
         refine PJ.loopOut (fun e => nomatch e) (fun he0 => ?_)
         have h18 := congrArg some he0
         refine PJ.blockRet ?_
         obtain rfl := oi h18
         have h19 := joinX_inr h0
         refine PJ.cutXr (fun e => nomatch e) ?_
         obtain rfl := oi h19
         refine PJ.res (v1 := .tup [.nl, iL 0, iL 2]) (Le.tup (.cons (Le.nl _) (.cons (Le.refl _) (.cons (Le.refl _) .nil)))) ?_
         exact kZ hFn hFH hFD
        ·refine kF ?_
         refine kK ?_
         obtain rfl := oi h15
         exact kXl [0, 4, 5, 6, 7, 8, 10, 11, 12, 13]
      ·subst hs
       have h20 := joinX_inl h2
       refine kSR ?_
       refine kC 7 [0,4,5,6,7,8,10,11,12,13,52,53,54,58] ?_
       obtain ⟨hm, h21⟩ := asrt h20
       refine RJ.rel (d := (some 59)) (ef := ⟨.lst (((IntKind.wrap .i64 (y0.2.1 + (IntKind.wrap .i64 y0.1))) : Int).toNat - (y0.2.1 : Int).toNat) 1 (((x0.flatMap (encI .u8)).take (((IntKind.wrap .i64 (y0.2.1 + (IntKind.wrap .i64 y0.1))) : Int).toNat * 1)).drop ((y0.2.1 : Int).toNat * 1)), [], []⟩) (ef' := ⟨.lst (cut x0 y0.2.1 ((IntKind.wrap .i64 (y0.2.1 + (IntKind.wrap .i64 y0.1))))).length 1 ((cut x0 y0.2.1 ((IntKind.wrap .i64 (y0.2.1 + (IntKind.wrap .i64 y0.1))))).flatMap (encI .u8)), [], []⟩) (c := inS y0.2.1 ((IntKind.wrap .i64 (y0.2.1 + (IntKind.wrap .i64 y0.1)))) x0.length) (tr2 := []) (H2 := [vecL encT 1 9 s0.2.2]) (by kernel_rfl) hm (fun hc => N.slice (encI_len .u8) hc) (by kernel_rfl) ?_
       refine RJ.rel (d := (some 60)) (ef := ⟨.str ((((cut x0 y0.2.1 ((IntKind.wrap .i64 (y0.2.1 + (IntKind.wrap .i64 y0.1)))))).flatMap (encI .u8)).map Go.Sy.byteOf), [], []⟩) (ef' := ⟨.str (bytesS ((cut x0 y0.2.1 ((IntKind.wrap .i64 (y0.2.1 + (IntKind.wrap .i64 y0.1))))))), [], []⟩) (c := (((cut x0 y0.2.1 ((IntKind.wrap .i64 (y0.2.1 + (IntKind.wrap .i64 y0.1)))))).flatMap (encI .u8)).all isByte) (tr2 := []) (H2 := [vecL encT 1 9 s0.2.2]) (by kernel_rfl) (allByte ((cut x0 y0.2.1 ((IntKind.wrap .i64 (y0.2.1 + (IntKind.wrap .i64 y0.1))))))) (fun hc => N.toStr) (by kernel_rfl) ?_
       refine kC 1 [0,4,5,6,7,8,10,11,12,13,52,61] ?_
       obtain ⟨hm, h22⟩ := asrt h21
       refine RJ.rel (d := (some 62)) (ef := ⟨.vc 2, [0, 1], [(0, .gone), (2, .vec (s0.2.2.length + (([(bytesS ((cut x0 y0.2.1 ((IntKind.wrap .i64 (y0.2.1 + (IntKind.wrap .i64 y0.1)))))))] : List (List UInt8))).length) 1 9 (s0.2.2.flatMap encT ++ (([(bytesS ((cut x0 y0.2.1 ((IntKind.wrap .i64 (y0.2.1 + (IntKind.wrap .i64 y0.1)))))))] : List (List UInt8))).flatMap encT))]⟩) (ef' := ⟨.vc 2, [0, 1], [(0, .gone), (2, vecL encT 1 9 (s0.2.2 ++ (([(bytesS ((cut x0 y0.2.1 ((IntKind.wrap .i64 (y0.2.1 + (IntKind.wrap .i64 y0.1)))))))] : List (List UInt8)))))]⟩) (c := room (s0.2.2.length + (([(bytesS ((cut x0 y0.2.1 ((IntKind.wrap .i64 (y0.2.1 + (IntKind.wrap .i64 y0.1)))))))] : List (List UInt8))).length)) (tr2 := []) (H2 := [.gone, vecL encT 1 9 (([(bytesS ((cut x0 y0.2.1 ((IntKind.wrap .i64 (y0.2.1 + (IntKind.wrap .i64 y0.1)))))))] : List (List UInt8))), vecL encT 1 9 ((s0.2.2 ++ (([(bytesS ((cut x0 y0.2.1 ((IntKind.wrap .i64 (y0.2.1 + (IntKind.wrap .i64 y0.1)))))))] : List (List UInt8)))))]) (by kernel_rfl) hm (fun hc => N.app) (by kernel_rfl) ?_
       refine kC 1 [0,4,5,6,7,8,10,11,12,13] ?_
       refine kEN ?_
       refine kR ?_
       refine kC 5 [0,4,5,6,7,8,10,11] ?_
       refine kE ?_
       refine PJ.blockNormal ?_
       obtain rfl := oi h22
       refine kW (L2 := [(0, lB x0), (4, .nl), (5, iL 0), (6, iL 0), (7, .int .u32 y1.1), (8, iL ((IntKind.wrap .i64 (y0.2.1 + (IntKind.wrap .i64 y0.1))))), (10, .vc 0), (11, iL s0.2.1)]) (H2 := [vecL encT 1 9 ((s0.2.2 ++ (([(bytesS ((cut x0 y0.2.1 ((IntKind.wrap .i64 (y0.2.1 + (IntKind.wrap .i64 y0.1)))))))] : List (List UInt8)))))]) hFH hFD [2] ?_
       exact kXl [0, 4, 5, 6, 7, 8, 10, 11]
     ·subst hs
      have h23 := joinX_inl h1
      refine kR ?_
      refine kC 3 [0,4,5,6,7,8,10,11] ?_
      refine kE ?_
      obtain rfl := oi h23
      exact kLN [0, 4, 5, 6, 7, 8, 10, 11]
    ·refine kF ?_
     refine K.exit 0 (by kernel_rfl) ?_
     refine PJ.passExit ?_
     obtain rfl := oi h9
     refine PJ.loopOut (fun e => nomatch e) (fun he1 => ?_)
     have h24 := congrArg some he1
     refine PJ.blockOut ?_
     obtain rfl := oi h24
     exact kXl [4, 5, 6, 8, 10]
   ·subst hs
    have h25 := joinX_inl h0
    refine kSR ?_
    refine kC 1 [4,5,6,8,10,67] ?_
    obtain ⟨y2, hy6, h26⟩ := bindS h25
    refine RJ.callL (d := (some 68)) (f := 34) (args := [.vc 0]) (args0 := [.vc 0]) (args1 := [lT s1.2]) (H0 := [vecL encT 1 9 s1.2]) (v := .bool y2) (tr2 := []) [0] (by kernel_rfl) (by kernel_rfl) (by kernel_rfl) (by kernel_rfl) (by decide) (by kernel_rfl) (by kernel_rfl) (by kernel_rfl) (by kernel_rfl) (.cons (Le.refl _) .nil) (exergueref09_Pool_ok hy6) (by kernel_rfl) (by kernel_rfl) ?_
    refine kC 1 [4,5,6,8,10,15] ?_
    refine kEN ?_
    refine kS ?_
    refine kSR ?_
    refine kC 2 [4,5,6,8,10,70] ?_
    refine kEN ?_
    refine kBJ 70 h26 (fun h27 => ?_) (fun h28 => ?_)
    ·refine kT ?_
     refine kSR ?_
     refine kC 3 [4,5,6,8,10] ?_
     refine kEN ?_
     refine kX ?_
     refine PJ.passRet ?_
     obtain rfl := oi h27
     refine PJ.res (v1 := .tup [.nl, iL 0, iL 2]) (Le.tup (.cons (Le.nl _) (.cons (Le.refl _) (.cons (Le.refl _) .nil)))) ?_
     exact kZ hFn hFH hFD
    ·refine kF ?_
     refine kK ?_
     refine PJ.next ?_
     refine kSR ?_
     refine kC 5 [4,5,6] ?_
     refine kEN ?_
     refine kX ?_
     obtain rfl := oi h28
     refine PJ.wk (Wk.freeze 0 (n := s1.2.length) (k := 1) (e := 9) (cs := s1.2.flatMap encT) (by kernel_rfl)) ?_
     exact kZ hFn hFH hFD
structure St96 where
 B_ : List Int
 At_ : Int
 Bad_ : Bool
 deriving Inhabited, DecidableEq
def encSt96 (x : St96) : List SV := [lsv (encI .u8) 1 x.B_, .int .i64 x.At_, .bool x.Bad_]
theorem encSt96_len (x : St96) : (encSt96 x).length = 3 := rfl
def exergueref16_take (x0 : St96) (x1 : Int) : Option (Int × St96) :=
 (Option.bind (exergueref09_Take x0.B_ x0.At_ x1) fun y0 => (Option.bind (Option.bind (bif x0.Bad_ then (some true) else (some (decide (¬ y0.2.2 = 0)))) fun (s0 : Bool) => (bif s0 then (some (.inr (0, (⟨x0.B_, x0.At_, true⟩ : St96)))) else (some (.inl ())))) (joinX fun (s1 : Unit) => (some ((IntKind.wrap .i64 y0.1), (⟨x0.B_, y0.2.1, false⟩ : St96))))))
theorem exergueref16_take_ok {x0 : St96} {x1 : Int} {r : Int × St96} (h : exergueref16_take x0 x1 = some r) : SC Try.prog 60 [.agg (encSt96 x0), iL x1] [] (.tup [iL r.1, .agg (encSt96 r.2)]) [] := by
 refine kFn (fn := Try.f60) (fun F hFn hFH hFD => ?_)
 unfold exergueref16_take at h
 refine kSR ?_
 refine kC 3 [1,2,4,5] ?_
 refine kEN ?_
 refine kSR ?_
 refine kC 5 [2,4,5,11,13,14] ?_
 obtain ⟨y0, hy0, h1⟩ := bindS h
 refine kA 15 (exergueref09_Take_ok hy0) ?_
 refine kC 7 [2,4,5,6,7,8] ?_
 refine kEN ?_
 obtain ⟨y1, hy1, h0⟩ := bindS h1
 refine K.cutX (by kernel_rfl) (fun (s1 : Unit) => ([(2, .ptr 0 0), (4, iL 0), (5, .ptr 1 0), (6, .int .u32 y0.1), (7, iL y0.2.1)], [.box (encSt96 x0), .box [.nl, iL 0, .bool false]])) y1 ?_ (fun s1 hs => ?_)
 ·obtain ⟨s0, hy2, h2⟩ := bindS hy1
  refine K.cutN (by kernel_rfl) (fun (s0 : Bool) => ([(2, .ptr 0 0), (4, iL 0), (5, .ptr 1 0), (6, .int .u32 y0.1), (7, iL y0.2.1), (24, .bool s0)], [.box (encSt96 x0), .box [.nl, iL 0, .bool false]])) s0 ?_ ?_
  ·refine kR ?_
   refine kC 3 [2,4,5,6,7,8,21] ?_
   refine kB 21 hy2 (fun h3 => ?_) (fun h4 => ?_)
   ·refine kC 3 [2,4,5,6,7,24] ?_
    refine kE ?_
    obtain rfl := oi h3
    exact kN [2, 4, 5, 6, 7, 24]
   ·refine kC 3 [2,4,5,6,7,24] ?_
    refine kE ?_
    obtain rfl := oi h4
    exact kN [2, 4, 5, 6, 7, 24]
  ·refine kBJ 24 h2 (fun h5 => ?_) (fun h6 => ?_)
   ·refine kT ?_
    refine kS ?_
    refine J.keep [2, 4, 5, 6, 7] (L2 := [(2, .ptr 0 0), (4, iL 0), (5, .ptr 1 0), (6, .int .u32 y0.1), (7, iL y0.2.1)]) (by kernel_rfl) ?_
    refine K.draw (by kernel_rfl) (by kernel_rfl) (by kernel_rfl) (H2 := [.box (encSt96 x0), .box [.nl, iL 0, .bool false]]) (by kernel_rfl) (n := 2) (by kernel_rfl) ?_
    refine kD 7 ?_
    refine kEN ?_
    refine kX ?_
    obtain rfl := oi h5
    have h7 := joinX_inr h0
    refine PJ.cutXr (fun e => nomatch e) ?_
    obtain rfl := oi h7
    exact kZ hFn hFH hFD
   ·refine kF ?_
    refine kK ?_
    obtain rfl := oi h6
    exact kXl [2, 4, 5, 6, 7]
 ·subst hs
  have h8 := joinX_inl h0
  refine kS ?_
  refine J.keep [2, 4, 5, 6, 7] (L2 := [(2, .ptr 0 0), (4, iL 0), (5, .ptr 1 0), (6, .int .u32 y0.1), (7, iL y0.2.1)]) (by kernel_rfl) ?_
  refine K.draw (by kernel_rfl) (by kernel_rfl) (by kernel_rfl) (H2 := [.box (encSt96 x0), .box [.nl, iL 0, .bool false]]) (by kernel_rfl) (n := 2) (by kernel_rfl) ?_
  refine kD 8 ?_
  refine kEN ?_
  refine kX ?_
  obtain rfl := oi h8
  exact kZ hFn hFH hFD
def exergueref16_text (x0 : St96) (x1 : List (List UInt8)) : Option ((List UInt8) × St96) :=
 (Option.bind (exergueref16_take x0 2) fun y0 => (Option.bind (Option.bind (bif y0.2.Bad_ then (some true) else (some ((decide (y0.1 ≥ (x1.length : Int)))))) fun (s0 : Bool) => (bif s0 then (some (.inr (([] : List UInt8), (⟨x0.B_, x0.At_, true⟩ : St96)))) else (some (.inl ())))) (joinX fun (s1 : Unit) => (bif inR y0.1 x1.length then (some ((nth x1 y0.1), y0.2)) else none))))
theorem exergueref16_text_ok {x0 : St96} {x1 : List (List UInt8)} {r : (List UInt8) × St96} (h : exergueref16_text x0 x1 = some r) : SC Try.prog 58 [.agg (encSt96 x0), lT x1] [] (.tup [.str r.1, .agg (encSt96 r.2)]) [] := by
 refine kFn (fn := Try.f58) (fun F hFn hFH hFD => ?_)
 unfold exergueref16_text at h
 refine kSR ?_
 refine kC 3 [1,2,4,5] ?_
 refine kEN ?_
 refine kSR ?_
 refine kC 1 [1,2,4,5,9] ?_
 obtain ⟨y0, hy0, h1⟩ := bindS h
 refine kA 10 (exergueref16_take_ok hy0) ?_
 refine kC 6 [1,2,4,5,6,7] ?_
 refine kEN ?_
 obtain ⟨y1, hy1, h0⟩ := bindS h1
 refine K.cutX (by kernel_rfl) (fun (s1 : Unit) => ([(1, lT x1), (4, .str ([] : List UInt8)), (5, .ptr 0 0), (6, iL y0.1), (7, .ptr 1 0)], [.box [.nl, iL 0, .bool false], .box (encSt96 y0.2)])) y1 ?_ (fun s1 hs => ?_)
 ·obtain ⟨s0, hy2, h2⟩ := bindS hy1
  refine K.cutN (by kernel_rfl) (fun (s0 : Bool) => ([(1, lT x1), (2, .ptr 0 0), (4, .str ([] : List UInt8)), (5, .ptr 1 0), (6, iL y0.1), (7, .ptr 2 0), (20, .bool s0)], [.box (encSt96 x0), .box [.nl, iL 0, .bool false], .box (encSt96 y0.2)])) s0 ?_ ?_
  ·refine kR ?_
   refine kC 3 [1,2,4,5,6,7,15] ?_
   refine kB 15 hy2 (fun h3 => ?_) (fun h4 => ?_)
   ·refine kC 5 [1,2,4,5,6,7,20] ?_
    refine kE ?_
    obtain rfl := oi h3
    exact kN [1, 2, 4, 5, 6, 7, 20]
   ·refine kC 5 [1,2,4,5,6,7,20] ?_
    refine kE ?_
    obtain rfl := oi h4
    exact kN [1, 2, 4, 5, 6, 7, 20]
  ·refine kBJ 20 h2 (fun h5 => ?_) (fun h6 => ?_)
   ·refine kT ?_
    refine kS ?_
    refine J.keep [1, 2, 4, 5, 6, 7] (L2 := [(1, lT x1), (2, .ptr 0 0), (4, .str ([] : List UInt8)), (5, .ptr 1 0), (6, iL y0.1), (7, .ptr 2 0)]) (by kernel_rfl) ?_
    refine K.draw (by kernel_rfl) (by kernel_rfl) (by kernel_rfl) (H2 := [.box (encSt96 x0), .box [.nl, iL 0, .bool false], .box (encSt96 y0.2)]) (by kernel_rfl) (n := 3) (by kernel_rfl) ?_
    refine kD 7 ?_
    refine kEN ?_
    refine kX ?_
    obtain rfl := oi h5
    have h7 := joinX_inr h0
    refine PJ.cutXr (fun e => nomatch e) ?_
    obtain rfl := oi h7
    exact kZ hFn hFH hFD
   ·refine kF ?_
    refine kK ?_
    obtain rfl := oi h6
    refine kW (L2 := [(1, lT x1), (4, .str ([] : List UInt8)), (5, .ptr 0 0), (6, iL y0.1), (7, .ptr 1 0)]) (H2 := [.box [.nl, iL 0, .bool false], .box (encSt96 y0.2)]) hFH hFD [1, 2] ?_
    exact kXl [1, 4, 5, 6, 7]
 ·subst hs
  have h8 := joinX_inl h0
  refine kS ?_
  refine J.keep [1, 4, 5, 6, 7] (L2 := [(1, lT x1), (4, .str ([] : List UInt8)), (5, .ptr 0 0), (6, iL y0.1), (7, .ptr 1 0)]) (by kernel_rfl) ?_
  refine K.draw (by kernel_rfl) (by kernel_rfl) (by kernel_rfl) (H2 := [.box [.nl, iL 0, .bool false], .box (encSt96 y0.2)]) (by kernel_rfl) (n := 2) (by kernel_rfl) ?_
  refine kD 2 ?_
  obtain ⟨hm, h9⟩ := asrt h8
  refine kJ 28 (tr2 := [([], []), ([], []), ([], [])]) encT_len hm ?_
  refine kD 4 ?_
  refine kEN ?_
  refine kX ?_
  obtain rfl := oi h9
  exact kZ hFn hFH hFD
def exergueref16_signs (x0 : St96) : Option (St22 × St96) :=
 (Option.bind (loopN (fun (s0 : Int × (List Int) × Int × Bool × Int × Int × Int × Int × Int × Int × Int) => (bif (decide (s0.1 < 7)) then (Option.bind (exergueref16_take (⟨s0.2.1, s0.2.2.1, s0.2.2.2.1⟩ : St96) 4) fun y0 => (bif (decide (s0.1 = 0)) then (some (.inl ((IntKind.wrap .i64 (0 + 1)), y0.2.B_, y0.2.At_, y0.2.Bad_, (IntKind.wrap .i32 (IntKind.wrap .u32 y0.1)), s0.2.2.2.2.2.1, s0.2.2.2.2.2.2.1, s0.2.2.2.2.2.2.2.1, s0.2.2.2.2.2.2.2.2.1, s0.2.2.2.2.2.2.2.2.2.1, s0.2.2.2.2.2.2.2.2.2.2))) else (bif (decide (s0.1 = 1)) then (some (.inl ((IntKind.wrap .i64 (1 + 1)), y0.2.B_, y0.2.At_, y0.2.Bad_, s0.2.2.2.2.1, (IntKind.wrap .i32 (IntKind.wrap .u32 y0.1)), s0.2.2.2.2.2.2.1, s0.2.2.2.2.2.2.2.1, s0.2.2.2.2.2.2.2.2.1, s0.2.2.2.2.2.2.2.2.2.1, s0.2.2.2.2.2.2.2.2.2.2))) else (bif (decide (s0.1 = 2)) then (some (.inl ((IntKind.wrap .i64 (2 + 1)), y0.2.B_, y0.2.At_, y0.2.Bad_, s0.2.2.2.2.1, s0.2.2.2.2.2.1, (IntKind.wrap .i32 (IntKind.wrap .u32 y0.1)), s0.2.2.2.2.2.2.2.1, s0.2.2.2.2.2.2.2.2.1, s0.2.2.2.2.2.2.2.2.2.1, s0.2.2.2.2.2.2.2.2.2.2))) else (bif (decide (s0.1 = 3)) then (some (.inl ((IntKind.wrap .i64 (3 + 1)), y0.2.B_, y0.2.At_, y0.2.Bad_, s0.2.2.2.2.1, s0.2.2.2.2.2.1, s0.2.2.2.2.2.2.1, (IntKind.wrap .i32 (IntKind.wrap .u32 y0.1)), s0.2.2.2.2.2.2.2.2.1, s0.2.2.2.2.2.2.2.2.2.1, s0.2.2.2.2.2.2.2.2.2.2))) else (bif (decide (s0.1 = 4)) then (some (.inl ((IntKind.wrap .i64 (4 + 1)), y0.2.B_, y0.2.At_, y0.2.Bad_, s0.2.2.2.2.1, s0.2.2.2.2.2.1, s0.2.2.2.2.2.2.1, s0.2.2.2.2.2.2.2.1, (IntKind.wrap .i32 (IntKind.wrap .u32 y0.1)), s0.2.2.2.2.2.2.2.2.2.1, s0.2.2.2.2.2.2.2.2.2.2))) else (bif (decide (s0.1 = 5)) then (some (.inl ((IntKind.wrap .i64 (5 + 1)), y0.2.B_, y0.2.At_, y0.2.Bad_, s0.2.2.2.2.1, s0.2.2.2.2.2.1, s0.2.2.2.2.2.2.1, s0.2.2.2.2.2.2.2.1, s0.2.2.2.2.2.2.2.2.1, (IntKind.wrap .i32 (IntKind.wrap .u32 y0.1)), s0.2.2.2.2.2.2.2.2.2.2))) else (bif (decide (s0.1 = 6)) then (some (.inl ((IntKind.wrap .i64 (6 + 1)), y0.2.B_, y0.2.At_, y0.2.Bad_, s0.2.2.2.2.1, s0.2.2.2.2.2.1, s0.2.2.2.2.2.2.1, s0.2.2.2.2.2.2.2.1, s0.2.2.2.2.2.2.2.2.1, s0.2.2.2.2.2.2.2.2.2.1, (IntKind.wrap .i32 (IntKind.wrap .u32 y0.1))))) else none)))))))) else (some (.inr (s0.2.1, s0.2.2.1, s0.2.2.2.1, s0.2.2.2.2.1, s0.2.2.2.2.2.1, s0.2.2.2.2.2.2.1, s0.2.2.2.2.2.2.2.1, s0.2.2.2.2.2.2.2.2.1, s0.2.2.2.2.2.2.2.2.2.1, s0.2.2.2.2.2.2.2.2.2.2))))) big (0, x0.B_, x0.At_, x0.Bad_, 0, 0, 0, 0, 0, 0, 0)) fun (s1 : (List Int) × Int × Bool × Int × Int × Int × Int × Int × Int × Int) => (some ((⟨s1.2.2.2.1, s1.2.2.2.2.1, s1.2.2.2.2.2.1, s1.2.2.2.2.2.2.1, s1.2.2.2.2.2.2.2.1, s1.2.2.2.2.2.2.2.2.1, s1.2.2.2.2.2.2.2.2.2⟩ : St22), (⟨s1.1, s1.2.1, s1.2.2.1⟩ : St96))))
theorem exergueref16_signs_ok {x0 : St96} {r : St22 × St96} (h : exergueref16_signs x0 = some r) : SC Try.prog 59 [.agg (encSt96 x0)] [] (.tup [.agg (encSt22 r.1), .agg (encSt96 r.2)]) [] := by
 refine kFn (fn := Try.f59) (fun F hFn hFH hFD => ?_)
 unfold exergueref16_signs at h
 refine kSR ?_
 refine kC 3 [1,2,3] ?_
 refine kEN ?_
 refine kSR ?_
 refine kC 3 [1,2,3,4] ?_
 refine kEN ?_
 obtain ⟨s1, hy0, h7⟩ := bindS h
 refine K.cutN (by kernel_rfl) (fun (s1 : (List Int) × Int × Bool × Int × Int × Int × Int × Int × Int × Int) => ([(1, .ptr 0 0), (2, .ptr 1 0), (3, .ptr 2 0), (4, .ptr 3 0)], [.box [lB s1.1, iL s1.2.1, .bool s1.2.2.1], .box [iM 0, iM 0, iM 0, iM 0, iM 0, iM 0, iM 0], .box [.nl, iL 0, .bool false], .box [iM s1.2.2.2.1, iM s1.2.2.2.2.1, iM s1.2.2.2.2.2.1, iM s1.2.2.2.2.2.2.1, iM s1.2.2.2.2.2.2.2.1, iM s1.2.2.2.2.2.2.2.2.1, iM s1.2.2.2.2.2.2.2.2.2]])) s1 ?_ ?_
 ·refine kSR ?_
  refine kC 1 [1,2,3,4,5] ?_
  refine kEN ?_
  refine kb 0 ?_
  refine kl (fun (s0 : Int × (List Int) × Int × Bool × Int × Int × Int × Int × Int × Int × Int) => ([(1, .ptr 0 0), (2, .ptr 1 0), (3, .ptr 2 0), (4, .ptr 3 0), (5, iL s0.1)], [.box [lB s0.2.1, iL s0.2.2.1, .bool s0.2.2.2.1], .box [iM 0, iM 0, iM 0, iM 0, iM 0, iM 0, iM 0], .box [.nl, iL 0, .bool false], .box [iM s0.2.2.2.2.1, iM s0.2.2.2.2.2.1, iM s0.2.2.2.2.2.2.1, iM s0.2.2.2.2.2.2.2.1, iM s0.2.2.2.2.2.2.2.2.1, iM s0.2.2.2.2.2.2.2.2.2.1, iM s0.2.2.2.2.2.2.2.2.2.2]])) hy0 [1, 2, 3, 4, 5] (fun s0 x172 hs0 => ?_)
  refine kS ?_
  refine kSR ?_
  refine kC 2 [1,2,3,4,5,10] ?_
  refine kEN ?_
  refine kBJ 10 hs0 (fun h8 => ?_) (fun h9 => ?_)
  ·refine kT ?_
   refine kK ?_
   refine PJ.next ?_
   refine kS ?_
   refine kb 1 ?_
   refine kSR ?_
   refine kC 1 [1,2,3,4,5,14] ?_
   obtain ⟨y0, hy1, h0⟩ := bindS h8
   refine kA 15 (exergueref16_take_ok hy1) ?_
   refine kC 6 [1,2,3,4,5,6,7] ?_
   refine kEN ?_
   refine kSR ?_
   refine kC 4 [1,2,3,4,5,7,18,21] ?_
   cases hb0 : (decide (s0.1 = 0))
   ·have h1 := condF hb0 h0
    cases hb1 : (decide (s0.1 = 1))
    ·have h2 := condF hb1 h1
     cases hb2 : (decide (s0.1 = 2))
     ·have h3 := condF hb2 h2
      cases hb3 : (decide (s0.1 = 3))
      ·have h4 := condF hb3 h3
       cases hb4 : (decide (s0.1 = 4))
       ·have h5 := condF hb4 h4
        cases hb5 : (decide (s0.1 = 5))
        ·have h6 := condF hb5 h5
         cases hb6 : (decide (s0.1 = 6))
         ·have h10 := condF hb6 h6
          cases h10
         ·have h11 := condT hb6 h6
          refine RJ.pin 18 (kd := .i64) (by kernel_rfl) (of_decide_eq_true hb6) ?_
          refine RJ.pin 5 (kd := .i64) (by kernel_rfl) (of_decide_eq_true hb6) ?_
          refine kC 2 [1,2,3,4,5,7] ?_
          refine kEN ?_
          refine kR ?_
          refine kC 2 [1,2,3,4,5] ?_
          refine kE ?_
          refine PJ.blockNormal ?_
          refine PJ.next ?_
          refine kR ?_
          refine kC 3 [1,2,3,4,5] ?_
          refine kE ?_
          obtain rfl := oi h11
          refine kW (L2 := [(1, .ptr 0 0), (2, .ptr 1 0), (3, .ptr 2 0), (4, .ptr 3 0), (5, iL (IntKind.wrap .i64 (6 + 1)))]) (H2 := [.box (encSt96 y0.2), .box [iM 0, iM 0, iM 0, iM 0, iM 0, iM 0, iM 0], .box [.nl, iL 0, .bool false], .box [iM s0.2.2.2.2.1, iM s0.2.2.2.2.2.1, iM s0.2.2.2.2.2.2.1, iM s0.2.2.2.2.2.2.2.1, iM s0.2.2.2.2.2.2.2.2.1, iM s0.2.2.2.2.2.2.2.2.2.1, iM (IntKind.wrap .i32 (IntKind.wrap .u32 y0.1))]]) hFH hFD [0, 1, 2, 3] ?_
          exact kLN [1, 2, 3, 4, 5]
        ·have h12 := condT hb5 h5
         refine RJ.pin 18 (kd := .i64) (by kernel_rfl) (of_decide_eq_true hb5) ?_
         refine RJ.pin 5 (kd := .i64) (by kernel_rfl) (of_decide_eq_true hb5) ?_
         refine kC 2 [1,2,3,4,5,7] ?_
         refine kEN ?_
         refine kR ?_
         refine kC 2 [1,2,3,4,5] ?_
         refine kE ?_
         refine PJ.blockNormal ?_
         refine PJ.next ?_
         refine kR ?_
         refine kC 3 [1,2,3,4,5] ?_
         refine kE ?_
         obtain rfl := oi h12
         refine kW (L2 := [(1, .ptr 0 0), (2, .ptr 1 0), (3, .ptr 2 0), (4, .ptr 3 0), (5, iL (IntKind.wrap .i64 (5 + 1)))]) (H2 := [.box (encSt96 y0.2), .box [iM 0, iM 0, iM 0, iM 0, iM 0, iM 0, iM 0], .box [.nl, iL 0, .bool false], .box [iM s0.2.2.2.2.1, iM s0.2.2.2.2.2.1, iM s0.2.2.2.2.2.2.1, iM s0.2.2.2.2.2.2.2.1, iM s0.2.2.2.2.2.2.2.2.1, iM (IntKind.wrap .i32 (IntKind.wrap .u32 y0.1)), iM s0.2.2.2.2.2.2.2.2.2.2]]) hFH hFD [0, 1, 2, 3] ?_
         exact kLN [1, 2, 3, 4, 5]
       ·have h13 := condT hb4 h4
        refine RJ.pin 18 (kd := .i64) (by kernel_rfl) (of_decide_eq_true hb4) ?_
        refine RJ.pin 5 (kd := .i64) (by kernel_rfl) (of_decide_eq_true hb4) ?_
        refine kC 2 [1,2,3,4,5,7] ?_
        refine kEN ?_
        refine kR ?_
        refine kC 2 [1,2,3,4,5] ?_
        refine kE ?_
        refine PJ.blockNormal ?_
        refine PJ.next ?_
        refine kR ?_
        refine kC 3 [1,2,3,4,5] ?_
        refine kE ?_
        obtain rfl := oi h13
        refine kW (L2 := [(1, .ptr 0 0), (2, .ptr 1 0), (3, .ptr 2 0), (4, .ptr 3 0), (5, iL (IntKind.wrap .i64 (4 + 1)))]) (H2 := [.box (encSt96 y0.2), .box [iM 0, iM 0, iM 0, iM 0, iM 0, iM 0, iM 0], .box [.nl, iL 0, .bool false], .box [iM s0.2.2.2.2.1, iM s0.2.2.2.2.2.1, iM s0.2.2.2.2.2.2.1, iM s0.2.2.2.2.2.2.2.1, iM (IntKind.wrap .i32 (IntKind.wrap .u32 y0.1)), iM s0.2.2.2.2.2.2.2.2.2.1, iM s0.2.2.2.2.2.2.2.2.2.2]]) hFH hFD [0, 1, 2, 3] ?_
        exact kLN [1, 2, 3, 4, 5]
      ·have h14 := condT hb3 h3
       refine RJ.pin 18 (kd := .i64) (by kernel_rfl) (of_decide_eq_true hb3) ?_
       refine RJ.pin 5 (kd := .i64) (by kernel_rfl) (of_decide_eq_true hb3) ?_
       refine kC 2 [1,2,3,4,5,7] ?_
       refine kEN ?_
       refine kR ?_
       refine kC 2 [1,2,3,4,5] ?_
       refine kE ?_
       refine PJ.blockNormal ?_
       refine PJ.next ?_
       refine kR ?_
       refine kC 3 [1,2,3,4,5] ?_
       refine kE ?_
       obtain rfl := oi h14
       refine kW (L2 := [(1, .ptr 0 0), (2, .ptr 1 0), (3, .ptr 2 0), (4, .ptr 3 0), (5, iL (IntKind.wrap .i64 (3 + 1)))]) (H2 := [.box (encSt96 y0.2), .box [iM 0, iM 0, iM 0, iM 0, iM 0, iM 0, iM 0], .box [.nl, iL 0, .bool false], .box [iM s0.2.2.2.2.1, iM s0.2.2.2.2.2.1, iM s0.2.2.2.2.2.2.1, iM (IntKind.wrap .i32 (IntKind.wrap .u32 y0.1)), iM s0.2.2.2.2.2.2.2.2.1, iM s0.2.2.2.2.2.2.2.2.2.1, iM s0.2.2.2.2.2.2.2.2.2.2]]) hFH hFD [0, 1, 2, 3] ?_
       exact kLN [1, 2, 3, 4, 5]
     ·have h15 := condT hb2 h2
      refine RJ.pin 18 (kd := .i64) (by kernel_rfl) (of_decide_eq_true hb2) ?_
      refine RJ.pin 5 (kd := .i64) (by kernel_rfl) (of_decide_eq_true hb2) ?_
      refine kC 2 [1,2,3,4,5,7] ?_
      refine kEN ?_
      refine kR ?_
      refine kC 2 [1,2,3,4,5] ?_
      refine kE ?_
      refine PJ.blockNormal ?_
      refine PJ.next ?_
      refine kR ?_
      refine kC 3 [1,2,3,4,5] ?_
      refine kE ?_
      obtain rfl := oi h15
      refine kW (L2 := [(1, .ptr 0 0), (2, .ptr 1 0), (3, .ptr 2 0), (4, .ptr 3 0), (5, iL (IntKind.wrap .i64 (2 + 1)))]) (H2 := [.box (encSt96 y0.2), .box [iM 0, iM 0, iM 0, iM 0, iM 0, iM 0, iM 0], .box [.nl, iL 0, .bool false], .box [iM s0.2.2.2.2.1, iM s0.2.2.2.2.2.1, iM (IntKind.wrap .i32 (IntKind.wrap .u32 y0.1)), iM s0.2.2.2.2.2.2.2.1, iM s0.2.2.2.2.2.2.2.2.1, iM s0.2.2.2.2.2.2.2.2.2.1, iM s0.2.2.2.2.2.2.2.2.2.2]]) hFH hFD [0, 1, 2, 3] ?_
      exact kLN [1, 2, 3, 4, 5]
    ·have h16 := condT hb1 h1
     refine RJ.pin 18 (kd := .i64) (by kernel_rfl) (of_decide_eq_true hb1) ?_
     refine RJ.pin 5 (kd := .i64) (by kernel_rfl) (of_decide_eq_true hb1) ?_
     refine kC 2 [1,2,3,4,5,7] ?_
     refine kEN ?_
     refine kR ?_
     refine kC 2 [1,2,3,4,5] ?_
     refine kE ?_
     refine PJ.blockNormal ?_
     refine PJ.next ?_
     refine kR ?_
     refine kC 3 [1,2,3,4,5] ?_
     refine kE ?_
     obtain rfl := oi h16
     refine kW (L2 := [(1, .ptr 0 0), (2, .ptr 1 0), (3, .ptr 2 0), (4, .ptr 3 0), (5, iL (IntKind.wrap .i64 (1 + 1)))]) (H2 := [.box (encSt96 y0.2), .box [iM 0, iM 0, iM 0, iM 0, iM 0, iM 0, iM 0], .box [.nl, iL 0, .bool false], .box [iM s0.2.2.2.2.1, iM (IntKind.wrap .i32 (IntKind.wrap .u32 y0.1)), iM s0.2.2.2.2.2.2.1, iM s0.2.2.2.2.2.2.2.1, iM s0.2.2.2.2.2.2.2.2.1, iM s0.2.2.2.2.2.2.2.2.2.1, iM s0.2.2.2.2.2.2.2.2.2.2]]) hFH hFD [0, 1, 2, 3] ?_
     exact kLN [1, 2, 3, 4, 5]
   ·have h17 := condT hb0 h0
    refine RJ.pin 18 (kd := .i64) (by kernel_rfl) (of_decide_eq_true hb0) ?_
    refine RJ.pin 5 (kd := .i64) (by kernel_rfl) (of_decide_eq_true hb0) ?_
    refine kC 2 [1,2,3,4,5,7] ?_
    refine kEN ?_
    refine kR ?_
    refine kC 2 [1,2,3,4,5] ?_
    refine kE ?_
    refine PJ.blockNormal ?_
    refine PJ.next ?_
    refine kR ?_
    refine kC 3 [1,2,3,4,5] ?_
    refine kE ?_
    obtain rfl := oi h17
    refine kW (L2 := [(1, .ptr 0 0), (2, .ptr 1 0), (3, .ptr 2 0), (4, .ptr 3 0), (5, iL (IntKind.wrap .i64 (0 + 1)))]) (H2 := [.box (encSt96 y0.2), .box [iM 0, iM 0, iM 0, iM 0, iM 0, iM 0, iM 0], .box [.nl, iL 0, .bool false], .box [iM (IntKind.wrap .i32 (IntKind.wrap .u32 y0.1)), iM s0.2.2.2.2.2.1, iM s0.2.2.2.2.2.2.1, iM s0.2.2.2.2.2.2.2.1, iM s0.2.2.2.2.2.2.2.2.1, iM s0.2.2.2.2.2.2.2.2.2.1, iM s0.2.2.2.2.2.2.2.2.2.2]]) hFH hFD [0, 1, 2, 3] ?_
    exact kLN [1, 2, 3, 4, 5]
  ·refine kF ?_
   refine K.exit 0 (by kernel_rfl) ?_
   refine PJ.passExit ?_
   obtain rfl := oi h9
   refine PJ.loopOut (fun e => nomatch e) (fun he0 => ?_)
   have h18 := congrArg some he0
   refine PJ.blockOut ?_
   obtain rfl := oi h18
   exact kN [1, 2, 3, 4]
 ·refine kS ?_
  refine J.keep [1, 2, 3, 4] (L2 := [(1, .ptr 0 0), (2, .ptr 1 0), (3, .ptr 2 0), (4, .ptr 3 0)]) (by kernel_rfl) ?_
  refine K.draw (by kernel_rfl) (by kernel_rfl) (by kernel_rfl) (H2 := [.box [lB s1.1, iL s1.2.1, .bool s1.2.2.1], .box [iM 0, iM 0, iM 0, iM 0, iM 0, iM 0, iM 0], .box [.nl, iL 0, .bool false], .box [iM s1.2.2.2.1, iM s1.2.2.2.2.1, iM s1.2.2.2.2.2.1, iM s1.2.2.2.2.2.2.1, iM s1.2.2.2.2.2.2.2.1, iM s1.2.2.2.2.2.2.2.2.1, iM s1.2.2.2.2.2.2.2.2.2]]) (by kernel_rfl) (n := 4) (by kernel_rfl) ?_
  refine kD 18 ?_
  refine kEN ?_
  refine kX ?_
  obtain rfl := oi h7
  exact kZ hFn hFH hFD
def exergueref16_locale (x0 : List Int) : Option (St28 × Bool) :=
 (Option.bind (exergueref09_TakePool x0 56) fun y2 => (Option.bind (exergueref16_text ((⟨x0, y2.2.1, (decide (¬ y2.2.2 = 0))⟩ : St96)) y2.1) fun y1 => (Option.bind (exergueref16_signs y1.2) fun y0 => (Option.bind (loopN (fun (s1 : Int × (List UInt8) × (List UInt8) × (List UInt8) × (List UInt8) × (List Int) × Int × Bool) => (bif (decide (s1.1 < 4)) then (Option.bind (exergueref16_text (⟨s1.2.2.2.2.2.1, s1.2.2.2.2.2.2.1, s1.2.2.2.2.2.2.2⟩ : St96) y2.1) fun y3 => (bif (decide (s1.1 = 0)) then (some (.inl ((IntKind.wrap .i64 (0 + 1)), y3.1, s1.2.2.1, s1.2.2.2.1, s1.2.2.2.2.1, y3.2.B_, y3.2.At_, y3.2.Bad_))) else (bif (decide (s1.1 = 1)) then (some (.inl ((IntKind.wrap .i64 (1 + 1)), s1.2.1, y3.1, s1.2.2.2.1, s1.2.2.2.2.1, y3.2.B_, y3.2.At_, y3.2.Bad_))) else (bif (decide (s1.1 = 2)) then (some (.inl ((IntKind.wrap .i64 (2 + 1)), s1.2.1, s1.2.2.1, y3.1, s1.2.2.2.2.1, y3.2.B_, y3.2.At_, y3.2.Bad_))) else (bif (decide (s1.1 = 3)) then (some (.inl ((IntKind.wrap .i64 (3 + 1)), s1.2.1, s1.2.2.1, s1.2.2.2.1, y3.1, y3.2.B_, y3.2.At_, y3.2.Bad_))) else none))))) else (some (.inr (s1.2.1, s1.2.2.1, s1.2.2.2.1, s1.2.2.2.2.1, s1.2.2.2.2.2.1, s1.2.2.2.2.2.2.1, s1.2.2.2.2.2.2.2))))) big (0, [], [], [], [], y0.2.B_, y0.2.At_, y0.2.Bad_)) fun (s0 : (List UInt8) × (List UInt8) × (List UInt8) × (List UInt8) × (List Int) × Int × Bool) => (Option.bind (exergueref16_take (⟨s0.2.2.2.2.1, s0.2.2.2.2.2.1, s0.2.2.2.2.2.2⟩ : St96) 2) fun y14 => (Option.bind (loopN (fun (s4 : Int × (List St57) × (List Int) × Int × Bool) => (Option.bind (Option.bind (bif (decide (s4.1 < y14.1)) then (some (!s4.2.2.2.2)) else (some false)) fun (s8 : Bool) => (bif s8 then (some (.inl ())) else (some (.inr (.inr (s4.2.1, s4.2.2.1, s4.2.2.2.1, s4.2.2.2.2)))))) (joinX fun (s11 : Unit) => (Option.bind (exergueref16_take (⟨s4.2.2.1, s4.2.2.2.1, s4.2.2.2.2⟩ : St96) 1) fun y11 => (Option.bind (exergueref16_text y11.2 y2.1) fun y6 => (bif room (s4.2.1.length + ([(⟨y11.1, y6.1⟩ : St57)] : List St57).length) then (some (.inl ((IntKind.wrap .i64 (s4.1 + 1)), (s4.2.1 ++ ([(⟨y11.1, y6.1⟩ : St57)] : List St57)), y6.2.B_, y6.2.At_, y6.2.Bad_))) else none)))))) big (0, ([] : List St57), y14.2.B_, y14.2.At_, y14.2.Bad_)) fun (s5 : (List St57) × (List Int) × Int × Bool) => (Option.bind (exergueref16_take (⟨s5.2.1, s5.2.2.1, s5.2.2.2⟩ : St96) 2) fun y12 => (Option.bind (loopN (fun (s2 : Int × (List St59) × (List Int) × Int × Bool) => (Option.bind (Option.bind (bif (decide (s2.1 < y12.1)) then (some (!s2.2.2.2.2)) else (some false)) fun (s9 : Bool) => (bif s9 then (some (.inl ())) else (some (.inr (.inr (s2.2.1, s2.2.2.1, s2.2.2.2.1, s2.2.2.2.2)))))) (joinX fun (s12 : Unit) => (Option.bind (exergueref16_text (⟨s2.2.2.1, s2.2.2.2.1, s2.2.2.2.2⟩ : St96) y2.1) fun y7 => (Option.bind (exergueref16_text y7.2 y2.1) fun y8 => (Option.bind (exergueref16_take y8.2 1) fun y4 => (bif room (s2.2.1.length + ([(⟨y7.1, y8.1, y4.1⟩ : St59)] : List St59).length) then (some (.inl ((IntKind.wrap .i64 (s2.1 + 1)), (s2.2.1 ++ ([(⟨y7.1, y8.1, y4.1⟩ : St59)] : List St59)), y4.2.B_, y4.2.At_, y4.2.Bad_))) else none))))))) big (0, ([] : List St59), y12.2.B_, y12.2.At_, y12.2.Bad_)) fun (s6 : (List St59) × (List Int) × Int × Bool) => (Option.bind (exergueref16_take (⟨s6.2.1, s6.2.2.1, s6.2.2.2⟩ : St96) 2) fun y13 => (Option.bind (loopN (fun (s3 : Int × (List St61) × (List Int) × Int × Bool) => (Option.bind (Option.bind (bif (decide (s3.1 < y13.1)) then (some (!s3.2.2.2.2)) else (some false)) fun (s10 : Bool) => (bif s10 then (some (.inl ())) else (some (.inr (.inr (s3.2.1, s3.2.2.1, s3.2.2.2.1, s3.2.2.2.2)))))) (joinX fun (s13 : Unit) => (Option.bind (exergueref16_take (⟨s3.2.2.1, s3.2.2.2.1, s3.2.2.2.2⟩ : St96) 1) fun y9 => (Option.bind (exergueref16_take y9.2 1) fun y10 => (Option.bind (exergueref16_text y10.2 y2.1) fun y5 => (bif room (s3.2.1.length + ([(⟨y9.1, y10.1, y5.1⟩ : St61)] : List St61).length) then (some (.inl ((IntKind.wrap .i64 (s3.1 + 1)), (s3.2.1 ++ ([(⟨y9.1, y10.1, y5.1⟩ : St61)] : List St61)), y5.2.B_, y5.2.At_, y5.2.Bad_))) else none))))))) big (0, ([] : List St61), y13.2.B_, y13.2.At_, y13.2.Bad_)) fun (s7 : (List St61) × (List Int) × Int × Bool) => (some ((⟨y1.1, y0.1, (⟨s0.1, s0.2.1, s0.2.2.1, s0.2.2.2.1⟩ : St24), s5.1, s6.1, s7.1⟩ : St28), (!s7.2.2.2)))))))))))))
theorem exergueref16_locale_ok {x0 : List Int} {r : St28 × Bool} (h : exergueref16_locale x0 = some r) : SC Try.prog 41 [lB x0] [] (.tup [.agg (encSt28 r.1), .bool r.2]) [] := by
 refine kFn (fn := Try.f41) (fun F hFn hFH hFD => ?_)
 unfold exergueref16_locale at h
 refine kSR ?_
 refine kC 2 [0,2,3] ?_
 refine kEN ?_
 refine kSR ?_
 refine kC 3 [0,2,3,4] ?_
 refine kEN ?_
 refine kSR ?_
 refine kC 1 [0,2,3,4,42] ?_
 obtain ⟨y2, hy0, h7⟩ := bindS h
 refine kA 43 (exergueref09_TakePool_ok hy0) ?_
 refine kC 7 [0,2,3,4,5,6,7] ?_
 refine kEN ?_
 refine kSR ?_
 refine kC 6 [2,3,4,5,52,53] ?_
 obtain ⟨y1, hy1, h8⟩ := bindS h7
 refine kA 54 (exergueref16_text_ok hy1) ?_
 refine kC 6 [2,3,4,5,8,9] ?_
 refine kEN ?_
 refine kSR ?_
 refine kC 1 [2,3,4,5,8,58] ?_
 obtain ⟨y0, hy2, h9⟩ := bindS h8
 refine kA 59 (exergueref16_signs_ok hy2) ?_
 refine kC 7 [2,3,4,5,8,10,11] ?_
 refine kEN ?_
 refine kSR ?_
 refine RJ.seg 3 [2, 3, 4, 5, 10, 11] (L2 := [(2, .ptr 0 0), (3, .bool false), (4, .ptr 1 0), (5, lT y2.1), (10, .ptr 3 0), (11, .ptr 4 0)]) (H2 := [.box (q12 [] 0 0 0 0 0 0 0 [] [] [] [] [.nl, .nl, .nl]), .box (q12 y1.1 0 0 0 0 0 0 0 [] [] [] [] [.nl, .nl, .nl]), .box (encSt96 y1.2), .box (encSt22 y0.1), .box (encSt96 y0.2)]) (by kernel_rfl) ?_
 refine kEN ?_
 refine kSR ?_
 refine kC 3 [2,3,4,5,11] ?_
 refine kEN ?_
 obtain ⟨s0, hy3, h10⟩ := bindS h9
 refine K.cutN (by kernel_rfl) (fun (s0 : (List UInt8) × (List UInt8) × (List UInt8) × (List UInt8) × (List Int) × Int × Bool) => ([(2, .ptr 0 0), (3, .bool false), (4, .ptr 1 0), (5, lT y2.1), (11, .ptr 2 0)], [.box (q12 [] 0 0 0 0 0 0 0 [] [] [] [] [.nl, .nl, .nl]), .box (q12 y1.1 y0.1.Zero_ y0.1.Dec_ y0.1.Group_ y0.1.Minus_ y0.1.Plus_ y0.1.Percent_ y0.1.Exp_ s0.1 s0.2.1 s0.2.2.1 s0.2.2.2.1 [.nl, .nl, .nl]), .box [lB s0.2.2.2.2.1, iL s0.2.2.2.2.2.1, .bool s0.2.2.2.2.2.2]])) s0 ?_ ?_
 ·refine kSR ?_
  refine kC 1 [2,3,4,5,11,12] ?_
  refine kEN ?_
  refine kb 0 ?_
  refine J.wk (Wk.sel (L2 := [(2, .ptr 0 0), (3, .bool false), (4, .ptr 1 0), (5, lT y2.1), (11, .ptr 2 0), (12, iL 0)]) (H2 := [.box (q12 [] 0 0 0 0 0 0 0 [] [] [] [] [.nl, .nl, .nl]), .box (q12 y1.1 y0.1.Zero_ y0.1.Dec_ y0.1.Group_ y0.1.Minus_ y0.1.Plus_ y0.1.Percent_ y0.1.Exp_ [] [] [] [] [.nl, .nl, .nl]), .box (encSt96 y0.2)]) 0 (by rw [hFH]; rfl) hFD [0, 1, 4] (by kernel_rfl) (by kernel_rfl) (by decide) (by kernel_rfl) (by kernel_rfl) (by kernel_rfl) (by kernel_rfl)) ?_
  refine kl (fun (s1 : Int × (List UInt8) × (List UInt8) × (List UInt8) × (List UInt8) × (List Int) × Int × Bool) => ([(2, .ptr 0 0), (3, .bool false), (4, .ptr 1 0), (5, lT y2.1), (11, .ptr 2 0), (12, iL s1.1)], [.box (q12 [] 0 0 0 0 0 0 0 [] [] [] [] [.nl, .nl, .nl]), .box (q12 y1.1 y0.1.Zero_ y0.1.Dec_ y0.1.Group_ y0.1.Minus_ y0.1.Plus_ y0.1.Percent_ y0.1.Exp_ s1.2.1 s1.2.2.1 s1.2.2.2.1 s1.2.2.2.2.1 [.nl, .nl, .nl]), .box [lB s1.2.2.2.2.2.1, iL s1.2.2.2.2.2.2.1, .bool s1.2.2.2.2.2.2.2]])) hy3 [2, 3, 4, 5, 11, 12] (fun s1 x136 hs0 => ?_)
  refine kS ?_
  refine kSR ?_
  refine kC 2 [2,3,4,5,11,12,67] ?_
  refine kEN ?_
  refine kBJ 67 hs0 (fun h11 => ?_) (fun h12 => ?_)
  ·refine kT ?_
   refine kK ?_
   refine PJ.next ?_
   refine kS ?_
   refine kb 1 ?_
   refine kSR ?_
   refine kC 2 [2,3,4,5,11,12,71,72] ?_
   obtain ⟨y3, hy4, h0⟩ := bindS h11
   refine kA 73 (exergueref16_text_ok hy4) ?_
   refine kC 6 [2,3,4,5,11,12,13,14] ?_
   refine kEN ?_
   refine kSR ?_
   refine kC 3 [2,3,4,5,11,12,14,76,77,78] ?_
   cases hb0 : (decide (s1.1 = 0))
   ·have h1 := condF hb0 h0
    cases hb1 : (decide (s1.1 = 1))
    ·have h2 := condF hb1 h1
     cases hb2 : (decide (s1.1 = 2))
     ·have h3 := condF hb2 h2
      cases hb3 : (decide (s1.1 = 3))
      ·have h13 := condF hb3 h3
       cases h13
      ·have h14 := condT hb3 h3
       refine RJ.pin 76 (kd := .i64) (by kernel_rfl) (of_decide_eq_true hb3) ?_
       refine RJ.pin 12 (kd := .i64) (by kernel_rfl) (of_decide_eq_true hb3) ?_
       refine kC 2 [2,3,4,5,11,12,14] ?_
       refine kEN ?_
       refine kR ?_
       refine kC 2 [2,3,4,5,11,12] ?_
       refine kE ?_
       refine PJ.blockNormal ?_
       refine PJ.next ?_
       refine kR ?_
       refine kC 3 [2,3,4,5,11,12] ?_
       refine kE ?_
       obtain rfl := oi h14
       refine kW (L2 := [(2, .ptr 0 0), (3, .bool false), (4, .ptr 1 0), (5, lT y2.1), (11, .ptr 2 0), (12, iL (IntKind.wrap .i64 (3 + 1)))]) (H2 := [.box (q12 [] 0 0 0 0 0 0 0 [] [] [] [] [.nl, .nl, .nl]), .box (q12 y1.1 y0.1.Zero_ y0.1.Dec_ y0.1.Group_ y0.1.Minus_ y0.1.Plus_ y0.1.Percent_ y0.1.Exp_ s1.2.1 s1.2.2.1 s1.2.2.2.1 y3.1 [.nl, .nl, .nl]), .box (encSt96 y3.2)]) hFH hFD [0, 1, 2] ?_
       exact kLN [2, 3, 4, 5, 11, 12]
     ·have h15 := condT hb2 h2
      refine RJ.pin 76 (kd := .i64) (by kernel_rfl) (of_decide_eq_true hb2) ?_
      refine RJ.pin 12 (kd := .i64) (by kernel_rfl) (of_decide_eq_true hb2) ?_
      refine kC 2 [2,3,4,5,11,12,14] ?_
      refine kEN ?_
      refine kR ?_
      refine kC 2 [2,3,4,5,11,12] ?_
      refine kE ?_
      refine PJ.blockNormal ?_
      refine PJ.next ?_
      refine kR ?_
      refine kC 3 [2,3,4,5,11,12] ?_
      refine kE ?_
      obtain rfl := oi h15
      refine kW (L2 := [(2, .ptr 0 0), (3, .bool false), (4, .ptr 1 0), (5, lT y2.1), (11, .ptr 2 0), (12, iL (IntKind.wrap .i64 (2 + 1)))]) (H2 := [.box (q12 [] 0 0 0 0 0 0 0 [] [] [] [] [.nl, .nl, .nl]), .box (q12 y1.1 y0.1.Zero_ y0.1.Dec_ y0.1.Group_ y0.1.Minus_ y0.1.Plus_ y0.1.Percent_ y0.1.Exp_ s1.2.1 s1.2.2.1 y3.1 s1.2.2.2.2.1 [.nl, .nl, .nl]), .box (encSt96 y3.2)]) hFH hFD [0, 1, 2] ?_
      exact kLN [2, 3, 4, 5, 11, 12]
    ·have h16 := condT hb1 h1
     refine RJ.pin 76 (kd := .i64) (by kernel_rfl) (of_decide_eq_true hb1) ?_
     refine RJ.pin 12 (kd := .i64) (by kernel_rfl) (of_decide_eq_true hb1) ?_
     refine kC 2 [2,3,4,5,11,12,14] ?_
     refine kEN ?_
     refine kR ?_
     refine kC 2 [2,3,4,5,11,12] ?_
     refine kE ?_
     refine PJ.blockNormal ?_
     refine PJ.next ?_
     refine kR ?_
     refine kC 3 [2,3,4,5,11,12] ?_
     refine kE ?_
     obtain rfl := oi h16
     refine kW (L2 := [(2, .ptr 0 0), (3, .bool false), (4, .ptr 1 0), (5, lT y2.1), (11, .ptr 2 0), (12, iL (IntKind.wrap .i64 (1 + 1)))]) (H2 := [.box (q12 [] 0 0 0 0 0 0 0 [] [] [] [] [.nl, .nl, .nl]), .box (q12 y1.1 y0.1.Zero_ y0.1.Dec_ y0.1.Group_ y0.1.Minus_ y0.1.Plus_ y0.1.Percent_ y0.1.Exp_ s1.2.1 y3.1 s1.2.2.2.1 s1.2.2.2.2.1 [.nl, .nl, .nl]), .box (encSt96 y3.2)]) hFH hFD [0, 1, 2] ?_
     exact kLN [2, 3, 4, 5, 11, 12]
   ·have h17 := condT hb0 h0
    refine RJ.pin 76 (kd := .i64) (by kernel_rfl) (of_decide_eq_true hb0) ?_
    refine RJ.pin 12 (kd := .i64) (by kernel_rfl) (of_decide_eq_true hb0) ?_
    refine kC 2 [2,3,4,5,11,12,14] ?_
    refine kEN ?_
    refine kR ?_
    refine kC 2 [2,3,4,5,11,12] ?_
    refine kE ?_
    refine PJ.blockNormal ?_
    refine PJ.next ?_
    refine kR ?_
    refine kC 3 [2,3,4,5,11,12] ?_
    refine kE ?_
    obtain rfl := oi h17
    refine kW (L2 := [(2, .ptr 0 0), (3, .bool false), (4, .ptr 1 0), (5, lT y2.1), (11, .ptr 2 0), (12, iL (IntKind.wrap .i64 (0 + 1)))]) (H2 := [.box (q12 [] 0 0 0 0 0 0 0 [] [] [] [] [.nl, .nl, .nl]), .box (q12 y1.1 y0.1.Zero_ y0.1.Dec_ y0.1.Group_ y0.1.Minus_ y0.1.Plus_ y0.1.Percent_ y0.1.Exp_ y3.1 s1.2.2.1 s1.2.2.2.1 s1.2.2.2.2.1 [.nl, .nl, .nl]), .box (encSt96 y3.2)]) hFH hFD [0, 1, 2] ?_
    exact kLN [2, 3, 4, 5, 11, 12]
  ·refine kF ?_
   refine K.exit 0 (by kernel_rfl) ?_
   refine PJ.passExit ?_
   obtain rfl := oi h12
   refine PJ.loopOut (fun e => nomatch e) (fun he0 => ?_)
   have h18 := congrArg some he0
   refine PJ.blockOut ?_
   obtain rfl := oi h18
   exact kN [2, 3, 4, 5, 11]
 ·refine kSR ?_
  refine kC 1 [2,3,4,5,82] ?_
  obtain ⟨y14, hy5, h19⟩ := bindS h10
  refine kA 83 (exergueref16_take_ok hy5) ?_
  refine kC 6 [2,3,4,5,15,16] ?_
  refine kEN ?_
  obtain ⟨s5, hy6, h20⟩ := bindS h19
  refine K.cutN (by kernel_rfl) (fun (s5 : (List St57) × (List Int) × Int × Bool) => ([(2, .ptr 0 0), (3, .bool false), (4, .ptr 1 0), (5, lT y2.1), (16, .ptr 3 0)], [.box (q12 [] 0 0 0 0 0 0 0 [] [] [] [] [.nl, .nl, .nl]), .box (q12 y1.1 y0.1.Zero_ y0.1.Dec_ y0.1.Group_ y0.1.Minus_ y0.1.Plus_ y0.1.Percent_ y0.1.Exp_ s0.1 s0.2.1 s0.2.2.1 s0.2.2.2.1 [.vc 2, .nl, .nl]), vecL encSt57 2 58 s5.1, .box [lB s5.2.1, iL s5.2.2.1, .bool s5.2.2.2]])) s5 ?_ ?_
  ·refine kSR ?_
   refine kC 1 [2,3,4,5,15,16,17] ?_
   refine kEN ?_
   refine kb 2 ?_
   refine J.wk (Wk.vivBox 1 12 2 58 (cs := (q12 y1.1 y0.1.Zero_ y0.1.Dec_ y0.1.Group_ y0.1.Minus_ y0.1.Plus_ y0.1.Percent_ y0.1.Exp_ s0.1 s0.2.1 s0.2.2.1 s0.2.2.2.1 [.nl, .nl, .nl])) (by kernel_rfl) (by kernel_rfl)) ?_
   refine J.wk (Wk.sel (L2 := [(2, .ptr 0 0), (3, .bool false), (4, .ptr 1 0), (5, lT y2.1), (15, iL y14.1), (16, .ptr 3 0), (17, iL 0)]) (H2 := [.box (q12 [] 0 0 0 0 0 0 0 [] [] [] [] [.nl, .nl, .nl]), .box (q12 y1.1 y0.1.Zero_ y0.1.Dec_ y0.1.Group_ y0.1.Minus_ y0.1.Plus_ y0.1.Percent_ y0.1.Exp_ s0.1 s0.2.1 s0.2.2.1 s0.2.2.2.1 [.vc 2, .nl, .nl]), vecL encSt57 2 58 ([] : List St57), .box (encSt96 y14.2)]) 0 (by rw [hFH]; rfl) hFD [0, 1, 4, 3] (by kernel_rfl) (by kernel_rfl) (by decide) (by kernel_rfl) (by kernel_rfl) (by kernel_rfl) (by kernel_rfl)) ?_
   refine kl (fun (s4 : Int × (List St57) × (List Int) × Int × Bool) => ([(2, .ptr 0 0), (3, .bool false), (4, .ptr 1 0), (5, lT y2.1), (15, iL y14.1), (16, .ptr 3 0), (17, iL s4.1)], [.box (q12 [] 0 0 0 0 0 0 0 [] [] [] [] [.nl, .nl, .nl]), .box (q12 y1.1 y0.1.Zero_ y0.1.Dec_ y0.1.Group_ y0.1.Minus_ y0.1.Plus_ y0.1.Percent_ y0.1.Exp_ s0.1 s0.2.1 s0.2.2.1 s0.2.2.2.1 [.vc 2, .nl, .nl]), vecL encSt57 2 58 s4.2.1, .box [lB s4.2.2.1, iL s4.2.2.2.1, .bool s4.2.2.2.2]])) hy6 [2, 3, 4, 5, 15, 16, 17] (fun s4 x400 hs1 => ?_)
   obtain ⟨y15, hy7, h4⟩ := bindS hs1
   refine K.cutX (by kernel_rfl) (fun (s11 : Unit) => ([(2, .ptr 0 0), (3, .bool false), (4, .ptr 1 0), (5, lT y2.1), (15, iL y14.1), (16, .ptr 3 0), (17, iL s4.1)], [.box (q12 [] 0 0 0 0 0 0 0 [] [] [] [] [.nl, .nl, .nl]), .box (q12 y1.1 y0.1.Zero_ y0.1.Dec_ y0.1.Group_ y0.1.Minus_ y0.1.Plus_ y0.1.Percent_ y0.1.Exp_ s0.1 s0.2.1 s0.2.2.1 s0.2.2.2.1 [.vc 2, .nl, .nl]), vecL encSt57 2 58 s4.2.1, .box [lB s4.2.2.1, iL s4.2.2.2.1, .bool s4.2.2.2.2]])) y15 ?_ (fun s11 hs => ?_)
   ·obtain ⟨s8, hy8, h21⟩ := bindS hy7
    refine K.cutN (by kernel_rfl) (fun (s8 : Bool) => ([(2, .ptr 0 0), (3, .bool false), (4, .ptr 1 0), (5, lT y2.1), (15, iL y14.1), (16, .ptr 3 0), (17, iL s4.1), (93, .bool s8)], [.box (q12 [] 0 0 0 0 0 0 0 [] [] [] [] [.nl, .nl, .nl]), .box (q12 y1.1 y0.1.Zero_ y0.1.Dec_ y0.1.Group_ y0.1.Minus_ y0.1.Plus_ y0.1.Percent_ y0.1.Exp_ s0.1 s0.2.1 s0.2.2.1 s0.2.2.2.1 [.vc 2, .nl, .nl]), vecL encSt57 2 58 s4.2.1, .box [lB s4.2.2.1, iL s4.2.2.2.1, .bool s4.2.2.2.2]])) s8 ?_ ?_
    ·refine kR ?_
     refine kC 4 [2,3,4,5,15,16,17,89] ?_
     refine kB 89 hy8 (fun h22 => ?_) (fun h23 => ?_)
     ·refine kC 4 [2,3,4,5,15,16,17,93] ?_
      refine kE ?_
      obtain rfl := oi h22
      exact kN [2, 3, 4, 5, 15, 16, 17, 93]
     ·refine kC 4 [2,3,4,5,15,16,17,93] ?_
      refine kE ?_
      obtain rfl := oi h23
      exact kN [2, 3, 4, 5, 15, 16, 17, 93]
    ·refine kBJ 93 h21 (fun h24 => ?_) (fun h25 => ?_)
     ·refine kT ?_
      refine kK ?_
      obtain rfl := oi h24
      exact kXl [2, 3, 4, 5, 15, 16, 17]
     ·refine kF ?_
      refine K.exit 2 (by kernel_rfl) ?_
      obtain rfl := oi h25
      have h26 := joinX_inr h4
      refine PJ.cutXr (fun e => nomatch e) ?_
      obtain rfl := oi h26
      refine PJ.loopOut (fun e => nomatch e) (fun he1 => ?_)
      have h27 := congrArg some he1
      refine PJ.blockOut ?_
      obtain rfl := oi h27
      exact kN [2, 3, 4, 5, 16]
   ·subst hs
    have h28 := joinX_inl h4
    refine kS ?_
    refine kb 3 ?_
    refine kSR ?_
    refine kC 1 [2,3,4,5,15,16,17,97] ?_
    obtain ⟨y11, hy9, h29⟩ := bindS h28
    refine kA 98 (exergueref16_take_ok hy9) ?_
    refine kC 6 [2,3,4,5,15,16,17,18,19] ?_
    refine kEN ?_
    refine kSR ?_
    refine kC 2 [2,3,4,5,15,16,17,18,102,103] ?_
    obtain ⟨y6, hy10, h30⟩ := bindS h29
    refine kA 104 (exergueref16_text_ok hy10) ?_
    refine kC 6 [2,3,4,5,15,16,17,18,20,21] ?_
    refine kEN ?_
    refine kSR ?_
    refine kC 6 [2,3,4,5,15,16,17,21,108,112] ?_
    obtain ⟨hm, h31⟩ := asrt h30
    refine RJ.rel (d := (some 113)) (ef := ⟨.vc 7, [2, 6], [(2, .gone), (7, .vec (s4.2.1.length + ([(⟨y11.1, y6.1⟩ : St57)] : List St57).length) 2 58 (s4.2.1.flatMap encSt57 ++ ([(⟨y11.1, y6.1⟩ : St57)] : List St57).flatMap encSt57))]⟩) (ef' := ⟨.vc 7, [2, 6], [(2, .gone), (7, vecL encSt57 2 58 (s4.2.1 ++ ([(⟨y11.1, y6.1⟩ : St57)] : List St57)))]⟩) (c := room (s4.2.1.length + ([(⟨y11.1, y6.1⟩ : St57)] : List St57).length)) (tr2 := []) (H2 := [.box (q12 [] 0 0 0 0 0 0 0 [] [] [] [] [.nl, .nl, .nl]), .box (q12 y1.1 y0.1.Zero_ y0.1.Dec_ y0.1.Group_ y0.1.Minus_ y0.1.Plus_ y0.1.Percent_ y0.1.Exp_ s0.1 s0.2.1 s0.2.2.1 s0.2.2.2.1 [.vc 2, .nl, .nl]), .gone, .box [lB s4.2.2.1, iL s4.2.2.2.1, .bool s4.2.2.2.2], .box (encSt96 y11.2), .box (encSt96 y6.2), vecL encSt57 2 58 ([(⟨y11.1, y6.1⟩ : St57)] : List St57), vecL encSt57 2 58 ((s4.2.1 ++ ([(⟨y11.1, y6.1⟩ : St57)] : List St57)))]) (by kernel_rfl) hm (fun hc => N.app) (by kernel_rfl) ?_
    refine kC 2 [2,3,4,5,15,16,17,21] ?_
    refine kEN ?_
    refine kR ?_
    refine kC 2 [2,3,4,5,15,16,17] ?_
    refine kE ?_
    refine PJ.blockNormal ?_
    refine PJ.next ?_
    refine kR ?_
    refine kC 3 [2,3,4,5,15,16,17] ?_
    refine kE ?_
    obtain rfl := oi h31
    refine kW (L2 := [(2, .ptr 0 0), (3, .bool false), (4, .ptr 1 0), (5, lT y2.1), (15, iL y14.1), (16, .ptr 3 0), (17, iL (IntKind.wrap .i64 (s4.1 + 1)))]) (H2 := [.box (q12 [] 0 0 0 0 0 0 0 [] [] [] [] [.nl, .nl, .nl]), .box (q12 y1.1 y0.1.Zero_ y0.1.Dec_ y0.1.Group_ y0.1.Minus_ y0.1.Plus_ y0.1.Percent_ y0.1.Exp_ s0.1 s0.2.1 s0.2.2.1 s0.2.2.2.1 [.vc 2, .nl, .nl]), vecL encSt57 2 58 ((s4.2.1 ++ ([(⟨y11.1, y6.1⟩ : St57)] : List St57))), .box (encSt96 y6.2)]) hFH hFD [0, 1, 7, 3] ?_
    exact kLN [2, 3, 4, 5, 15, 16, 17]
  ·refine kSR ?_
   refine kC 1 [2,3,4,5,117] ?_
   obtain ⟨y12, hy11, h32⟩ := bindS h20
   refine kA 118 (exergueref16_take_ok hy11) ?_
   refine kC 6 [2,3,4,5,22,23] ?_
   refine kEN ?_
   obtain ⟨s6, hy12, h33⟩ := bindS h32
   refine K.cutN (by kernel_rfl) (fun (s6 : (List St59) × (List Int) × Int × Bool) => ([(2, .ptr 0 0), (3, .bool false), (4, .ptr 1 0), (5, lT y2.1), (23, .ptr 4 0)], [.box (q12 [] 0 0 0 0 0 0 0 [] [] [] [] [.nl, .nl, .nl]), .box (q12 y1.1 y0.1.Zero_ y0.1.Dec_ y0.1.Group_ y0.1.Minus_ y0.1.Plus_ y0.1.Percent_ y0.1.Exp_ s0.1 s0.2.1 s0.2.2.1 s0.2.2.2.1 [.vc 2, .vc 3, .nl]), vecL encSt57 2 58 s5.1, vecL encSt59 3 60 s6.1, .box [lB s6.2.1, iL s6.2.2.1, .bool s6.2.2.2]])) s6 ?_ ?_
   ·refine kSR ?_
    refine kC 1 [2,3,4,5,22,23,24] ?_
    refine kEN ?_
    refine kb 4 ?_
    refine J.wk (Wk.vivBox 1 13 3 60 (cs := (q12 y1.1 y0.1.Zero_ y0.1.Dec_ y0.1.Group_ y0.1.Minus_ y0.1.Plus_ y0.1.Percent_ y0.1.Exp_ s0.1 s0.2.1 s0.2.2.1 s0.2.2.2.1 [.vc 2, .nl, .nl])) (by kernel_rfl) (by kernel_rfl)) ?_
    refine J.wk (Wk.sel (L2 := [(2, .ptr 0 0), (3, .bool false), (4, .ptr 1 0), (5, lT y2.1), (22, iL y12.1), (23, .ptr 4 0), (24, iL 0)]) (H2 := [.box (q12 [] 0 0 0 0 0 0 0 [] [] [] [] [.nl, .nl, .nl]), .box (q12 y1.1 y0.1.Zero_ y0.1.Dec_ y0.1.Group_ y0.1.Minus_ y0.1.Plus_ y0.1.Percent_ y0.1.Exp_ s0.1 s0.2.1 s0.2.2.1 s0.2.2.2.1 [.vc 2, .vc 3, .nl]), vecL encSt57 2 58 s5.1, vecL encSt59 3 60 ([] : List St59), .box (encSt96 y12.2)]) 0 (by rw [hFH]; rfl) hFD [0, 1, 2, 5, 4] (by kernel_rfl) (by kernel_rfl) (by decide) (by kernel_rfl) (by kernel_rfl) (by kernel_rfl) (by kernel_rfl)) ?_
    refine kl (fun (s2 : Int × (List St59) × (List Int) × Int × Bool) => ([(2, .ptr 0 0), (3, .bool false), (4, .ptr 1 0), (5, lT y2.1), (22, iL y12.1), (23, .ptr 4 0), (24, iL s2.1)], [.box (q12 [] 0 0 0 0 0 0 0 [] [] [] [] [.nl, .nl, .nl]), .box (q12 y1.1 y0.1.Zero_ y0.1.Dec_ y0.1.Group_ y0.1.Minus_ y0.1.Plus_ y0.1.Percent_ y0.1.Exp_ s0.1 s0.2.1 s0.2.2.1 s0.2.2.2.1 [.vc 2, .vc 3, .nl]), vecL encSt57 2 58 s5.1, vecL encSt59 3 60 s2.2.1, .box [lB s2.2.2.1, iL s2.2.2.2.1, .bool s2.2.2.2.2]])) hy12 [2, 3, 4, 5, 22, 23, 24] (fun s2 x705 hs2 => ?_)
    obtain ⟨y16, hy13, h5⟩ := bindS hs2
    refine K.cutX (by kernel_rfl) (fun (s12 : Unit) => ([(2, .ptr 0 0), (3, .bool false), (4, .ptr 1 0), (5, lT y2.1), (22, iL y12.1), (23, .ptr 4 0), (24, iL s2.1)], [.box (q12 [] 0 0 0 0 0 0 0 [] [] [] [] [.nl, .nl, .nl]), .box (q12 y1.1 y0.1.Zero_ y0.1.Dec_ y0.1.Group_ y0.1.Minus_ y0.1.Plus_ y0.1.Percent_ y0.1.Exp_ s0.1 s0.2.1 s0.2.2.1 s0.2.2.2.1 [.vc 2, .vc 3, .nl]), vecL encSt57 2 58 s5.1, vecL encSt59 3 60 s2.2.1, .box [lB s2.2.2.1, iL s2.2.2.2.1, .bool s2.2.2.2.2]])) y16 ?_ (fun s12 hs => ?_)
    ·obtain ⟨s9, hy14, h34⟩ := bindS hy13
     refine K.cutN (by kernel_rfl) (fun (s9 : Bool) => ([(2, .ptr 0 0), (3, .bool false), (4, .ptr 1 0), (5, lT y2.1), (22, iL y12.1), (23, .ptr 4 0), (24, iL s2.1), (128, .bool s9)], [.box (q12 [] 0 0 0 0 0 0 0 [] [] [] [] [.nl, .nl, .nl]), .box (q12 y1.1 y0.1.Zero_ y0.1.Dec_ y0.1.Group_ y0.1.Minus_ y0.1.Plus_ y0.1.Percent_ y0.1.Exp_ s0.1 s0.2.1 s0.2.2.1 s0.2.2.2.1 [.vc 2, .vc 3, .nl]), vecL encSt57 2 58 s5.1, vecL encSt59 3 60 s2.2.1, .box [lB s2.2.2.1, iL s2.2.2.2.1, .bool s2.2.2.2.2]])) s9 ?_ ?_
     ·refine kR ?_
      refine kC 4 [2,3,4,5,22,23,24,124] ?_
      refine kB 124 hy14 (fun h35 => ?_) (fun h36 => ?_)
      ·refine kC 4 [2,3,4,5,22,23,24,128] ?_
       refine kE ?_
       obtain rfl := oi h35
       exact kN [2, 3, 4, 5, 22, 23, 24, 128]
      ·refine kC 4 [2,3,4,5,22,23,24,128] ?_
       refine kE ?_
       obtain rfl := oi h36
       exact kN [2, 3, 4, 5, 22, 23, 24, 128]
     ·refine kBJ 128 h34 (fun h37 => ?_) (fun h38 => ?_)
      ·refine kT ?_
       refine kK ?_
       obtain rfl := oi h37
       exact kXl [2, 3, 4, 5, 22, 23, 24]
      ·refine kF ?_
       refine K.exit 4 (by kernel_rfl) ?_
       obtain rfl := oi h38
       have h39 := joinX_inr h5
       refine PJ.cutXr (fun e => nomatch e) ?_
       obtain rfl := oi h39
       refine PJ.loopOut (fun e => nomatch e) (fun he2 => ?_)
       have h40 := congrArg some he2
       refine PJ.blockOut ?_
       obtain rfl := oi h40
       exact kN [2, 3, 4, 5, 23]
    ·subst hs
     have h41 := joinX_inl h5
     refine kS ?_
     refine kb 5 ?_
     refine kSR ?_
     refine kC 2 [2,3,4,5,22,23,24,132,133] ?_
     obtain ⟨y7, hy15, h42⟩ := bindS h41
     refine kA 134 (exergueref16_text_ok hy15) ?_
     refine kC 6 [2,3,4,5,22,23,24,25,26] ?_
     refine kEN ?_
     refine kSR ?_
     refine kC 2 [2,3,4,5,22,23,24,25,138,139] ?_
     obtain ⟨y8, hy16, h43⟩ := bindS h42
     refine kA 140 (exergueref16_text_ok hy16) ?_
     refine kC 6 [2,3,4,5,22,23,24,25,27,28] ?_
     refine kEN ?_
     refine kSR ?_
     refine kC 1 [2,3,4,5,22,23,24,25,27,144] ?_
     obtain ⟨y4, hy17, h44⟩ := bindS h43
     refine kA 145 (exergueref16_take_ok hy17) ?_
     refine kC 6 [2,3,4,5,22,23,24,25,27,29,30] ?_
     refine kEN ?_
     refine kSR ?_
     refine kC 7 [2,3,4,5,22,23,24,30,149,154] ?_
     obtain ⟨hm, h45⟩ := asrt h44
     refine RJ.rel (d := (some 155)) (ef := ⟨.vc 9, [3, 8], [(3, .gone), (9, .vec (s2.2.1.length + ([(⟨y7.1, y8.1, y4.1⟩ : St59)] : List St59).length) 3 60 (s2.2.1.flatMap encSt59 ++ ([(⟨y7.1, y8.1, y4.1⟩ : St59)] : List St59).flatMap encSt59))]⟩) (ef' := ⟨.vc 9, [3, 8], [(3, .gone), (9, vecL encSt59 3 60 (s2.2.1 ++ ([(⟨y7.1, y8.1, y4.1⟩ : St59)] : List St59)))]⟩) (c := room (s2.2.1.length + ([(⟨y7.1, y8.1, y4.1⟩ : St59)] : List St59).length)) (tr2 := []) (H2 := [.box (q12 [] 0 0 0 0 0 0 0 [] [] [] [] [.nl, .nl, .nl]), .box (q12 y1.1 y0.1.Zero_ y0.1.Dec_ y0.1.Group_ y0.1.Minus_ y0.1.Plus_ y0.1.Percent_ y0.1.Exp_ s0.1 s0.2.1 s0.2.2.1 s0.2.2.2.1 [.vc 2, .vc 3, .nl]), vecL encSt57 2 58 s5.1, .gone, .box [lB s2.2.2.1, iL s2.2.2.2.1, .bool s2.2.2.2.2], .box (encSt96 y7.2), .box (encSt96 y8.2), .box (encSt96 y4.2), vecL encSt59 3 60 ([(⟨y7.1, y8.1, y4.1⟩ : St59)] : List St59), vecL encSt59 3 60 ((s2.2.1 ++ ([(⟨y7.1, y8.1, y4.1⟩ : St59)] : List St59)))]) (by kernel_rfl) hm (fun hc => N.app) (by kernel_rfl) ?_
     refine kC 2 [2,3,4,5,22,23,24,30] ?_
     refine kEN ?_
     refine kR ?_
     refine RJ.seg 2 [2, 3, 4, 5, 22, 23, 24] (L2 := [(2, .ptr 0 0), (3, .bool false), (4, .ptr 1 0), (5, lT y2.1), (22, iL y12.1), (23, .ptr 4 0), (24, iL s2.1)]) (H2 := [.box (q12 [] 0 0 0 0 0 0 0 [] [] [] [] [.nl, .nl, .nl]), .box (q12 y1.1 y0.1.Zero_ y0.1.Dec_ y0.1.Group_ y0.1.Minus_ y0.1.Plus_ y0.1.Percent_ y0.1.Exp_ s0.1 s0.2.1 s0.2.2.1 s0.2.2.2.1 [.vc 2, .vc 9, .nl]), vecL encSt57 2 58 s5.1, .gone, .box (encSt96 y4.2), .box (encSt96 y7.2), .box (encSt96 y8.2), .box (encSt96 y4.2), vecL encSt59 3 60 ([(⟨y7.1, y8.1, y4.1⟩ : St59)] : List St59), vecL encSt59 3 60 ((s2.2.1 ++ ([(⟨y7.1, y8.1, y4.1⟩ : St59)] : List St59)))]) (by kernel_rfl) ?_
     refine kE ?_
     refine PJ.blockNormal ?_
     refine PJ.next ?_
     refine kR ?_
     refine kC 3 [2,3,4,5,22,23,24] ?_
     refine kE ?_
     obtain rfl := oi h45
     refine kW (L2 := [(2, .ptr 0 0), (3, .bool false), (4, .ptr 1 0), (5, lT y2.1), (22, iL y12.1), (23, .ptr 4 0), (24, iL (IntKind.wrap .i64 (s2.1 + 1)))]) (H2 := [.box (q12 [] 0 0 0 0 0 0 0 [] [] [] [] [.nl, .nl, .nl]), .box (q12 y1.1 y0.1.Zero_ y0.1.Dec_ y0.1.Group_ y0.1.Minus_ y0.1.Plus_ y0.1.Percent_ y0.1.Exp_ s0.1 s0.2.1 s0.2.2.1 s0.2.2.2.1 [.vc 2, .vc 3, .nl]), vecL encSt57 2 58 s5.1, vecL encSt59 3 60 ((s2.2.1 ++ ([(⟨y7.1, y8.1, y4.1⟩ : St59)] : List St59))), .box (encSt96 y4.2)]) hFH hFD [0, 1, 2, 9, 4] ?_
     exact kLN [2, 3, 4, 5, 22, 23, 24]
   ·refine kSR ?_
    refine kC 1 [2,3,4,5,159] ?_
    obtain ⟨y13, hy18, h46⟩ := bindS h33
    refine kA 160 (exergueref16_take_ok hy18) ?_
    refine kC 6 [2,3,4,5,31,32] ?_
    refine kEN ?_
    obtain ⟨s7, hy19, h47⟩ := bindS h46
    refine K.cutN (by kernel_rfl) (fun (s7 : (List St61) × (List Int) × Int × Bool) => ([(2, .ptr 0 0), (3, .bool false), (4, .ptr 1 0), (32, .ptr 5 0)], [.box (q12 [] 0 0 0 0 0 0 0 [] [] [] [] [.nl, .nl, .nl]), .box (q12 y1.1 y0.1.Zero_ y0.1.Dec_ y0.1.Group_ y0.1.Minus_ y0.1.Plus_ y0.1.Percent_ y0.1.Exp_ s0.1 s0.2.1 s0.2.2.1 s0.2.2.2.1 [.vc 2, .vc 3, .vc 4]), vecL encSt57 2 58 s5.1, vecL encSt59 3 60 s6.1, vecL encSt61 3 62 s7.1, .box [lB s7.2.1, iL s7.2.2.1, .bool s7.2.2.2]])) s7 ?_ ?_
    ·refine kSR ?_
     refine kC 1 [2,3,4,5,31,32,33] ?_
     refine kEN ?_
     refine kb 6 ?_
     refine J.wk (Wk.vivBox 1 14 3 62 (cs := (q12 y1.1 y0.1.Zero_ y0.1.Dec_ y0.1.Group_ y0.1.Minus_ y0.1.Plus_ y0.1.Percent_ y0.1.Exp_ s0.1 s0.2.1 s0.2.2.1 s0.2.2.2.1 [.vc 2, .vc 3, .nl])) (by kernel_rfl) (by kernel_rfl)) ?_
     refine J.wk (Wk.sel (L2 := [(2, .ptr 0 0), (3, .bool false), (4, .ptr 1 0), (5, lT y2.1), (31, iL y13.1), (32, .ptr 5 0), (33, iL 0)]) (H2 := [.box (q12 [] 0 0 0 0 0 0 0 [] [] [] [] [.nl, .nl, .nl]), .box (q12 y1.1 y0.1.Zero_ y0.1.Dec_ y0.1.Group_ y0.1.Minus_ y0.1.Plus_ y0.1.Percent_ y0.1.Exp_ s0.1 s0.2.1 s0.2.2.1 s0.2.2.2.1 [.vc 2, .vc 3, .vc 4]), vecL encSt57 2 58 s5.1, vecL encSt59 3 60 s6.1, vecL encSt61 3 62 ([] : List St61), .box (encSt96 y13.2)]) 0 (by rw [hFH]; rfl) hFD [0, 1, 2, 3, 6, 5] (by kernel_rfl) (by kernel_rfl) (by decide) (by kernel_rfl) (by kernel_rfl) (by kernel_rfl) (by kernel_rfl)) ?_
     refine kl (fun (s3 : Int × (List St61) × (List Int) × Int × Bool) => ([(2, .ptr 0 0), (3, .bool false), (4, .ptr 1 0), (5, lT y2.1), (31, iL y13.1), (32, .ptr 5 0), (33, iL s3.1)], [.box (q12 [] 0 0 0 0 0 0 0 [] [] [] [] [.nl, .nl, .nl]), .box (q12 y1.1 y0.1.Zero_ y0.1.Dec_ y0.1.Group_ y0.1.Minus_ y0.1.Plus_ y0.1.Percent_ y0.1.Exp_ s0.1 s0.2.1 s0.2.2.1 s0.2.2.2.1 [.vc 2, .vc 3, .vc 4]), vecL encSt57 2 58 s5.1, vecL encSt59 3 60 s6.1, vecL encSt61 3 62 s3.2.1, .box [lB s3.2.2.1, iL s3.2.2.2.1, .bool s3.2.2.2.2]])) hy19 [2, 3, 4, 5, 31, 32, 33] (fun s3 x1013 hs3 => ?_)
     obtain ⟨y17, hy20, h6⟩ := bindS hs3
     refine K.cutX (by kernel_rfl) (fun (s13 : Unit) => ([(2, .ptr 0 0), (3, .bool false), (4, .ptr 1 0), (5, lT y2.1), (31, iL y13.1), (32, .ptr 5 0), (33, iL s3.1)], [.box (q12 [] 0 0 0 0 0 0 0 [] [] [] [] [.nl, .nl, .nl]), .box (q12 y1.1 y0.1.Zero_ y0.1.Dec_ y0.1.Group_ y0.1.Minus_ y0.1.Plus_ y0.1.Percent_ y0.1.Exp_ s0.1 s0.2.1 s0.2.2.1 s0.2.2.2.1 [.vc 2, .vc 3, .vc 4]), vecL encSt57 2 58 s5.1, vecL encSt59 3 60 s6.1, vecL encSt61 3 62 s3.2.1, .box [lB s3.2.2.1, iL s3.2.2.2.1, .bool s3.2.2.2.2]])) y17 ?_ (fun s13 hs => ?_)
     ·obtain ⟨s10, hy21, h48⟩ := bindS hy20
      refine K.cutN (by kernel_rfl) (fun (s10 : Bool) => ([(2, .ptr 0 0), (3, .bool false), (4, .ptr 1 0), (5, lT y2.1), (31, iL y13.1), (32, .ptr 5 0), (33, iL s3.1), (170, .bool s10)], [.box (q12 [] 0 0 0 0 0 0 0 [] [] [] [] [.nl, .nl, .nl]), .box (q12 y1.1 y0.1.Zero_ y0.1.Dec_ y0.1.Group_ y0.1.Minus_ y0.1.Plus_ y0.1.Percent_ y0.1.Exp_ s0.1 s0.2.1 s0.2.2.1 s0.2.2.2.1 [.vc 2, .vc 3, .vc 4]), vecL encSt57 2 58 s5.1, vecL encSt59 3 60 s6.1, vecL encSt61 3 62 s3.2.1, .box [lB s3.2.2.1, iL s3.2.2.2.1, .bool s3.2.2.2.2]])) s10 ?_ ?_
      ·refine kR ?_
       refine kC 4 [2,3,4,5,31,32,33,166] ?_
       refine kB 166 hy21 (fun h49 => ?_) (fun h50 => ?_)
       ·refine kC 4 [2,3,4,5,31,32,33,170] ?_
        refine kE ?_
        obtain rfl := oi h49
        exact kN [2, 3, 4, 5, 31, 32, 33, 170]
       ·refine kC 4 [2,3,4,5,31,32,33,170] ?_
        refine kE ?_
        obtain rfl := oi h50
        exact kN [2, 3, 4, 5, 31, 32, 33, 170]
      ·refine kBJ 170 h48 (fun h51 => ?_) (fun h52 => ?_)
       ·refine kT ?_
        refine kK ?_
        obtain rfl := oi h51
        exact kXl [2, 3, 4, 5, 31, 32, 33]
       ·refine kF ?_
        refine K.exit 6 (by kernel_rfl) ?_
        obtain rfl := oi h52
        have h53 := joinX_inr h6
        refine PJ.cutXr (fun e => nomatch e) ?_
        obtain rfl := oi h53
        refine PJ.loopOut (fun e => nomatch e) (fun he3 => ?_)
        have h54 := congrArg some he3
        refine PJ.blockOut ?_
        obtain rfl := oi h54
        exact kN [2, 3, 4, 32]
     ·subst hs
      have h55 := joinX_inl h6
      refine kS ?_
      refine kb 7 ?_
      refine kSR ?_
      refine kC 1 [2,3,4,5,31,32,33,174] ?_
      obtain ⟨y9, hy22, h56⟩ := bindS h55
      refine kA 175 (exergueref16_take_ok hy22) ?_
      refine kC 6 [2,3,4,5,31,32,33,34,35] ?_
      refine kEN ?_
      refine kSR ?_
      refine kC 1 [2,3,4,5,31,32,33,34,179] ?_
      obtain ⟨y10, hy23, h57⟩ := bindS h56
      refine kA 180 (exergueref16_take_ok hy23) ?_
      refine kC 6 [2,3,4,5,31,32,33,34,36,37] ?_
      refine kEN ?_
      refine kSR ?_
      refine kC 2 [2,3,4,5,31,32,33,34,36,184,185] ?_
      obtain ⟨y5, hy24, h58⟩ := bindS h57
      refine kA 186 (exergueref16_text_ok hy24) ?_
      refine kC 6 [2,3,4,5,31,32,33,34,36,38,39] ?_
      refine kEN ?_
      refine kSR ?_
      refine kC 7 [2,3,4,5,31,32,33,39,190,195] ?_
      obtain ⟨hm, h59⟩ := asrt h58
      refine RJ.rel (d := (some 196)) (ef := ⟨.vc 10, [4, 9], [(4, .gone), (10, .vec (s3.2.1.length + ([(⟨y9.1, y10.1, y5.1⟩ : St61)] : List St61).length) 3 62 (s3.2.1.flatMap encSt61 ++ ([(⟨y9.1, y10.1, y5.1⟩ : St61)] : List St61).flatMap encSt61))]⟩) (ef' := ⟨.vc 10, [4, 9], [(4, .gone), (10, vecL encSt61 3 62 (s3.2.1 ++ ([(⟨y9.1, y10.1, y5.1⟩ : St61)] : List St61)))]⟩) (c := room (s3.2.1.length + ([(⟨y9.1, y10.1, y5.1⟩ : St61)] : List St61).length)) (tr2 := []) (H2 := [.box (q12 [] 0 0 0 0 0 0 0 [] [] [] [] [.nl, .nl, .nl]), .box (q12 y1.1 y0.1.Zero_ y0.1.Dec_ y0.1.Group_ y0.1.Minus_ y0.1.Plus_ y0.1.Percent_ y0.1.Exp_ s0.1 s0.2.1 s0.2.2.1 s0.2.2.2.1 [.vc 2, .vc 3, .vc 4]), vecL encSt57 2 58 s5.1, vecL encSt59 3 60 s6.1, .gone, .box [lB s3.2.2.1, iL s3.2.2.2.1, .bool s3.2.2.2.2], .box (encSt96 y9.2), .box (encSt96 y10.2), .box (encSt96 y5.2), vecL encSt61 3 62 ([(⟨y9.1, y10.1, y5.1⟩ : St61)] : List St61), vecL encSt61 3 62 ((s3.2.1 ++ ([(⟨y9.1, y10.1, y5.1⟩ : St61)] : List St61)))]) (by kernel_rfl) hm (fun hc => N.app) (by kernel_rfl) ?_
      refine kC 2 [2,3,4,5,31,32,33,39] ?_
      refine kEN ?_
      refine kR ?_
      refine RJ.seg 2 [2, 3, 4, 5, 31, 32, 33] (L2 := [(2, .ptr 0 0), (3, .bool false), (4, .ptr 1 0), (5, lT y2.1), (31, iL y13.1), (32, .ptr 5 0), (33, iL s3.1)]) (H2 := [.box (q12 [] 0 0 0 0 0 0 0 [] [] [] [] [.nl, .nl, .nl]), .box (q12 y1.1 y0.1.Zero_ y0.1.Dec_ y0.1.Group_ y0.1.Minus_ y0.1.Plus_ y0.1.Percent_ y0.1.Exp_ s0.1 s0.2.1 s0.2.2.1 s0.2.2.2.1 [.vc 2, .vc 3, .vc 10]), vecL encSt57 2 58 s5.1, vecL encSt59 3 60 s6.1, .gone, .box (encSt96 y5.2), .box (encSt96 y9.2), .box (encSt96 y10.2), .box (encSt96 y5.2), vecL encSt61 3 62 ([(⟨y9.1, y10.1, y5.1⟩ : St61)] : List St61), vecL encSt61 3 62 ((s3.2.1 ++ ([(⟨y9.1, y10.1, y5.1⟩ : St61)] : List St61)))]) (by kernel_rfl) ?_
      refine kE ?_
      refine PJ.blockNormal ?_
      refine PJ.next ?_
      refine kR ?_
      refine kC 3 [2,3,4,5,31,32,33] ?_
      refine kE ?_
      obtain rfl := oi h59
      refine kW (L2 := [(2, .ptr 0 0), (3, .bool false), (4, .ptr 1 0), (5, lT y2.1), (31, iL y13.1), (32, .ptr 5 0), (33, iL (IntKind.wrap .i64 (s3.1 + 1)))]) (H2 := [.box (q12 [] 0 0 0 0 0 0 0 [] [] [] [] [.nl, .nl, .nl]), .box (q12 y1.1 y0.1.Zero_ y0.1.Dec_ y0.1.Group_ y0.1.Minus_ y0.1.Plus_ y0.1.Percent_ y0.1.Exp_ s0.1 s0.2.1 s0.2.2.1 s0.2.2.2.1 [.vc 2, .vc 3, .vc 4]), vecL encSt57 2 58 s5.1, vecL encSt59 3 60 s6.1, vecL encSt61 3 62 ((s3.2.1 ++ ([(⟨y9.1, y10.1, y5.1⟩ : St61)] : List St61))), .box (encSt96 y5.2)]) hFH hFD [0, 1, 2, 3, 10, 5] ?_
      exact kLN [2, 3, 4, 5, 31, 32, 33]
    ·refine kS ?_
     refine J.keep [2, 3, 4, 32] (L2 := [(2, .ptr 0 0), (3, .bool false), (4, .ptr 1 0), (32, .ptr 5 0)]) (by kernel_rfl) ?_
     refine K.draw (by kernel_rfl) (by kernel_rfl) (by kernel_rfl) (H2 := [.box (q12 [] 0 0 0 0 0 0 0 [] [] [] [] [.nl, .nl, .nl]), .box (q12 y1.1 y0.1.Zero_ y0.1.Dec_ y0.1.Group_ y0.1.Minus_ y0.1.Plus_ y0.1.Percent_ y0.1.Exp_ s0.1 s0.2.1 s0.2.2.1 s0.2.2.2.1 [.vc 2, .vc 3, .vc 4]), vecL encSt57 2 58 s5.1, vecL encSt59 3 60 s6.1, vecL encSt61 3 62 s7.1, .box [lB s7.2.1, iL s7.2.2.1, .bool s7.2.2.2]]) (by kernel_rfl) (n := 6) (by kernel_rfl) ?_
     refine kD 6 ?_
     refine kEN ?_
     refine kX ?_
     obtain rfl := oi h47
     refine PJ.wk (Wk.freeze 2 (n := s5.1.length) (k := 2) (e := 58) (cs := s5.1.flatMap encSt57) (by kernel_rfl)) ?_
     refine PJ.wk (Wk.freeze 3 (n := s6.1.length) (k := 3) (e := 60) (cs := s6.1.flatMap encSt59) (by kernel_rfl)) ?_
     refine PJ.wk (Wk.freeze 4 (n := s7.1.length) (k := 3) (e := 62) (cs := s7.1.flatMap encSt61) (by kernel_rfl)) ?_
     exact kZ hFn hFH hFD
def exergueref01_Row (x0 : List Int) (x1 : List Int) : Option (Bool) :=
 (bif (decide (¬ (x0.length : Int) = (x1.length : Int))) then (some false) else (Option.bind (loopN (fun (s0 : Int) => (bif (decide (s0 < (x0.length : Int))) then (bif inR s0 x0.length then (bif inR s0 x1.length then (bif (decide (¬ (nth x0 s0) = (nth x1 s0))) then (some (.inr (.inr false))) else (some (.inl (IntKind.wrap .i64 (s0 + 1))))) else none) else none) else (some (.inr (.inl ()))))) big 0) (joinX fun (s1 : Unit) => (some true))))
theorem exergueref01_Row_ok {x0 : List Int} {x1 : List Int} {r : Bool} (h : exergueref01_Row x0 x1 = some r) : SC Try.prog 16 [lB x0, lB x1] [] (.bool r) [] := by
 refine kFn (fn := Try.f16) (fun F hFn hFH hFD => ?_)
 unfold exergueref01_Row at h
 refine kSR ?_
 refine kC 1 [0,1,4] ?_
 refine kEN ?_
 refine kS ?_
 refine kSR ?_
 refine kC 5 [0,1,4,10] ?_
 refine kEN ?_
 refine kBJ 10 h (fun h1 => ?_) (fun h2 => ?_)
 ·refine kT ?_
  refine kSR ?_
  refine kC 1 [0,1,4] ?_
  refine kEN ?_
  refine kX ?_
  refine PJ.passRet ?_
  obtain rfl := oi h1
  exact kZ hFn hFH hFD
 ·refine kF ?_
  refine kK ?_
  refine PJ.next ?_
  obtain ⟨y0, hy0, h0⟩ := bindS h2
  refine K.cutX (by kernel_rfl) (fun (s1 : Unit) => ([(4, .bool false)], [])) y0 ?_ (fun s1 hs => ?_)
  ·refine kSR ?_
   refine kC 1 [0,1,4,5] ?_
   refine kEN ?_
   refine kb 0 ?_
   refine kl (fun (s0 : Int) => ([(0, lB x0), (1, lB x1), (4, .bool false), (5, iL s0)], [])) hy0 [0, 1, 4, 5] (fun s0 x79 hs0 => ?_)
   refine kS ?_
   refine kSR ?_
   refine kC 4 [0,1,4,5,14] ?_
   refine kEN ?_
   refine kBJ 14 hs0 (fun h3 => ?_) (fun h4 => ?_)
   ·refine kT ?_
    refine kK ?_
    refine PJ.next ?_
    refine kS ?_
    refine kb 1 ?_
    refine kS ?_
    refine J.keep [0, 1, 4, 5] (L2 := [(0, lB x0), (1, lB x1), (4, .bool false), (5, iL s0)]) (by kernel_rfl) ?_
    refine K.draw (by kernel_rfl) (by kernel_rfl) (by kernel_rfl) (H2 := []) (by kernel_rfl) (n := 0) (by kernel_rfl) ?_
    refine kD 2 ?_
    obtain ⟨hm, h5⟩ := asrt h3
    refine kJ 19 (tr2 := [([], []), ([], []), ([], [])]) (encI_len .u8) hm ?_
    refine kD 3 ?_
    obtain ⟨hm, h6⟩ := asrt h5
    refine kJ 23 (tr2 := [([], []), ([], []), ([], []), ([], []), ([], []), ([], []), ([], [])]) (encI_len .u8) hm ?_
    refine kD 2 ?_
    refine kEN ?_
    refine kBJ 25 h6 (fun h7 => ?_) (fun h8 => ?_)
    ·refine kT ?_
     refine kSR ?_
     refine kC 1 [0,1,4,5] ?_
     refine kEN ?_
     refine kX ?_
     refine PJ.blockRet ?_
     refine PJ.passRet ?_
     obtain rfl := oi h7
     refine PJ.loopOut (fun e => nomatch e) (fun he0 => ?_)
     have h9 := congrArg some he0
     refine PJ.blockRet ?_
     obtain rfl := oi h9
     have h10 := joinX_inr h0
     refine PJ.cutXr (fun e => nomatch e) ?_
     obtain rfl := oi h10
     exact kZ hFn hFH hFD
    ·refine kF ?_
     refine kK ?_
     refine PJ.blockNormal ?_
     refine PJ.next ?_
     refine kR ?_
     refine kC 3 [0,1,4,5] ?_
     refine kE ?_
     obtain rfl := oi h8
     exact kLN [0, 1, 4, 5]
   ·refine kF ?_
    refine K.exit 0 (by kernel_rfl) ?_
    refine PJ.passExit ?_
    obtain rfl := oi h4
    refine PJ.loopOut (fun e => nomatch e) (fun he1 => ?_)
    have h11 := congrArg some he1
    refine PJ.blockOut ?_
    obtain rfl := oi h11
    exact kXl [4]
  ·subst hs
   have h12 := joinX_inl h0
   refine kSR ?_
   refine kC 1 [4] ?_
   refine kEN ?_
   refine kX ?_
   obtain rfl := oi h12
   exact kZ hFn hFH hFD
def exergueref16_Decode (x0 : List Int) : Option (St28 × Int) :=
 (Option.bind (exergueref08_Cut x0) fun y1 => (bif (decide (¬ y1.2 = 0)) then (some ((⟨[], (⟨0, 0, 0, 0, 0, 0, 0⟩ : St22), (⟨[], [], [], []⟩ : St24), ([] : List St57), ([] : List St59), ([] : List St61)⟩ : St28), y1.2)) else (Option.bind (exergueref16_locale y1.1) fun y0 => (Option.bind (exergueref16_Encode y0.1) fun y2 => (Option.bind (exergueref01_Row y2.1 x0) fun y3 => (Option.bind (Option.bind (bif (!y0.2) then (some true) else (bif (decide (¬ y2.2 = 0)) then (some true) else (some (!y3)))) fun (s0 : Bool) => (bif s0 then (some (.inr ((⟨[], (⟨0, 0, 0, 0, 0, 0, 0⟩ : St22), (⟨[], [], [], []⟩ : St24), ([] : List St57), ([] : List St59), ([] : List St61)⟩ : St28), 2))) else (some (.inl ())))) (joinX fun (s1 : Unit) => (some (y0.1, 0)))))))))
theorem exergueref16_Decode_ok {x0 : List Int} {r : St28 × Int} (h : exergueref16_Decode x0 = some r) : SC Try.prog 15 [lB x0] [] (.tup [.agg (encSt28 r.1), iL r.2]) [] := by
 refine kFn (fn := Try.f15) (fun F hFn hFH hFD => ?_)
 unfold exergueref16_Decode at h
 refine kSR ?_
 refine kC 2 [0,2,3] ?_
 refine kEN ?_
 refine kSR ?_
 refine kC 1 [0,2,3,12] ?_
 obtain ⟨y1, hy0, h1⟩ := bindS h
 refine kA 13 (exergueref08_Cut_ok hy0) ?_
 refine kC 5 [0,2,3,4,5] ?_
 refine kEN ?_
 refine kS ?_
 refine kSR ?_
 refine kC 2 [0,2,3,4,5,17] ?_
 refine kEN ?_
 refine kBJ 17 h1 (fun h2 => ?_) (fun h3 => ?_)
 ·refine kT ?_
  refine kSR ?_
  refine kC 4 [0,2,3,4] ?_
  refine kEN ?_
  refine kX ?_
  refine PJ.passRet ?_
  obtain rfl := oi h2
  refine PJ.res (v1 := .tup [.agg (q12 [] 0 0 0 0 0 0 0 [] [] [] [] [.nl, .nl, .nl]), iL y1.2]) (Le.tup (.cons (Le.agg (.cons (Le.refl _) (.cons (Le.refl _) (.cons (Le.refl _) (.cons (Le.refl _) (.cons (Le.refl _) (.cons (Le.refl _) (.cons (Le.refl _) (.cons (Le.refl _) (.cons (Le.refl _) (.cons (Le.refl _) (.cons (Le.refl _) (.cons (Le.refl _) (.cons (Le.nl _) (.cons (Le.nl _) (.cons (Le.nl _) .nil)))))))))))))))) (.cons (Le.refl _) .nil))) ?_
  exact kZ hFn hFH hFD
 ·refine kF ?_
  refine kK ?_
  refine PJ.next ?_
  refine kSR ?_
  refine kC 1 [0,2,3,21] ?_
  obtain ⟨y0, hy1, h4⟩ := bindS h3
  refine kA 22 (exergueref16_locale_ok hy1) ?_
  refine kC 6 [0,2,3,6,7] ?_
  refine kEN ?_
  refine kSR ?_
  refine kC 1 [0,2,3,6,7,26] ?_
  obtain ⟨y2, hy2, h5⟩ := bindS h4
  refine kA 27 (exergueref16_Encode_ok hy2) ?_
  refine kC 5 [0,2,3,6,7,8,9] ?_
  refine kEN ?_
  refine kSR ?_
  refine RJ.seg 2 [2, 3, 6, 7, 9, 30, 31] (L2 := [(2, .ptr 0 0), (3, iL 0), (6, .ptr 1 0), (7, .bool y0.2), (9, iL y2.2), (30, lB y2.1), (31, lB x0)]) (H2 := [.box (q12 [] 0 0 0 0 0 0 0 [] [] [] [] [.nl, .nl, .nl]), .box (encSt28 y0.1)]) (by kernel_rfl) ?_
  obtain ⟨y3, hy3, h6⟩ := bindS h5
  refine kA 32 (exergueref01_Row_ok hy3) ?_
  refine kC 1 [2,3,6,7,9,10] ?_
  refine kEN ?_
  obtain ⟨y4, hy4, h0⟩ := bindS h6
  refine K.cutX (by kernel_rfl) (fun (s1 : Unit) => ([(2, .ptr 0 0), (3, iL 0), (6, .ptr 1 0)], [.box (q12 [] 0 0 0 0 0 0 0 [] [] [] [] [.nl, .nl, .nl]), .box (encSt28 y0.1)])) y4 ?_ (fun s1 hs => ?_)
  ·obtain ⟨s0, hy5, h7⟩ := bindS hy4
   refine K.cutN (by kernel_rfl) (fun (s0 : Bool) => ([(2, .ptr 0 0), (3, iL 0), (6, .ptr 1 0), (42, .bool s0)], [.box (q12 [] 0 0 0 0 0 0 0 [] [] [] [] [.nl, .nl, .nl]), .box (encSt28 y0.1)])) s0 ?_ ?_
   ·refine kR ?_
    refine kC 3 [2,3,6,9,10,35] ?_
    refine kB 35 hy5 (fun h8 => ?_) (fun h9 => ?_)
    ·refine kC 7 [2,3,6,42] ?_
     refine kE ?_
     obtain rfl := oi h8
     exact kN [2, 3, 6, 42]
    ·refine kC 4 [2,3,6,10,39] ?_
     refine kB 39 h9 (fun h10 => ?_) (fun h11 => ?_)
     ·refine kC 3 [2,3,6,42] ?_
      refine kE ?_
      obtain rfl := oi h10
      exact kN [2, 3, 6, 42]
     ·refine kC 3 [2,3,6,42] ?_
      refine kE ?_
      obtain rfl := oi h11
      exact kN [2, 3, 6, 42]
   ·refine kBJ 42 h7 (fun h12 => ?_) (fun h13 => ?_)
    ·refine kT ?_
     refine kSR ?_
     refine kC 3 [2,3,6] ?_
     refine kEN ?_
     refine kX ?_
     obtain rfl := oi h12
     have h14 := joinX_inr h0
     refine PJ.cutXr (fun e => nomatch e) ?_
     obtain rfl := oi h14
     refine PJ.res (v1 := .tup [.agg (q12 [] 0 0 0 0 0 0 0 [] [] [] [] [.nl, .nl, .nl]), iL 2]) (Le.tup (.cons (Le.agg (.cons (Le.refl _) (.cons (Le.refl _) (.cons (Le.refl _) (.cons (Le.refl _) (.cons (Le.refl _) (.cons (Le.refl _) (.cons (Le.refl _) (.cons (Le.refl _) (.cons (Le.refl _) (.cons (Le.refl _) (.cons (Le.refl _) (.cons (Le.refl _) (.cons (Le.nl _) (.cons (Le.nl _) (.cons (Le.nl _) .nil)))))))))))))))) (.cons (Le.refl _) .nil))) ?_
     exact kZ hFn hFH hFD
    ·refine kF ?_
     refine kK ?_
     obtain rfl := oi h13
     exact kXl [2, 3, 6]
  ·subst hs
   have h15 := joinX_inl h0
   refine kSR ?_
   refine kC 3 [2,3] ?_
   refine kEN ?_
   refine kX ?_
   obtain rfl := oi h15
   exact kZ hFn hFH hFD
def exergueref09_Texts (x0 : List (List UInt8)) (x1 : List (List UInt8)) : Option (Bool) :=
 (bif (decide (¬ (x0.length : Int) = (x1.length : Int))) then (some false) else (Option.bind (loopN (fun (s0 : Int) => (bif (decide (s0 < (x0.length : Int))) then (bif inR s0 x0.length then (bif inR s0 x1.length then (bif ((nth x0 s0) != (nth x1 s0)) then (some (.inr (.inr false))) else (some (.inl (IntKind.wrap .i64 (s0 + 1))))) else none) else none) else (some (.inr (.inl ()))))) big 0) (joinX fun (s1 : Unit) => (some true))))
theorem exergueref09_Texts_ok {x0 : List (List UInt8)} {x1 : List (List UInt8)} {r : Bool} (h : exergueref09_Texts x0 x1 = some r) : SC Try.prog 18 [lT x0, lT x1] [] (.bool r) [] := by
 refine kFn (fn := Try.f18) (fun F hFn hFH hFD => ?_)
 unfold exergueref09_Texts at h
 refine kSR ?_
 refine kC 1 [0,1,4] ?_
 refine kEN ?_
 refine kS ?_
 refine kSR ?_
 refine kC 5 [0,1,4,10] ?_
 refine kEN ?_
 refine kBJ 10 h (fun h1 => ?_) (fun h2 => ?_)
 ·refine kT ?_
  refine kSR ?_
  refine kC 1 [0,1,4] ?_
  refine kEN ?_
  refine kX ?_
  refine PJ.passRet ?_
  obtain rfl := oi h1
  exact kZ hFn hFH hFD
 ·refine kF ?_
  refine kK ?_
  refine PJ.next ?_
  obtain ⟨y0, hy0, h0⟩ := bindS h2
  refine K.cutX (by kernel_rfl) (fun (s1 : Unit) => ([(4, .bool false)], [])) y0 ?_ (fun s1 hs => ?_)
  ·refine kSR ?_
   refine kC 1 [0,1,4,5] ?_
   refine kEN ?_
   refine kb 0 ?_
   refine kl (fun (s0 : Int) => ([(0, lT x0), (1, lT x1), (4, .bool false), (5, iL s0)], [])) hy0 [0, 1, 4, 5] (fun s0 x79 hs0 => ?_)
   refine kS ?_
   refine kSR ?_
   refine kC 4 [0,1,4,5,14] ?_
   refine kEN ?_
   refine kBJ 14 hs0 (fun h3 => ?_) (fun h4 => ?_)
   ·refine kT ?_
    refine kK ?_
    refine PJ.next ?_
    refine kS ?_
    refine kb 1 ?_
    refine kS ?_
    refine J.keep [0, 1, 4, 5] (L2 := [(0, lT x0), (1, lT x1), (4, .bool false), (5, iL s0)]) (by kernel_rfl) ?_
    refine K.draw (by kernel_rfl) (by kernel_rfl) (by kernel_rfl) (H2 := []) (by kernel_rfl) (n := 0) (by kernel_rfl) ?_
    refine kD 2 ?_
    obtain ⟨hm, h5⟩ := asrt h3
    refine kJ 19 (tr2 := [([], []), ([], []), ([], [])]) encT_len hm ?_
    refine kD 3 ?_
    obtain ⟨hm, h6⟩ := asrt h5
    refine kJ 23 (tr2 := [([], []), ([], []), ([], []), ([], []), ([], []), ([], []), ([], [])]) encT_len hm ?_
    refine kD 2 ?_
    refine kEN ?_
    refine kBJ 25 h6 (fun h7 => ?_) (fun h8 => ?_)
    ·refine kT ?_
     refine kSR ?_
     refine kC 1 [0,1,4,5] ?_
     refine kEN ?_
     refine kX ?_
     refine PJ.blockRet ?_
     refine PJ.passRet ?_
     obtain rfl := oi h7
     refine PJ.loopOut (fun e => nomatch e) (fun he0 => ?_)
     have h9 := congrArg some he0
     refine PJ.blockRet ?_
     obtain rfl := oi h9
     have h10 := joinX_inr h0
     refine PJ.cutXr (fun e => nomatch e) ?_
     obtain rfl := oi h10
     exact kZ hFn hFH hFD
    ·refine kF ?_
     refine kK ?_
     refine PJ.blockNormal ?_
     refine PJ.next ?_
     refine kR ?_
     refine kC 3 [0,1,4,5] ?_
     refine kE ?_
     obtain rfl := oi h8
     exact kLN [0, 1, 4, 5]
   ·refine kF ?_
    refine K.exit 0 (by kernel_rfl) ?_
    refine PJ.passExit ?_
    obtain rfl := oi h4
    refine PJ.loopOut (fun e => nomatch e) (fun he1 => ?_)
    have h11 := congrArg some he1
    refine PJ.blockOut ?_
    obtain rfl := oi h11
    exact kXl [4]
  ·subst hs
   have h12 := joinX_inl h0
   refine kSR ?_
   refine kC 1 [4] ?_
   refine kEN ?_
   refine kX ?_
   obtain rfl := oi h12
   exact kZ hFn hFH hFD
def exerguelaw16_BundTells (x0 : St28) (x1 : List Int) : Option (Bool) :=
 (Option.bind exerguelaw16_shown fun y4 => (Option.bind (Option.bind (Option.bind (exergueref15_Small x0) fun y10 => (bif (!y10) then (some true) else (some ((decide ((x1.length : Int) > 10000)))))) fun (s0 : Bool) => (bif s0 then (some (.inr y4)) else (some (.inl ())))) (joinX fun (s2 : Unit) => (Option.bind (bund_Encode x0) fun y0 => (Option.bind (exergueref16_Encode x0) fun y1 => (Option.bind (bund_Decode x1) fun y2 => (Option.bind (exergueref16_Decode x1) fun y3 => (Option.bind (bif y4 then (Option.bind (exergueref01_Row y0.1 y1.1) fun y6 => (bif y6 then (bif (decide (y0.2 = y1.2)) then (Option.bind (exergueref15_Same y2.1 y3.1) fun y7 => (bif y7 then (bif (decide (y2.2 = y3.2)) then (Option.bind (bund_Texts x0) fun y8 => (Option.bind (exergueref16_Texts x0) fun y9 => (Option.bind (exergueref09_Texts y8 y9) fun y5 => (some y5)))) else (some false)) else (some false))) else (some false)) else (some false))) else (some false)) fun (s1 : Bool) => (some s1)))))))))
theorem exerguelaw16_BundTells_ok {x0 : St28} {x1 : List Int} {r : Bool} (h : exerguelaw16_BundTells x0 x1 = some r) : SC Try.prog 3 [.agg (encSt28 x0), lB x1] [] (.bool r) [] := by
 refine kFn (fn := Try.f3) (fun F hFn hFH hFD => ?_)
 unfold exerguelaw16_BundTells at h
 refine kSR ?_
 refine kC 2 [1,2,4] ?_
 refine kEN ?_
 refine kSR ?_
 obtain ⟨y4, hy0, h1⟩ := bindS h
 refine kA 14 (exerguelaw16_shown_ok hy0) ?_
 refine kC 1 [1,2,4,5] ?_
 refine kEN ?_
 obtain ⟨y11, hy1, h0⟩ := bindS h1
 refine K.cutX (by kernel_rfl) (fun (s2 : Unit) => ([(1, lB x1), (2, .ptr 0 0), (4, .bool false), (5, .bool y4)], [.box (encSt28 x0)])) y11 ?_ (fun s2 hs => ?_)
 ·obtain ⟨s0, hy2, h2⟩ := bindS hy1
  refine K.cutN (by kernel_rfl) (fun (s0 : Bool) => ([(1, lB x1), (2, .ptr 0 0), (4, .bool false), (5, .bool y4), (22, .bool s0)], [.box (encSt28 x0)])) s0 ?_ ?_
  ·refine kR ?_
   refine kC 1 [1,2,4,5,15] ?_
   obtain ⟨y10, hy3, h3⟩ := bindS hy2
   refine kA 16 (exergueref15_Small_ok hy3) ?_
   refine kC 2 [1,2,4,5,18] ?_
   refine kB 18 h3 (fun h4 => ?_) (fun h5 => ?_)
   ·refine kC 4 [1,2,4,5,22] ?_
    refine kE ?_
    obtain rfl := oi h4
    exact kN [1, 2, 4, 5, 22]
   ·refine kC 4 [1,2,4,5,22] ?_
    refine kE ?_
    obtain rfl := oi h5
    exact kN [1, 2, 4, 5, 22]
  ·refine kBJ 22 h2 (fun h6 => ?_) (fun h7 => ?_)
   ·refine kT ?_
    refine kSR ?_
    refine kC 2 [1,2,4,5] ?_
    refine kEN ?_
    refine kX ?_
    obtain rfl := oi h6
    have h8 := joinX_inr h0
    refine PJ.cutXr (fun e => nomatch e) ?_
    obtain rfl := oi h8
    exact kZ hFn hFH hFD
   ·refine kF ?_
    refine kK ?_
    obtain rfl := oi h7
    exact kXl [1, 2, 4, 5]
 ·subst hs
  have h9 := joinX_inl h0
  refine kSR ?_
  refine kC 1 [1,2,4,5,25] ?_
  obtain ⟨y0, hy4, h10⟩ := bindS h9
  refine kA 26 (bund_Encode_ok hy4) ?_
  refine kC 5 [1,2,4,5,6,7] ?_
  refine kEN ?_
  refine kSR ?_
  refine kC 1 [1,2,4,5,6,7,30] ?_
  obtain ⟨y1, hy5, h11⟩ := bindS h10
  refine kA 31 (exergueref16_Encode_ok hy5) ?_
  refine kC 5 [1,2,4,5,6,7,8,9] ?_
  refine kEN ?_
  refine kSR ?_
  refine kC 1 [1,2,4,5,6,7,8,9,35] ?_
  obtain ⟨y2, hy6, h12⟩ := bindS h11
  refine kA 36 (bund_Decode_ok hy6) ?_
  refine kC 6 [1,2,4,5,6,7,8,9,10,11] ?_
  refine kEN ?_
  refine kSR ?_
  refine kC 1 [2,4,5,6,7,8,9,10,11,40] ?_
  obtain ⟨y3, hy7, h13⟩ := bindS h12
  refine kA 41 (exergueref16_Decode_ok hy7) ?_
  refine kC 6 [2,4,5,6,7,8,9,10,11,12,13] ?_
  refine kEN ?_
  obtain ⟨s1, hy8, h14⟩ := bindS h13
  refine K.cutN (by kernel_rfl) (fun (s1 : Bool) => ([(4, .bool s1)], [])) s1 ?_ ?_
  ·refine J.keep [2, 4, 5, 6, 7, 8, 9, 10, 11, 12, 13] (L2 := [(2, .ptr 0 0), (4, .bool false), (5, .bool y4), (6, lB y0.1), (7, iL y0.2), (8, lB y1.1), (9, iL y1.2), (10, .ptr 1 0), (11, iL y2.2), (12, .ptr 2 0), (13, iL y3.2)]) (by kernel_rfl) ?_
   refine K.draw (by kernel_rfl) (by kernel_rfl) (by kernel_rfl) (H2 := [.box (encSt28 x0), .box (encSt28 y2.1), .box (encSt28 y3.1), .res, .res, .res, .res, .res]) (by kernel_rfl) (n := 3) (by kernel_rfl) ?_
   refine RJ.segD 2 (tr2 := [([], []), ([], [])]) (L2 := [(45, .bool y4), (44, .bool y4), (2, .ptr 0 0), (4, .bool false), (5, .bool y4), (6, lB y0.1), (7, iL y0.2), (8, lB y1.1), (9, iL y1.2), (10, .ptr 1 0), (11, iL y2.2), (12, .ptr 2 0), (13, iL y3.2)]) (H2 := [.box (encSt28 x0), .box (encSt28 y2.1), .box (encSt28 y3.1), .res, .res, .res, .res, .res]) (by kernel_rfl) ?_
   refine kB 45 hy8 (fun h15 => ?_) (fun h16 => ?_)
   ·refine kD 2 ?_
    obtain ⟨y6, hy9, h17⟩ := bindS h15
    refine RJ.call0 (d := (some 48)) (f := 16) (args := [lB y0.1, lB y1.1]) (v := .bool y6) (tr2 := [([], []), ([], []), ([], []), ([], []), ([], [6, 7])]) (by kernel_rfl) (by kernel_rfl) (.cons (Le.refl _) (.cons (Le.refl _) .nil)) (exergueref01_Row_ok hy9) (by kernel_rfl) ?_
    refine kD 2 ?_
    refine kB 50 h17 (fun h18 => ?_) (fun h19 => ?_)
    ·refine kD 5 ?_
     refine kB 55 h18 (fun h20 => ?_) (fun h21 => ?_)
     ·refine kD 2 ?_
      obtain ⟨y7, hy10, h22⟩ := bindS h20
      refine RJ.call0 (d := (some 58)) (f := 17) (args := [.agg (encSt28 y2.1), .agg (encSt28 y3.1)]) (v := .bool y7) (tr2 := [([], []), ([], []), ([], []), ([], []), ([], [6, 7]), ([], []), ([], []), ([], []), ([], []), ([], []), ([], []), ([], []), ([2, 3], []), ([4, 5], []), ([], [8, 9])]) (by kernel_rfl) (by kernel_rfl) (.cons (Le.refl _) (.cons (Le.refl _) .nil)) (exergueref15_Same_ok hy10) (by kernel_rfl) ?_
      refine kD 2 ?_
      refine kB 60 h22 (fun h23 => ?_) (fun h24 => ?_)
      ·refine kD 5 ?_
       refine kB 65 h23 (fun h25 => ?_) (fun h26 => ?_)
       ·refine kD 1 ?_
        obtain ⟨y8, hy11, h27⟩ := bindS h25
        refine RJ.call0 (d := (some 67)) (f := 19) (args := [.agg (encSt28 x0)]) (v := lT y8) (tr2 := [([], []), ([], []), ([], []), ([], []), ([], [6, 7]), ([], []), ([], []), ([], []), ([], []), ([], []), ([], []), ([], []), ([2, 3], []), ([4, 5], []), ([], [8, 9]), ([], []), ([], []), ([], []), ([], []), ([], []), ([], []), ([], []), ([0, 1], []), ([], [10, 11])]) (by kernel_rfl) (by kernel_rfl) (.cons (Le.refl _) .nil) (bund_Texts_ok hy11) (by kernel_rfl) ?_
        refine kD 1 ?_
        obtain ⟨y9, hy12, h28⟩ := bindS h27
        refine RJ.call0 (d := (some 69)) (f := 20) (args := [.agg (encSt28 x0)]) (v := lT y9) (tr2 := [([], []), ([], []), ([], []), ([], []), ([], [6, 7]), ([], []), ([], []), ([], []), ([], []), ([], []), ([], []), ([], []), ([2, 3], []), ([4, 5], []), ([], [8, 9]), ([], []), ([], []), ([], []), ([], []), ([], []), ([], []), ([], []), ([0, 1], []), ([], [10, 11]), ([0, 1], []), ([], [12, 13])]) (by kernel_rfl) (by kernel_rfl) (.cons (Le.refl _) .nil) (exergueref16_Texts_ok hy12) (by kernel_rfl) ?_
        obtain ⟨y5, hy13, h29⟩ := bindS h28
        refine RJ.call0 (d := (some 70)) (f := 18) (args := [lT y8, lT y9]) (v := .bool y5) (tr2 := [([], []), ([], []), ([], []), ([], []), ([], [6, 7]), ([], []), ([], []), ([], []), ([], []), ([], []), ([], []), ([], []), ([2, 3], []), ([4, 5], []), ([], [8, 9]), ([], []), ([], []), ([], []), ([], []), ([], []), ([], []), ([], []), ([0, 1], []), ([], [10, 11]), ([0, 1], []), ([], [12, 13]), ([], [14, 15])]) (by kernel_rfl) (by kernel_rfl) (.cons (Le.refl _) (.cons (Le.refl _) .nil)) (exergueref09_Texts_ok hy13) (by kernel_rfl) ?_
        refine RJ.segD 2 (tr2 := [([], []), ([], []), ([], []), ([], []), ([], [6, 7]), ([], []), ([], []), ([], []), ([], []), ([], []), ([], []), ([], []), ([2, 3], []), ([4, 5], []), ([], [8, 9]), ([], []), ([], []), ([], []), ([], []), ([], []), ([], []), ([], []), ([0, 1], []), ([], [10, 11]), ([0, 1], []), ([], [12, 13]), ([], [14, 15]), ([], []), ([], [])]) (L2 := [(4, .bool y5), (71, .bool y5), (70, .bool y5), (69, lT y9), (68, .agg (encSt28 x0)), (67, lT y8), (66, .agg (encSt28 x0)), (65, .bool true), (65, .bool (decide (y2.2 = y3.2))), (64, .bool (decide (y2.2 = y3.2))), (63, .bool (decide (y2.2 = y3.2))), (62, iL y3.2), (61, iL y2.2), (60, .bool true), (60, .bool y7), (59, .bool y7), (58, .bool y7), (57, .agg (encSt28 y3.1)), (56, .agg (encSt28 y2.1)), (55, .bool true), (55, .bool (decide (y0.2 = y1.2))), (54, .bool (decide (y0.2 = y1.2))), (53, .bool (decide (y0.2 = y1.2))), (52, iL y1.2), (51, iL y0.2), (50, .bool true), (50, .bool y6), (49, .bool y6), (48, .bool y6), (47, lB y1.1), (46, lB y0.1), (45, .bool true), (45, .bool y4), (44, .bool y4), (2, .ptr 0 0), (4, .bool false), (5, .bool y4), (6, lB y0.1), (7, iL y0.2), (8, lB y1.1), (9, iL y1.2), (10, .ptr 1 0), (11, iL y2.2), (12, .ptr 2 0), (13, iL y3.2)]) (H2 := [.box (encSt28 x0), .box (encSt28 y2.1), .box (encSt28 y3.1), .res, .res, .res, .res, .res]) (by kernel_rfl) ?_
        refine kE ?_
        obtain rfl := oi h29
        refine kW (L2 := [(4, .bool y5)]) (H2 := []) hFH hFD [] ?_
        exact kN [4]
       ·refine kD 7 ?_
        refine kE ?_
        obtain rfl := oi h26
        refine kW (L2 := [(4, .bool false)]) (H2 := []) hFH hFD [] ?_
        exact kN [4]
      ·refine kD 12 ?_
       refine kE ?_
       obtain rfl := oi h24
       refine kW (L2 := [(4, .bool false)]) (H2 := []) hFH hFD [] ?_
       exact kN [4]
     ·refine kD 17 ?_
      refine kE ?_
      obtain rfl := oi h21
      refine kW (L2 := [(4, .bool false)]) (H2 := []) hFH hFD [] ?_
      exact kN [4]
    ·refine kD 22 ?_
     refine kE ?_
     obtain rfl := oi h19
     refine kW (L2 := [(4, .bool false)]) (H2 := []) hFH hFD [] ?_
     exact kN [4]
   ·refine kD 27 ?_
    refine kE ?_
    obtain rfl := oi h16
    refine kW (L2 := [(4, .bool false)]) (H2 := []) hFH hFD [] ?_
    exact kN [4]
  ·refine kX ?_
   obtain rfl := oi h14
   exact kZ hFn hFH hFD
end Go.Proofs.Ythhabncebpaheaa
