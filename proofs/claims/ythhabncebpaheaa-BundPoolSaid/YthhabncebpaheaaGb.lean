/-
  What the functions of this program come to, as functions of natives, each with the proof that it does. No conditions.
-/
import Derived.Test.YthhabncebpaheaaProg
import Derived.Test.YthhabncebpaheaaSySL
import Derived.Test.YthhabncebpaheaaGa
namespace Go.Proofs.Ythhabncebpaheaa
open Go Go.Sy Go.RowKit
set_option linter.unusedVariables false
set_option linter.unusedSimpArgs false
set_option maxRecDepth 100000
set_option maxHeartbeats 4000000
def bund_reader__locale_s0 (x0 : List Int) (x1 : Int) (x2 : List (List UInt8)) : Option ((St28 × Int) ⊕ Int) :=
 (Option.bind (bund_reader__text_s0 x0 x1 x2) fun y26 => (Sum.elim (fun y0 => (Option.bind (bund_reader__sign_s0 x0 y0.2 x2) fun y27 => (Sum.elim (fun y2 => (Option.bind (bund_reader__sign_s0 x0 y2.2 x2) fun y28 => (Sum.elim (fun y3 => (Option.bind (bund_reader__sign_s0 x0 y3.2 x2) fun y29 => (Sum.elim (fun y4 => (Option.bind (bund_reader__sign_s0 x0 y4.2 x2) fun y30 => (Sum.elim (fun y1 => (Option.bind (bund_reader__sign_s0 x0 y1.2 x2) fun y31 => (Sum.elim (fun y5 => (Option.bind (bund_reader__sign_s0 x0 y5.2 x2) fun y32 => (Sum.elim (fun y6 => (Option.bind (bund_reader__sign_s0 x0 y6.2 x2) fun y33 => (Sum.elim (fun y7 => (Option.bind (loopN (fun (s1 : Int × Int × (List UInt8) × (List UInt8) × (List UInt8) × (List UInt8)) => (bif (decide (s1.1 < 4)) then (Option.bind (bund_reader__text_s0 x0 s1.2.1 x2) fun y34 => (Sum.elim (fun y16 => (bif (decide (s1.1 = 0)) then (some (.inl ((IntKind.wrap .i64 (0 + 1)), y16.2, y16.1, s1.2.2.2.1, s1.2.2.2.2.1, s1.2.2.2.2.2))) else (bif (decide (s1.1 = 1)) then (some (.inl ((IntKind.wrap .i64 (1 + 1)), y16.2, s1.2.2.1, y16.1, s1.2.2.2.2.1, s1.2.2.2.2.2))) else (bif (decide (s1.1 = 2)) then (some (.inl ((IntKind.wrap .i64 (2 + 1)), y16.2, s1.2.2.1, s1.2.2.2.1, y16.1, s1.2.2.2.2.2))) else (bif (decide (s1.1 = 3)) then (some (.inl ((IntKind.wrap .i64 (3 + 1)), y16.2, s1.2.2.1, s1.2.2.2.1, s1.2.2.2.2.1, y16.1))) else none))))) (fun y20 => (some (.inr (.inr (.inr y20))))) y34)) else (some (.inr (.inl (s1.2.1, s1.2.2.1, s1.2.2.2.1, s1.2.2.2.2.1, s1.2.2.2.2.2)))))) big (0, y7.2, [], [], [], [])) (joinX fun (s0 : Int × (List UInt8) × (List UInt8) × (List UInt8) × (List UInt8)) => (Option.bind (Option.bind (bund_reader__take_s0 2 x0 s0.1 x2) fun y35 => (Sum.elim (fun y17 => (loopN (fun (s4 : Int × Int × (List St57)) => (bif (decide (s4.1 < y17.1)) then (Option.bind (bund_reader__take_s0 1 x0 s4.2.1 x2) fun y36 => (Sum.elim (fun y10 => (Option.bind (bund_reader__text_s0 x0 y10.2 x2) fun y37 => (Sum.elim (fun y11 => (bif room (s4.2.2.length + ([(⟨y10.1, y11.1⟩ : St57)] : List St57).length) then (some (.inl ((IntKind.wrap .i64 (s4.1 + 1)), y11.2, (s4.2.2 ++ ([(⟨y10.1, y11.1⟩ : St57)] : List St57))))) else none)) (fun y21 => (some (.inr (.inr (.inr y21))))) y37))) (fun y46 => (some (.inr (.inr (.inr s4.2.1))))) y36)) else (some (.inr (.inl (s4.2.1, s4.2.2)))))) big (0, y17.2, ([] : List St57)))) (fun y47 => (some (.inr (.inr s0.1)))) y35)) (joinX fun (s2 : Int × (List St57)) => (Option.bind (Option.bind (bund_reader__take_s0 2 x0 s2.1 x2) fun y38 => (Sum.elim (fun y18 => (loopN (fun (s5 : Int × Int × (List St59)) => (bif (decide (s5.1 < y18.1)) then (Option.bind (bund_reader__text_s0 x0 s5.2.1 x2) fun y39 => (Sum.elim (fun y15 => (Option.bind (bund_reader__text_s0 x0 y15.2 x2) fun y40 => (Sum.elim (fun y8 => (Option.bind (bund_reader__take_s0 1 x0 y8.2 x2) fun y41 => (Sum.elim (fun y12 => (bif room (s5.2.2.length + ([(⟨y15.1, y8.1, y12.1⟩ : St59)] : List St59).length) then (some (.inl ((IntKind.wrap .i64 (s5.1 + 1)), y12.2, (s5.2.2 ++ ([(⟨y15.1, y8.1, y12.1⟩ : St59)] : List St59))))) else none)) (fun y48 => (some (.inr (.inr (.inr y8.2))))) y41))) (fun y22 => (some (.inr (.inr (.inr y22))))) y40))) (fun y23 => (some (.inr (.inr (.inr y23))))) y39)) else (some (.inr (.inl (s5.2.1, s5.2.2)))))) big (0, y18.2, ([] : List St59)))) (fun y49 => (some (.inr (.inr s2.1)))) y38)) (joinX fun (s6 : Int × (List St59)) => (Option.bind (Option.bind (bund_reader__take_s0 2 x0 s6.1 x2) fun y42 => (Sum.elim (fun y19 => (loopN (fun (s3 : Int × Int × (List St61)) => (bif (decide (s3.1 < y19.1)) then (Option.bind (bund_reader__take_s0 1 x0 s3.2.1 x2) fun y43 => (Sum.elim (fun y9 => (Option.bind (bund_reader__take_s0 1 x0 y9.2 x2) fun y44 => (Sum.elim (fun y13 => (Option.bind (bund_reader__text_s0 x0 y13.2 x2) fun y45 => (Sum.elim (fun y14 => (bif room (s3.2.2.length + ([(⟨y9.1, y13.1, y14.1⟩ : St61)] : List St61).length) then (some (.inl ((IntKind.wrap .i64 (s3.1 + 1)), y14.2, (s3.2.2 ++ ([(⟨y9.1, y13.1, y14.1⟩ : St61)] : List St61))))) else none)) (fun y24 => (some (.inr (.inr (.inr y24))))) y45))) (fun y50 => (some (.inr (.inr (.inr y9.2))))) y44))) (fun y51 => (some (.inr (.inr (.inr s3.2.1))))) y43)) else (some (.inr (.inl (s3.2.1, s3.2.2)))))) big (0, y19.2, ([] : List St61)))) (fun y52 => (some (.inr (.inr s6.1)))) y42)) (joinX fun (s7 : Int × (List St61)) => (some (.inl ((⟨y0.1, (⟨y2.1, y3.1, y4.1, y1.1, y5.1, y6.1, y7.1⟩ : St22), (⟨s0.2.1, s0.2.2.1, s0.2.2.2.1, s0.2.2.2.2⟩ : St24), s2.2, s6.2, s7.2⟩ : St28), s7.1)))))))))))) (fun y53 => (some (.inr y6.2))) y33))) (fun y54 => (some (.inr y5.2))) y32))) (fun y55 => (some (.inr y1.2))) y31))) (fun y56 => (some (.inr y4.2))) y30))) (fun y57 => (some (.inr y3.2))) y29))) (fun y58 => (some (.inr y2.2))) y28))) (fun y59 => (some (.inr y0.2))) y27))) (fun y25 => (some (.inr y25))) y26))
theorem bund_reader__locale_s0_okW {x0 : List Int} {x1 : Int} {x2 : List (List UInt8)} {r : (St28 × Int) ⊕ Int} (h : bund_reader__locale_s0 x0 x1 x2 = some r) : (∀ a, r = .inl a → SC Try.prog 56 [.ptr 0 0] [.box [lB x0, iL x1, lT x2]] (.agg (encSt28 a.1)) [.box [lB x0, iL a.2, lT x2]]) ∧ (∀ a, r = .inr a → SP Try.prog 56 [.ptr 0 0] [.box [lB x0, iL x1, lT x2]] [.box [.undef, iL a, .undef]]) := by
 refine kFnW (fn := Try.f56) _ _ _ (fun F hFn hFH hFD => ?_)
 unfold bund_reader__locale_s0 at h
 refine kSR ?_
 refine kC 1 [0,2] ?_
 refine kEN ?_
 refine kSR ?_
 refine kC 1 [0,2,3] ?_
 refine kEN ?_
 refine kSR ?_
 refine kC 1 [0,2,3,10] ?_
 obtain ⟨y26, hy0, h3⟩ := bindS h
 rcases y26 with y0 | y25
 ·have h28 := elimL h3
  refine kCG (some 11) (args := [.ptr 0 0]) (v := .str y0.1) (H2 := [.box [lB x0, iL y0.2, lT x2], .box (q12 [] 0 0 0 0 0 0 0 [] [] [] [] [.nl, .nl, .nl]), .box (q12 [] 0 0 0 0 0 0 0 [] [] [] [] [.nl, .nl, .nl])]) [0] (bund_reader__text_s0_ok0 hy0) ?_
  refine kC 2 [0,2,3] ?_
  refine kEN ?_
  refine kSR ?_
  refine kC 1 [0,2,3,13] ?_
  obtain ⟨y27, hy1, h4⟩ := bindS h28
  rcases y27 with y2 | y59
  ·have h29 := elimL h4
   refine kCG (some 14) (args := [.ptr 0 0]) (v := iM y2.1) (H2 := [.box [lB x0, iL y2.2, lT x2], .box (q12 [] 0 0 0 0 0 0 0 [] [] [] [] [.nl, .nl, .nl]), .box (q12 y0.1 0 0 0 0 0 0 0 [] [] [] [] [.nl, .nl, .nl])]) [0] (bund_reader__sign_s0_ok0 hy1) ?_
   refine kC 1 [0,2,3,14,15] ?_
   obtain ⟨y28, hy2, h5⟩ := bindS h29
   rcases y28 with y3 | y58
   ·have h30 := elimL h5
    refine kCG (some 16) (args := [.ptr 0 0]) (v := iM y3.1) (H2 := [.box [lB x0, iL y3.2, lT x2], .box (q12 [] 0 0 0 0 0 0 0 [] [] [] [] [.nl, .nl, .nl]), .box (q12 y0.1 0 0 0 0 0 0 0 [] [] [] [] [.nl, .nl, .nl])]) [0] (bund_reader__sign_s0_ok0 hy2) ?_
    refine kC 1 [0,2,3,14,16,17] ?_
    obtain ⟨y29, hy3, h6⟩ := bindS h30
    rcases y29 with y4 | y57
    ·have h31 := elimL h6
     refine kCG (some 18) (args := [.ptr 0 0]) (v := iM y4.1) (H2 := [.box [lB x0, iL y4.2, lT x2], .box (q12 [] 0 0 0 0 0 0 0 [] [] [] [] [.nl, .nl, .nl]), .box (q12 y0.1 0 0 0 0 0 0 0 [] [] [] [] [.nl, .nl, .nl])]) [0] (bund_reader__sign_s0_ok0 hy3) ?_
     refine kC 1 [0,2,3,14,16,18,19] ?_
     obtain ⟨y30, hy4, h7⟩ := bindS h31
     rcases y30 with y1 | y56
     ·have h32 := elimL h7
      refine kCG (some 20) (args := [.ptr 0 0]) (v := iM y1.1) (H2 := [.box [lB x0, iL y1.2, lT x2], .box (q12 [] 0 0 0 0 0 0 0 [] [] [] [] [.nl, .nl, .nl]), .box (q12 y0.1 0 0 0 0 0 0 0 [] [] [] [] [.nl, .nl, .nl])]) [0] (bund_reader__sign_s0_ok0 hy4) ?_
      refine RJ.seg 1 [0, 2, 3, 14, 16, 18, 20, 21] (L2 := [(0, .ptr 0 0), (2, .ptr 1 0), (3, .ptr 2 0), (14, iM y2.1), (16, iM y3.1), (18, iM y4.1), (20, iM y1.1), (21, .ptr 0 0)]) (H2 := [.box [lB x0, iL y1.2, lT x2], .box (q12 [] 0 0 0 0 0 0 0 [] [] [] [] [.nl, .nl, .nl]), .box (q12 y0.1 0 0 0 0 0 0 0 [] [] [] [] [.nl, .nl, .nl])]) (by kernel_rfl) ?_
      obtain ⟨y31, hy5, h8⟩ := bindS h32
      rcases y31 with y5 | y55
      ·have h33 := elimL h8
       refine kCG (some 22) (args := [.ptr 0 0]) (v := iM y5.1) (H2 := [.box [lB x0, iL y5.2, lT x2], .box (q12 [] 0 0 0 0 0 0 0 [] [] [] [] [.nl, .nl, .nl]), .box (q12 y0.1 0 0 0 0 0 0 0 [] [] [] [] [.nl, .nl, .nl])]) [0] (bund_reader__sign_s0_ok0 hy5) ?_
       refine kC 1 [0,2,3,14,16,18,20,22,23] ?_
       obtain ⟨y32, hy6, h9⟩ := bindS h33
       rcases y32 with y6 | y54
       ·have h34 := elimL h9
        refine kCG (some 24) (args := [.ptr 0 0]) (v := iM y6.1) (H2 := [.box [lB x0, iL y6.2, lT x2], .box (q12 [] 0 0 0 0 0 0 0 [] [] [] [] [.nl, .nl, .nl]), .box (q12 y0.1 0 0 0 0 0 0 0 [] [] [] [] [.nl, .nl, .nl])]) [0] (bund_reader__sign_s0_ok0 hy6) ?_
        refine kC 1 [0,2,3,14,16,18,20,22,24,25] ?_
        obtain ⟨y33, hy7, h10⟩ := bindS h34
        rcases y33 with y7 | y53
        ·have h35 := elimL h10
         refine kCG (some 26) (args := [.ptr 0 0]) (v := iM y7.1) (H2 := [.box [lB x0, iL y7.2, lT x2], .box (q12 [] 0 0 0 0 0 0 0 [] [] [] [] [.nl, .nl, .nl]), .box (q12 y0.1 0 0 0 0 0 0 0 [] [] [] [] [.nl, .nl, .nl])]) [0] (bund_reader__sign_s0_ok0 hy7) ?_
         refine kC 3 [0,2,3] ?_
         refine kEN ?_
         obtain ⟨y60, hy20, h11⟩ := bindS h35
         refine K.cutX (by kernel_rfl) (fun (s0 : Int × (List UInt8) × (List UInt8) × (List UInt8) × (List UInt8)) => ([(0, .ptr 0 0), (2, .ptr 1 0), (3, .ptr 2 0)], [.box [lB x0, iL s0.1, lT x2], .box (q12 [] 0 0 0 0 0 0 0 [] [] [] [] [.nl, .nl, .nl]), .box (q12 y0.1 y2.1 y3.1 y4.1 y1.1 y5.1 y6.1 y7.1 s0.2.1 s0.2.2.1 s0.2.2.2.1 s0.2.2.2.2 [.nl, .nl, .nl])])) y60 ?_ (fun s0 hs => ?_)
         ·refine kSR ?_
          refine kC 1 [0,2,3,29] ?_
          refine kEN ?_
          refine kb 0 ?_
          refine kl (fun (s1 : Int × Int × (List UInt8) × (List UInt8) × (List UInt8) × (List UInt8)) => ([(0, .ptr 0 0), (2, .ptr 1 0), (3, .ptr 2 0), (29, iL s1.1)], [.box [lB x0, iL s1.2.1, lT x2], .box (q12 [] 0 0 0 0 0 0 0 [] [] [] [] [.nl, .nl, .nl]), .box (q12 y0.1 y2.1 y3.1 y4.1 y1.1 y5.1 y6.1 y7.1 s1.2.2.1 s1.2.2.2.1 s1.2.2.2.2.1 s1.2.2.2.2.2 [.nl, .nl, .nl])])) hy20 [0, 2, 3, 29] (fun s1 x239 hs0 => ?_)
          refine kSR ?_
          refine kC 1 [0,2,3,29,30] ?_
          refine kEN ?_
          refine kS ?_
          refine kBJ 30 hs0 (fun h36 => ?_) (fun h37 => ?_)
          ·refine kT ?_
           refine kK ?_
           refine PJ.next ?_
           refine kS ?_
           refine kb 1 ?_
           refine kSR ?_
           refine kC 2 [0,2,3,4,29] ?_
           refine kEN ?_
           refine kR ?_
           refine kC 2 [0,2,3,29,32,33] ?_
           obtain ⟨y34, hy8, h12⟩ := bindS h36
           rcases y34 with y16 | y20
           ·have h13 := elimL h12
            refine kCG (some 34) (args := [.ptr 0 0]) (v := .str y16.1) (H2 := [.box [lB x0, iL y16.2, lT x2], .box (q12 [] 0 0 0 0 0 0 0 [] [] [] [] [.nl, .nl, .nl]), .box (q12 y0.1 y2.1 y3.1 y4.1 y1.1 y5.1 y6.1 y7.1 s1.2.2.1 s1.2.2.2.1 s1.2.2.2.2.1 s1.2.2.2.2.2 [.nl, .nl, .nl])]) [0] (bund_reader__text_s0_ok0 hy8) ?_
            refine kC 1 [0,2,3,29,32,34,35] ?_
            cases hb0 : (decide (s1.1 = 0))
            ·have h14 := condF hb0 h13
             cases hb1 : (decide (s1.1 = 1))
             ·have h15 := condF hb1 h14
              cases hb2 : (decide (s1.1 = 2))
              ·have h16 := condF hb2 h15
               cases hb3 : (decide (s1.1 = 3))
               ·have h38 := condF hb3 h16
                cases h38
               ·have h39 := condT hb3 h16
                refine RJ.pin 32 (kd := .i64) (by kernel_rfl) (of_decide_eq_true hb3) ?_
                refine RJ.pin 29 (kd := .i64) (by kernel_rfl) (of_decide_eq_true hb3) ?_
                refine kC 2 [0,2,3,29] ?_
                refine kE ?_
                refine PJ.blockNormal ?_
                refine PJ.next ?_
                refine kR ?_
                refine kC 2 [0,2,3,29] ?_
                refine kE ?_
                obtain rfl := oi h39
                exact kLN [0, 2, 3, 29]
              ·have h40 := condT hb2 h15
               refine RJ.pin 32 (kd := .i64) (by kernel_rfl) (of_decide_eq_true hb2) ?_
               refine RJ.pin 29 (kd := .i64) (by kernel_rfl) (of_decide_eq_true hb2) ?_
               refine kC 2 [0,2,3,29] ?_
               refine kE ?_
               refine PJ.blockNormal ?_
               refine PJ.next ?_
               refine kR ?_
               refine kC 2 [0,2,3,29] ?_
               refine kE ?_
               obtain rfl := oi h40
               exact kLN [0, 2, 3, 29]
             ·have h41 := condT hb1 h14
              refine RJ.pin 32 (kd := .i64) (by kernel_rfl) (of_decide_eq_true hb1) ?_
              refine RJ.pin 29 (kd := .i64) (by kernel_rfl) (of_decide_eq_true hb1) ?_
              refine kC 2 [0,2,3,29] ?_
              refine kE ?_
              refine PJ.blockNormal ?_
              refine PJ.next ?_
              refine kR ?_
              refine kC 2 [0,2,3,29] ?_
              refine kE ?_
              obtain rfl := oi h41
              exact kLN [0, 2, 3, 29]
            ·have h42 := condT hb0 h13
             refine RJ.pin 32 (kd := .i64) (by kernel_rfl) (of_decide_eq_true hb0) ?_
             refine RJ.pin 29 (kd := .i64) (by kernel_rfl) (of_decide_eq_true hb0) ?_
             refine kC 2 [0,2,3,29] ?_
             refine kE ?_
             refine PJ.blockNormal ?_
             refine PJ.next ?_
             refine kR ?_
             refine kC 2 [0,2,3,29] ?_
             refine kE ?_
             obtain rfl := oi h42
             exact kLN [0, 2, 3, 29]
           ·have h43 := elimR h12
            refine RJ.callP (d := (some 34)) (f := 68) (args := [.ptr 0 0]) (args0 := [.ptr 0 0]) (H0 := [.box [lB x0, iL s1.2.1, lT x2]]) (H0' := [.box [.undef, iL y20, .undef]]) (H2 := [.box [.undef, iL y20, .undef], .box (q12 [] 0 0 0 0 0 0 0 [] [] [] [] [.nl, .nl, .nl]), .box (q12 y0.1 y2.1 y3.1 y4.1 y1.1 y5.1 y6.1 y7.1 s1.2.2.1 s1.2.2.2.1 s1.2.2.2.2.1 s1.2.2.2.2.2 [.nl, .nl, .nl])]) [0] (by kernel_rfl) (by kernel_rfl) (by kernel_rfl) (by kernel_rfl) (by decide) (by kernel_rfl) (by kernel_rfl) (by kernel_rfl) (.cons (Le.refl _) .nil) (bund_reader__text_s0_ok1 hy8) (by kernel_rfl) (by kernel_rfl) ?_
            refine PP.block ?_
            refine PP.next ?_
            obtain rfl := oi h43
            refine PP.loopOut (fun he0 => ?_)
            have h44 := congrArg some he0
            refine PP.block ?_
            obtain rfl := oi h44
            have h45 := joinX_inr h11
            refine PP.cutXr ?_
            obtain rfl := oi h45
            exact K.panV (H0 := [.box [lB x0, iL x1, lT x2]]) (H' := [.box [.undef, iL y20, .undef]]) [0] hFH hFD (by kernel_rfl) (by kernel_rfl) (by decide) (by kernel_rfl) (by kernel_rfl) (by kernel_rfl)
          ·refine kF ?_
           refine K.exit 0 (by kernel_rfl) ?_
           refine PJ.passExit ?_
           obtain rfl := oi h37
           refine PJ.loopOut (fun e => nomatch e) (fun he1 => ?_)
           have h46 := congrArg some he1
           refine PJ.blockOut ?_
           obtain rfl := oi h46
           exact kXl [0, 2, 3]
         ·subst hs
          have h47 := joinX_inl h11
          obtain ⟨y61, hy21, h2⟩ := bindS h47
          refine K.cutX (by kernel_rfl) (fun (s2 : Int × (List St57)) => ([(0, .ptr 0 0), (2, .ptr 1 0), (3, .ptr 2 0)], [.box [lB x0, iL s2.1, lT x2], .box (q12 [] 0 0 0 0 0 0 0 [] [] [] [] [.nl, .nl, .nl]), .box (q12 y0.1 y2.1 y3.1 y4.1 y1.1 y5.1 y6.1 y7.1 s0.2.1 s0.2.2.1 s0.2.2.2.1 s0.2.2.2.2 [.vc 3, .nl, .nl]), vecL encSt57 2 58 s2.2])) y61 ?_ (fun s2 hs => ?_)
          ·refine kSR ?_
           refine kC 1 [0,2,3,38] ?_
           obtain ⟨y35, hy9, h17⟩ := bindS hy21
           rcases y35 with y17 | y47
           ·have h48 := elimL h17
            refine kCG (some 39) (args := [.ptr 0 0, iL 2]) (v := iL y17.1) (H2 := [.box [lB x0, iL y17.2, lT x2], .box (q12 [] 0 0 0 0 0 0 0 [] [] [] [] [.nl, .nl, .nl]), .box (q12 y0.1 y2.1 y3.1 y4.1 y1.1 y5.1 y6.1 y7.1 s0.2.1 s0.2.2.1 s0.2.2.2.1 s0.2.2.2.2 [.nl, .nl, .nl])]) [0] (bund_reader__take_s0_ok0 hy9) ?_
            refine kC 1 [0,2,3,39,40] ?_
            refine kEN ?_
            refine kb 2 ?_
            refine J.wk (Wk.vivBox 2 12 2 58 (cs := (q12 y0.1 y2.1 y3.1 y4.1 y1.1 y5.1 y6.1 y7.1 s0.2.1 s0.2.2.1 s0.2.2.2.1 s0.2.2.2.2 [.nl, .nl, .nl])) (by kernel_rfl) (by kernel_rfl)) ?_
            refine kl (fun (s4 : Int × Int × (List St57)) => ([(0, .ptr 0 0), (2, .ptr 1 0), (3, .ptr 2 0), (39, iL y17.1), (40, iL s4.1)], [.box [lB x0, iL s4.2.1, lT x2], .box (q12 [] 0 0 0 0 0 0 0 [] [] [] [] [.nl, .nl, .nl]), .box (q12 y0.1 y2.1 y3.1 y4.1 y1.1 y5.1 y6.1 y7.1 s0.2.1 s0.2.2.1 s0.2.2.2.1 s0.2.2.2.2 [.vc 3, .nl, .nl]), vecL encSt57 2 58 s4.2.2])) h48 [0, 2, 3, 39, 40] (fun s4 x434 hs1 => ?_)
            refine kSR ?_
            refine kC 1 [0,2,3,39,40,41] ?_
            refine kEN ?_
            refine kS ?_
            refine kBJ 41 hs1 (fun h49 => ?_) (fun h50 => ?_)
            ·refine kT ?_
             refine kK ?_
             refine PJ.next ?_
             refine kS ?_
             refine kb 3 ?_
             refine kSR ?_
             refine kC 1 [0,2,3,39,40,42] ?_
             obtain ⟨y36, hy10, h18⟩ := bindS h49
             rcases y36 with y10 | y46
             ·have h51 := elimL h18
              refine kCG (some 43) (args := [.ptr 0 0, iL 1]) (v := iL y10.1) (H2 := [.box [lB x0, iL y10.2, lT x2], .box (q12 [] 0 0 0 0 0 0 0 [] [] [] [] [.nl, .nl, .nl]), .box (q12 y0.1 y2.1 y3.1 y4.1 y1.1 y5.1 y6.1 y7.1 s0.2.1 s0.2.2.1 s0.2.2.2.1 s0.2.2.2.2 [.vc 3, .nl, .nl]), vecL encSt57 2 58 s4.2.2]) [0] (bund_reader__take_s0_ok0 hy10) ?_
              refine kC 1 [0,2,3,5,39,40] ?_
              refine kEN ?_
              refine J.keep [0, 2, 3, 5, 39, 40] (L2 := [(0, .ptr 0 0), (2, .ptr 1 0), (3, .ptr 2 0), (5, iL y10.1), (39, iL y17.1), (40, iL s4.1)]) (by kernel_rfl) ?_
              obtain ⟨y37, hy11, h19⟩ := bindS h51
              rcases y37 with y11 | y21
              ·have h52 := elimL h19
               refine K.piv (by kernel_rfl) (by kernel_rfl) [(0, 44, .ptr 2 12), (1, 45, .vc 3), (2, 46, iL y10.1), (3, 47, .ptr 0 0)] [5, 6, 7, 8, 9] 4 48 (by kernel_rfl) (by kernel_rfl) (f := 68) (args := [.ptr 0 0]) (args0 := [.ptr 0 0]) (v0 := .str y11.1) (v := .str y11.1) (H0 := [.box [lB x0, iL y10.2, lT x2]]) (H0' := [.box [lB x0, iL y11.2, lT x2]]) (H2 := [.box [lB x0, iL y11.2, lT x2], .box (q12 [] 0 0 0 0 0 0 0 [] [] [] [] [.nl, .nl, .nl]), .box (q12 y0.1 y2.1 y3.1 y4.1 y1.1 y5.1 y6.1 y7.1 s0.2.1 s0.2.2.1 s0.2.2.2.1 s0.2.2.2.2 [.vc 3, .nl, .nl]), vecL encSt57 2 58 s4.2.2]) (H3 := [.box [lB x0, iL y11.2, lT x2], .box (q12 [] 0 0 0 0 0 0 0 [] [] [] [] [.nl, .nl, .nl]), .box (q12 y0.1 y2.1 y3.1 y4.1 y1.1 y5.1 y6.1 y7.1 s0.2.1 s0.2.2.1 s0.2.2.2.1 s0.2.2.2.2 [.vc 3, .nl, .nl]), vecL encSt57 2 58 s4.2.2, .res, .res]) (n := 4) (by kernel_rfl) [0] (by kernel_rfl) (by kernel_rfl) (by kernel_rfl) (by decide) (by kernel_rfl) (by kernel_rfl) (by kernel_rfl) (.cons (Le.refl _) .nil) (bund_reader__text_s0_ok0 hy11) (by kernel_rfl) (by kernel_rfl) (by kernel_rfl) (by kernel_rfl) (by kernel_rfl) (by kernel_rfl) (by kernel_rfl) (by rw [hFn]; kernel_rfl) ?_
               refine kD 7 ?_
               obtain ⟨hm, h53⟩ := asrt h52
               refine RJ.rel (d := (some 51)) (ef := ⟨.vc 5, [3, 4], [(3, .gone), (5, .vec (s4.2.2.length + ([(⟨y10.1, y11.1⟩ : St57)] : List St57).length) 2 58 (s4.2.2.flatMap encSt57 ++ ([(⟨y10.1, y11.1⟩ : St57)] : List St57).flatMap encSt57))]⟩) (ef' := ⟨.vc 5, [3, 4], [(3, .gone), (5, vecL encSt57 2 58 (s4.2.2 ++ ([(⟨y10.1, y11.1⟩ : St57)] : List St57)))]⟩) (c := room (s4.2.2.length + ([(⟨y10.1, y11.1⟩ : St57)] : List St57).length)) (tr2 := [([], []), ([4, 5], []), ([], []), ([], []), ([], []), ([], []), ([], [8, 9, 8, 9]), ([6, 7, 8, 9], [6, 7, 10, 11, 10, 11])]) (H2 := [.box [lB x0, iL y11.2, lT x2], .box (q12 [] 0 0 0 0 0 0 0 [] [] [] [] [.nl, .nl, .nl]), .box (q12 y0.1 y2.1 y3.1 y4.1 y1.1 y5.1 y6.1 y7.1 s0.2.1 s0.2.2.1 s0.2.2.2.1 s0.2.2.2.2 [.vc 3, .nl, .nl]), .gone, vecL encSt57 2 58 ([(⟨y10.1, y11.1⟩ : St57)] : List St57), vecL encSt57 2 58 ((s4.2.2 ++ ([(⟨y10.1, y11.1⟩ : St57)] : List St57)))]) (by kernel_rfl) hm (fun hc => N.app) (by kernel_rfl) ?_
               refine kD 2 ?_
               refine kE ?_
               refine PJ.blockNormal ?_
               refine PJ.next ?_
               refine kR ?_
               refine kC 2 [0,2,3,39,40] ?_
               refine kE ?_
               obtain rfl := oi h53
               refine kW (L2 := [(0, .ptr 0 0), (2, .ptr 1 0), (3, .ptr 2 0), (39, iL y17.1), (40, iL (IntKind.wrap .i64 (s4.1 + 1)))]) (H2 := [.box [lB x0, iL y11.2, lT x2], .box (q12 [] 0 0 0 0 0 0 0 [] [] [] [] [.nl, .nl, .nl]), .box (q12 y0.1 y2.1 y3.1 y4.1 y1.1 y5.1 y6.1 y7.1 s0.2.1 s0.2.2.1 s0.2.2.2.1 s0.2.2.2.2 [.vc 3, .nl, .nl]), vecL encSt57 2 58 ((s4.2.2 ++ ([(⟨y10.1, y11.1⟩ : St57)] : List St57)))]) hFH hFD [0, 1, 2, 5] ?_
               exact kLN [0, 2, 3, 39, 40]
              ·have h54 := elimR h19
               refine K.pivP (by kernel_rfl) (by kernel_rfl) [(0, 44, .ptr 2 12), (1, 45, .vc 3), (2, 46, iL y10.1), (3, 47, .ptr 0 0)] [5, 6, 7, 8, 9] 4 48 (by kernel_rfl) (by kernel_rfl) (f := 68) (args := [.ptr 0 0]) (args0 := [.ptr 0 0]) (H0 := [.box [lB x0, iL y10.2, lT x2]]) (H0' := [.box [.undef, iL y21, .undef]]) (H2 := [.box [.undef, iL y21, .undef], .box (q12 [] 0 0 0 0 0 0 0 [] [] [] [] [.nl, .nl, .nl]), .box (q12 y0.1 y2.1 y3.1 y4.1 y1.1 y5.1 y6.1 y7.1 s0.2.1 s0.2.2.1 s0.2.2.2.1 s0.2.2.2.2 [.vc 3, .nl, .nl]), vecL encSt57 2 58 s4.2.2]) (by kernel_rfl) [0] (by kernel_rfl) (by kernel_rfl) (by kernel_rfl) (by decide) (by kernel_rfl) (by kernel_rfl) (by kernel_rfl) (.cons (Le.refl _) .nil) (bund_reader__text_s0_ok1 hy11) (by kernel_rfl) (by kernel_rfl) ?_
               refine PP.block ?_
               refine PP.next ?_
               obtain rfl := oi h54
               refine PP.loopOut (fun he2 => ?_)
               have h55 := congrArg some he2
               refine PP.block ?_
               obtain rfl := oi h55
               have h56 := joinX_inr h2
               refine PP.cutXr ?_
               obtain rfl := oi h56
               exact K.panV (H0 := [.box [lB x0, iL x1, lT x2]]) (H' := [.box [.undef, iL y21, .undef]]) [0] hFH hFD (by kernel_rfl) (by kernel_rfl) (by decide) (by kernel_rfl) (by kernel_rfl) (by kernel_rfl)
             ·have h57 := elimR h18
              refine RJ.callP (d := (some 43)) (f := 70) (args := [.ptr 0 0, iL 1]) (args0 := [.ptr 0 0, iL 1]) (H0 := [.box [lB x0, iL s4.2.1, lT x2]]) (H0' := [.box [.undef, iL s4.2.1, .undef]]) (H2 := [.box [.undef, iL s4.2.1, .undef], .box (q12 [] 0 0 0 0 0 0 0 [] [] [] [] [.nl, .nl, .nl]), .box (q12 y0.1 y2.1 y3.1 y4.1 y1.1 y5.1 y6.1 y7.1 s0.2.1 s0.2.2.1 s0.2.2.2.1 s0.2.2.2.2 [.vc 3, .nl, .nl]), vecL encSt57 2 58 s4.2.2]) [0] (by kernel_rfl) (by kernel_rfl) (by kernel_rfl) (by kernel_rfl) (by decide) (by kernel_rfl) (by kernel_rfl) (by kernel_rfl) (.cons (Le.refl _) (.cons (Le.refl _) .nil)) (bund_reader__take_s0_ok1 hy10) (by kernel_rfl) (by kernel_rfl) ?_
              refine PP.next ?_
              refine PP.block ?_
              refine PP.next ?_
              obtain rfl := oi h57
              refine PP.loopOut (fun he3 => ?_)
              have h58 := congrArg some he3
              refine PP.block ?_
              obtain rfl := oi h58
              have h59 := joinX_inr h2
              refine PP.cutXr ?_
              obtain rfl := oi h59
              exact K.panV (H0 := [.box [lB x0, iL x1, lT x2]]) (H' := [.box [.undef, iL s4.2.1, .undef]]) [0] hFH hFD (by kernel_rfl) (by kernel_rfl) (by decide) (by kernel_rfl) (by kernel_rfl) (by kernel_rfl)
            ·refine kF ?_
             refine K.exit 2 (by kernel_rfl) ?_
             refine PJ.passExit ?_
             obtain rfl := oi h50
             refine PJ.loopOut (fun e => nomatch e) (fun he4 => ?_)
             have h60 := congrArg some he4
             refine PJ.blockOut ?_
             obtain rfl := oi h60
             exact kXl [0, 2, 3]
           ·have h61 := elimR h17
            refine RJ.callP (d := (some 39)) (f := 70) (args := [.ptr 0 0, iL 2]) (args0 := [.ptr 0 0, iL 2]) (H0 := [.box [lB x0, iL s0.1, lT x2]]) (H0' := [.box [.undef, iL s0.1, .undef]]) (H2 := [.box [.undef, iL s0.1, .undef], .box (q12 [] 0 0 0 0 0 0 0 [] [] [] [] [.nl, .nl, .nl]), .box (q12 y0.1 y2.1 y3.1 y4.1 y1.1 y5.1 y6.1 y7.1 s0.2.1 s0.2.2.1 s0.2.2.2.1 s0.2.2.2.2 [.nl, .nl, .nl])]) [0] (by kernel_rfl) (by kernel_rfl) (by kernel_rfl) (by kernel_rfl) (by decide) (by kernel_rfl) (by kernel_rfl) (by kernel_rfl) (.cons (Le.refl _) (.cons (Le.refl _) .nil)) (bund_reader__take_s0_ok1 hy9) (by kernel_rfl) (by kernel_rfl) ?_
            refine PP.next ?_
            obtain rfl := oi h61
            have h62 := joinX_inr h2
            refine PP.cutXr ?_
            obtain rfl := oi h62
            exact K.panV (H0 := [.box [lB x0, iL x1, lT x2]]) (H' := [.box [.undef, iL s0.1, .undef]]) [0] hFH hFD (by kernel_rfl) (by kernel_rfl) (by decide) (by kernel_rfl) (by kernel_rfl) (by kernel_rfl)
          ·subst hs
           have h63 := joinX_inl h2
           obtain ⟨y62, hy22, h0⟩ := bindS h63
           refine K.cutX (by kernel_rfl) (fun (s6 : Int × (List St59)) => ([(0, .ptr 0 0), (2, .ptr 1 0), (3, .ptr 2 0)], [.box [lB x0, iL s6.1, lT x2], .box (q12 [] 0 0 0 0 0 0 0 [] [] [] [] [.nl, .nl, .nl]), .box (q12 y0.1 y2.1 y3.1 y4.1 y1.1 y5.1 y6.1 y7.1 s0.2.1 s0.2.2.1 s0.2.2.2.1 s0.2.2.2.2 [.vc 3, .vc 4, .nl]), vecL encSt57 2 58 s2.2, vecL encSt59 3 60 s6.2])) y62 ?_ (fun s6 hs => ?_)
           ·refine kSR ?_
            refine kC 1 [0,2,3,54] ?_
            obtain ⟨y38, hy12, h20⟩ := bindS hy22
            rcases y38 with y18 | y49
            ·have h64 := elimL h20
             refine kCG (some 55) (args := [.ptr 0 0, iL 2]) (v := iL y18.1) (H2 := [.box [lB x0, iL y18.2, lT x2], .box (q12 [] 0 0 0 0 0 0 0 [] [] [] [] [.nl, .nl, .nl]), .box (q12 y0.1 y2.1 y3.1 y4.1 y1.1 y5.1 y6.1 y7.1 s0.2.1 s0.2.2.1 s0.2.2.2.1 s0.2.2.2.2 [.vc 3, .nl, .nl]), vecL encSt57 2 58 s2.2]) [0] (bund_reader__take_s0_ok0 hy12) ?_
             refine kC 1 [0,2,3,55,56] ?_
             refine kEN ?_
             refine kb 4 ?_
             refine J.wk (Wk.vivBox 2 13 3 60 (cs := (q12 y0.1 y2.1 y3.1 y4.1 y1.1 y5.1 y6.1 y7.1 s0.2.1 s0.2.2.1 s0.2.2.2.1 s0.2.2.2.2 [.vc 3, .nl, .nl])) (by kernel_rfl) (by kernel_rfl)) ?_
             refine kl (fun (s5 : Int × Int × (List St59)) => ([(0, .ptr 0 0), (2, .ptr 1 0), (3, .ptr 2 0), (55, iL y18.1), (56, iL s5.1)], [.box [lB x0, iL s5.2.1, lT x2], .box (q12 [] 0 0 0 0 0 0 0 [] [] [] [] [.nl, .nl, .nl]), .box (q12 y0.1 y2.1 y3.1 y4.1 y1.1 y5.1 y6.1 y7.1 s0.2.1 s0.2.2.1 s0.2.2.2.1 s0.2.2.2.2 [.vc 3, .vc 4, .nl]), vecL encSt57 2 58 s2.2, vecL encSt59 3 60 s5.2.2])) h64 [0, 2, 3, 55, 56] (fun s5 x686 hs2 => ?_)
             refine kSR ?_
             refine kC 1 [0,2,3,55,56,57] ?_
             refine kEN ?_
             refine kS ?_
             refine kBJ 57 hs2 (fun h65 => ?_) (fun h66 => ?_)
             ·refine kT ?_
              refine kK ?_
              refine PJ.next ?_
              refine kS ?_
              refine kb 5 ?_
              refine kSR ?_
              refine kC 1 [0,2,3,55,56,58] ?_
              obtain ⟨y39, hy13, h21⟩ := bindS h65
              rcases y39 with y15 | y23
              ·have h67 := elimL h21
               refine kCG (some 59) (args := [.ptr 0 0]) (v := .str y15.1) (H2 := [.box [lB x0, iL y15.2, lT x2], .box (q12 [] 0 0 0 0 0 0 0 [] [] [] [] [.nl, .nl, .nl]), .box (q12 y0.1 y2.1 y3.1 y4.1 y1.1 y5.1 y6.1 y7.1 s0.2.1 s0.2.2.1 s0.2.2.2.1 s0.2.2.2.2 [.vc 3, .vc 4, .nl]), vecL encSt57 2 58 s2.2, vecL encSt59 3 60 s5.2.2]) [0] (bund_reader__text_s0_ok0 hy13) ?_
               refine kC 1 [0,2,3,55,56,59,60] ?_
               obtain ⟨y40, hy14, h22⟩ := bindS h67
               rcases y40 with y8 | y22
               ·have h68 := elimL h22
                refine kCG (some 61) (args := [.ptr 0 0]) (v := .str y8.1) (H2 := [.box [lB x0, iL y8.2, lT x2], .box (q12 [] 0 0 0 0 0 0 0 [] [] [] [] [.nl, .nl, .nl]), .box (q12 y0.1 y2.1 y3.1 y4.1 y1.1 y5.1 y6.1 y7.1 s0.2.1 s0.2.2.1 s0.2.2.2.1 s0.2.2.2.2 [.vc 3, .vc 4, .nl]), vecL encSt57 2 58 s2.2, vecL encSt59 3 60 s5.2.2]) [0] (bund_reader__text_s0_ok0 hy14) ?_
                refine kC 2 [0,2,3,6,7,55,56] ?_
                refine kEN ?_
                refine J.keep [0, 2, 3, 6, 7, 55, 56] (L2 := [(0, .ptr 0 0), (2, .ptr 1 0), (3, .ptr 2 0), (6, .str y15.1), (7, .str y8.1), (55, iL y18.1), (56, iL s5.1)]) (by kernel_rfl) ?_
                obtain ⟨y41, hy15, h23⟩ := bindS h68
                rcases y41 with y12 | y48
                ·have h69 := elimL h23
                 refine K.piv (by kernel_rfl) (by kernel_rfl) [(0, 62, .ptr 2 13), (1, 63, .vc 4), (2, 64, .str y15.1), (3, 65, .str y8.1), (4, 66, .ptr 0 0)] [6, 7, 8, 9, 10] 5 67 (by kernel_rfl) (by kernel_rfl) (f := 70) (args := [.ptr 0 0, iL 1]) (args0 := [.ptr 0 0, iL 1]) (v0 := iL y12.1) (v := iL y12.1) (H0 := [.box [lB x0, iL y8.2, lT x2]]) (H0' := [.box [lB x0, iL y12.2, lT x2]]) (H2 := [.box [lB x0, iL y12.2, lT x2], .box (q12 [] 0 0 0 0 0 0 0 [] [] [] [] [.nl, .nl, .nl]), .box (q12 y0.1 y2.1 y3.1 y4.1 y1.1 y5.1 y6.1 y7.1 s0.2.1 s0.2.2.1 s0.2.2.2.1 s0.2.2.2.2 [.vc 3, .vc 4, .nl]), vecL encSt57 2 58 s2.2, vecL encSt59 3 60 s5.2.2]) (H3 := [.box [lB x0, iL y12.2, lT x2], .box (q12 [] 0 0 0 0 0 0 0 [] [] [] [] [.nl, .nl, .nl]), .box (q12 y0.1 y2.1 y3.1 y4.1 y1.1 y5.1 y6.1 y7.1 s0.2.1 s0.2.2.1 s0.2.2.2.1 s0.2.2.2.2 [.vc 3, .vc 4, .nl]), vecL encSt57 2 58 s2.2, vecL encSt59 3 60 s5.2.2, .res, .res]) (n := 5) (by kernel_rfl) [0] (by kernel_rfl) (by kernel_rfl) (by kernel_rfl) (by decide) (by kernel_rfl) (by kernel_rfl) (by kernel_rfl) (.cons (Le.refl _) (.cons (Le.refl _) .nil)) (bund_reader__take_s0_ok0 hy15) (by kernel_rfl) (by kernel_rfl) (by kernel_rfl) (by kernel_rfl) (by kernel_rfl) (by kernel_rfl) (by kernel_rfl) (by rw [hFn]; kernel_rfl) ?_
                 refine kD 8 ?_
                 obtain ⟨hm, h70⟩ := asrt h69
                 refine RJ.rel (d := (some 70)) (ef := ⟨.vc 6, [4, 5], [(4, .gone), (6, .vec (s5.2.2.length + ([(⟨y15.1, y8.1, y12.1⟩ : St59)] : List St59).length) 3 60 (s5.2.2.flatMap encSt59 ++ ([(⟨y15.1, y8.1, y12.1⟩ : St59)] : List St59).flatMap encSt59))]⟩) (ef' := ⟨.vc 6, [4, 5], [(4, .gone), (6, vecL encSt59 3 60 (s5.2.2 ++ ([(⟨y15.1, y8.1, y12.1⟩ : St59)] : List St59)))]⟩) (c := room (s5.2.2.length + ([(⟨y15.1, y8.1, y12.1⟩ : St59)] : List St59).length)) (tr2 := [([], []), ([4, 5], []), ([], []), ([], []), ([], []), ([], []), ([], []), ([], [10, 11, 10, 11]), ([8, 9, 10, 11], [8, 9, 12, 13, 12, 13])]) (H2 := [.box [lB x0, iL y12.2, lT x2], .box (q12 [] 0 0 0 0 0 0 0 [] [] [] [] [.nl, .nl, .nl]), .box (q12 y0.1 y2.1 y3.1 y4.1 y1.1 y5.1 y6.1 y7.1 s0.2.1 s0.2.2.1 s0.2.2.2.1 s0.2.2.2.2 [.vc 3, .vc 4, .nl]), vecL encSt57 2 58 s2.2, .gone, vecL encSt59 3 60 ([(⟨y15.1, y8.1, y12.1⟩ : St59)] : List St59), vecL encSt59 3 60 ((s5.2.2 ++ ([(⟨y15.1, y8.1, y12.1⟩ : St59)] : List St59)))]) (by kernel_rfl) hm (fun hc => N.app) (by kernel_rfl) ?_
                 refine kD 2 ?_
                 refine kE ?_
                 refine PJ.blockNormal ?_
                 refine PJ.next ?_
                 refine kR ?_
                 refine kC 2 [0,2,3,55,56] ?_
                 refine kE ?_
                 obtain rfl := oi h70
                 refine kW (L2 := [(0, .ptr 0 0), (2, .ptr 1 0), (3, .ptr 2 0), (55, iL y18.1), (56, iL (IntKind.wrap .i64 (s5.1 + 1)))]) (H2 := [.box [lB x0, iL y12.2, lT x2], .box (q12 [] 0 0 0 0 0 0 0 [] [] [] [] [.nl, .nl, .nl]), .box (q12 y0.1 y2.1 y3.1 y4.1 y1.1 y5.1 y6.1 y7.1 s0.2.1 s0.2.2.1 s0.2.2.2.1 s0.2.2.2.2 [.vc 3, .vc 4, .nl]), vecL encSt57 2 58 s2.2, vecL encSt59 3 60 ((s5.2.2 ++ ([(⟨y15.1, y8.1, y12.1⟩ : St59)] : List St59)))]) hFH hFD [0, 1, 2, 3, 6] ?_
                 exact kLN [0, 2, 3, 55, 56]
                ·have h71 := elimR h23
                 refine K.pivP (by kernel_rfl) (by kernel_rfl) [(0, 62, .ptr 2 13), (1, 63, .vc 4), (2, 64, .str y15.1), (3, 65, .str y8.1), (4, 66, .ptr 0 0)] [6, 7, 8, 9, 10] 5 67 (by kernel_rfl) (by kernel_rfl) (f := 70) (args := [.ptr 0 0, iL 1]) (args0 := [.ptr 0 0, iL 1]) (H0 := [.box [lB x0, iL y8.2, lT x2]]) (H0' := [.box [.undef, iL y8.2, .undef]]) (H2 := [.box [.undef, iL y8.2, .undef], .box (q12 [] 0 0 0 0 0 0 0 [] [] [] [] [.nl, .nl, .nl]), .box (q12 y0.1 y2.1 y3.1 y4.1 y1.1 y5.1 y6.1 y7.1 s0.2.1 s0.2.2.1 s0.2.2.2.1 s0.2.2.2.2 [.vc 3, .vc 4, .nl]), vecL encSt57 2 58 s2.2, vecL encSt59 3 60 s5.2.2]) (by kernel_rfl) [0] (by kernel_rfl) (by kernel_rfl) (by kernel_rfl) (by decide) (by kernel_rfl) (by kernel_rfl) (by kernel_rfl) (.cons (Le.refl _) (.cons (Le.refl _) .nil)) (bund_reader__take_s0_ok1 hy15) (by kernel_rfl) (by kernel_rfl) ?_
                 refine PP.block ?_
                 refine PP.next ?_
                 obtain rfl := oi h71
                 refine PP.loopOut (fun he5 => ?_)
                 have h72 := congrArg some he5
                 refine PP.block ?_
                 obtain rfl := oi h72
                 have h73 := joinX_inr h0
                 refine PP.cutXr ?_
                 obtain rfl := oi h73
                 exact K.panV (H0 := [.box [lB x0, iL x1, lT x2]]) (H' := [.box [.undef, iL y8.2, .undef]]) [0] hFH hFD (by kernel_rfl) (by kernel_rfl) (by decide) (by kernel_rfl) (by kernel_rfl) (by kernel_rfl)
               ·have h74 := elimR h22
                refine RJ.callP (d := (some 61)) (f := 68) (args := [.ptr 0 0]) (args0 := [.ptr 0 0]) (H0 := [.box [lB x0, iL y15.2, lT x2]]) (H0' := [.box [.undef, iL y22, .undef]]) (H2 := [.box [.undef, iL y22, .undef], .box (q12 [] 0 0 0 0 0 0 0 [] [] [] [] [.nl, .nl, .nl]), .box (q12 y0.1 y2.1 y3.1 y4.1 y1.1 y5.1 y6.1 y7.1 s0.2.1 s0.2.2.1 s0.2.2.2.1 s0.2.2.2.2 [.vc 3, .vc 4, .nl]), vecL encSt57 2 58 s2.2, vecL encSt59 3 60 s5.2.2]) [0] (by kernel_rfl) (by kernel_rfl) (by kernel_rfl) (by kernel_rfl) (by decide) (by kernel_rfl) (by kernel_rfl) (by kernel_rfl) (.cons (Le.refl _) .nil) (bund_reader__text_s0_ok1 hy14) (by kernel_rfl) (by kernel_rfl) ?_
                refine PP.next ?_
                refine PP.block ?_
                refine PP.next ?_
                obtain rfl := oi h74
                refine PP.loopOut (fun he6 => ?_)
                have h75 := congrArg some he6
                refine PP.block ?_
                obtain rfl := oi h75
                have h76 := joinX_inr h0
                refine PP.cutXr ?_
                obtain rfl := oi h76
                exact K.panV (H0 := [.box [lB x0, iL x1, lT x2]]) (H' := [.box [.undef, iL y22, .undef]]) [0] hFH hFD (by kernel_rfl) (by kernel_rfl) (by decide) (by kernel_rfl) (by kernel_rfl) (by kernel_rfl)
              ·have h77 := elimR h21
               refine RJ.callP (d := (some 59)) (f := 68) (args := [.ptr 0 0]) (args0 := [.ptr 0 0]) (H0 := [.box [lB x0, iL s5.2.1, lT x2]]) (H0' := [.box [.undef, iL y23, .undef]]) (H2 := [.box [.undef, iL y23, .undef], .box (q12 [] 0 0 0 0 0 0 0 [] [] [] [] [.nl, .nl, .nl]), .box (q12 y0.1 y2.1 y3.1 y4.1 y1.1 y5.1 y6.1 y7.1 s0.2.1 s0.2.2.1 s0.2.2.2.1 s0.2.2.2.2 [.vc 3, .vc 4, .nl]), vecL encSt57 2 58 s2.2, vecL encSt59 3 60 s5.2.2]) [0] (by kernel_rfl) (by kernel_rfl) (by kernel_rfl) (by kernel_rfl) (by decide) (by kernel_rfl) (by kernel_rfl) (by kernel_rfl) (.cons (Le.refl _) .nil) (bund_reader__text_s0_ok1 hy13) (by kernel_rfl) (by kernel_rfl) ?_
               refine PP.next ?_
               refine PP.block ?_
               refine PP.next ?_
               obtain rfl := oi h77
               refine PP.loopOut (fun he7 => ?_)
               have h78 := congrArg some he7
               refine PP.block ?_
               obtain rfl := oi h78
               have h79 := joinX_inr h0
               refine PP.cutXr ?_
               obtain rfl := oi h79
               exact K.panV (H0 := [.box [lB x0, iL x1, lT x2]]) (H' := [.box [.undef, iL y23, .undef]]) [0] hFH hFD (by kernel_rfl) (by kernel_rfl) (by decide) (by kernel_rfl) (by kernel_rfl) (by kernel_rfl)
             ·refine kF ?_
              refine K.exit 4 (by kernel_rfl) ?_
              refine PJ.passExit ?_
              obtain rfl := oi h66
              refine PJ.loopOut (fun e => nomatch e) (fun he8 => ?_)
              have h80 := congrArg some he8
              refine PJ.blockOut ?_
              obtain rfl := oi h80
              exact kXl [0, 2, 3]
            ·have h81 := elimR h20
             refine RJ.callP (d := (some 55)) (f := 70) (args := [.ptr 0 0, iL 2]) (args0 := [.ptr 0 0, iL 2]) (H0 := [.box [lB x0, iL s2.1, lT x2]]) (H0' := [.box [.undef, iL s2.1, .undef]]) (H2 := [.box [.undef, iL s2.1, .undef], .box (q12 [] 0 0 0 0 0 0 0 [] [] [] [] [.nl, .nl, .nl]), .box (q12 y0.1 y2.1 y3.1 y4.1 y1.1 y5.1 y6.1 y7.1 s0.2.1 s0.2.2.1 s0.2.2.2.1 s0.2.2.2.2 [.vc 3, .nl, .nl]), vecL encSt57 2 58 s2.2]) [0] (by kernel_rfl) (by kernel_rfl) (by kernel_rfl) (by kernel_rfl) (by decide) (by kernel_rfl) (by kernel_rfl) (by kernel_rfl) (.cons (Le.refl _) (.cons (Le.refl _) .nil)) (bund_reader__take_s0_ok1 hy12) (by kernel_rfl) (by kernel_rfl) ?_
             refine PP.next ?_
             obtain rfl := oi h81
             have h82 := joinX_inr h0
             refine PP.cutXr ?_
             obtain rfl := oi h82
             exact K.panV (H0 := [.box [lB x0, iL x1, lT x2]]) (H' := [.box [.undef, iL s2.1, .undef]]) [0] hFH hFD (by kernel_rfl) (by kernel_rfl) (by decide) (by kernel_rfl) (by kernel_rfl) (by kernel_rfl)
           ·subst hs
            have h83 := joinX_inl h0
            obtain ⟨y63, hy23, h1⟩ := bindS h83
            refine K.cutX (by kernel_rfl) (fun (s7 : Int × (List St61)) => ([(2, .ptr 1 0), (3, .ptr 2 0)], [.box [lB x0, iL s7.1, lT x2], .box (q12 [] 0 0 0 0 0 0 0 [] [] [] [] [.nl, .nl, .nl]), .box (q12 y0.1 y2.1 y3.1 y4.1 y1.1 y5.1 y6.1 y7.1 s0.2.1 s0.2.2.1 s0.2.2.2.1 s0.2.2.2.2 [.vc 3, .vc 4, .vc 5]), vecL encSt57 2 58 s2.2, vecL encSt59 3 60 s6.2, vecL encSt61 3 62 s7.2])) y63 ?_ (fun s7 hs => ?_)
            ·refine kSR ?_
             refine kC 1 [0,2,3,73] ?_
             obtain ⟨y42, hy16, h24⟩ := bindS hy23
             rcases y42 with y19 | y52
             ·have h84 := elimL h24
              refine kCG (some 74) (args := [.ptr 0 0, iL 2]) (v := iL y19.1) (H2 := [.box [lB x0, iL y19.2, lT x2], .box (q12 [] 0 0 0 0 0 0 0 [] [] [] [] [.nl, .nl, .nl]), .box (q12 y0.1 y2.1 y3.1 y4.1 y1.1 y5.1 y6.1 y7.1 s0.2.1 s0.2.2.1 s0.2.2.2.1 s0.2.2.2.2 [.vc 3, .vc 4, .nl]), vecL encSt57 2 58 s2.2, vecL encSt59 3 60 s6.2]) [0] (bund_reader__take_s0_ok0 hy16) ?_
              refine kC 1 [0,2,3,74,75] ?_
              refine kEN ?_
              refine kb 6 ?_
              refine J.wk (Wk.vivBox 2 14 3 62 (cs := (q12 y0.1 y2.1 y3.1 y4.1 y1.1 y5.1 y6.1 y7.1 s0.2.1 s0.2.2.1 s0.2.2.2.1 s0.2.2.2.2 [.vc 3, .vc 4, .nl])) (by kernel_rfl) (by kernel_rfl)) ?_
              refine kl (fun (s3 : Int × Int × (List St61)) => ([(0, .ptr 0 0), (2, .ptr 1 0), (3, .ptr 2 0), (74, iL y19.1), (75, iL s3.1)], [.box [lB x0, iL s3.2.1, lT x2], .box (q12 [] 0 0 0 0 0 0 0 [] [] [] [] [.nl, .nl, .nl]), .box (q12 y0.1 y2.1 y3.1 y4.1 y1.1 y5.1 y6.1 y7.1 s0.2.1 s0.2.2.1 s0.2.2.2.1 s0.2.2.2.2 [.vc 3, .vc 4, .vc 5]), vecL encSt57 2 58 s2.2, vecL encSt59 3 60 s6.2, vecL encSt61 3 62 s3.2.2])) h84 [0, 2, 3, 74, 75] (fun s3 x949 hs3 => ?_)
              refine kSR ?_
              refine kC 1 [0,2,3,74,75,76] ?_
              refine kEN ?_
              refine kS ?_
              refine kBJ 76 hs3 (fun h85 => ?_) (fun h86 => ?_)
              ·refine kT ?_
               refine kK ?_
               refine PJ.next ?_
               refine kS ?_
               refine kb 7 ?_
               refine kSR ?_
               refine kC 1 [0,2,3,74,75,77] ?_
               obtain ⟨y43, hy17, h25⟩ := bindS h85
               rcases y43 with y9 | y51
               ·have h87 := elimL h25
                refine kCG (some 78) (args := [.ptr 0 0, iL 1]) (v := iL y9.1) (H2 := [.box [lB x0, iL y9.2, lT x2], .box (q12 [] 0 0 0 0 0 0 0 [] [] [] [] [.nl, .nl, .nl]), .box (q12 y0.1 y2.1 y3.1 y4.1 y1.1 y5.1 y6.1 y7.1 s0.2.1 s0.2.2.1 s0.2.2.2.1 s0.2.2.2.2 [.vc 3, .vc 4, .vc 5]), vecL encSt57 2 58 s2.2, vecL encSt59 3 60 s6.2, vecL encSt61 3 62 s3.2.2]) [0] (bund_reader__take_s0_ok0 hy17) ?_
                refine kC 1 [0,2,3,74,75,78,79] ?_
                obtain ⟨y44, hy18, h26⟩ := bindS h87
                rcases y44 with y13 | y50
                ·have h88 := elimL h26
                 refine kCG (some 80) (args := [.ptr 0 0, iL 1]) (v := iL y13.1) (H2 := [.box [lB x0, iL y13.2, lT x2], .box (q12 [] 0 0 0 0 0 0 0 [] [] [] [] [.nl, .nl, .nl]), .box (q12 y0.1 y2.1 y3.1 y4.1 y1.1 y5.1 y6.1 y7.1 s0.2.1 s0.2.2.1 s0.2.2.2.1 s0.2.2.2.2 [.vc 3, .vc 4, .vc 5]), vecL encSt57 2 58 s2.2, vecL encSt59 3 60 s6.2, vecL encSt61 3 62 s3.2.2]) [0] (bund_reader__take_s0_ok0 hy18) ?_
                 refine kC 2 [0,2,3,8,9,74,75] ?_
                 refine kEN ?_
                 refine J.keep [0, 2, 3, 8, 9, 74, 75] (L2 := [(0, .ptr 0 0), (2, .ptr 1 0), (3, .ptr 2 0), (8, iL y9.1), (9, iL y13.1), (74, iL y19.1), (75, iL s3.1)]) (by kernel_rfl) ?_
                 obtain ⟨y45, hy19, h27⟩ := bindS h88
                 rcases y45 with y14 | y24
                 ·have h89 := elimL h27
                  refine K.piv (by kernel_rfl) (by kernel_rfl) [(0, 81, .ptr 2 14), (1, 82, .vc 5), (2, 83, iL y9.1), (3, 84, iL y13.1), (4, 85, .ptr 0 0)] [6, 7, 8, 9, 10] 5 86 (by kernel_rfl) (by kernel_rfl) (f := 68) (args := [.ptr 0 0]) (args0 := [.ptr 0 0]) (v0 := .str y14.1) (v := .str y14.1) (H0 := [.box [lB x0, iL y13.2, lT x2]]) (H0' := [.box [lB x0, iL y14.2, lT x2]]) (H2 := [.box [lB x0, iL y14.2, lT x2], .box (q12 [] 0 0 0 0 0 0 0 [] [] [] [] [.nl, .nl, .nl]), .box (q12 y0.1 y2.1 y3.1 y4.1 y1.1 y5.1 y6.1 y7.1 s0.2.1 s0.2.2.1 s0.2.2.2.1 s0.2.2.2.2 [.vc 3, .vc 4, .vc 5]), vecL encSt57 2 58 s2.2, vecL encSt59 3 60 s6.2, vecL encSt61 3 62 s3.2.2]) (H3 := [.box [lB x0, iL y14.2, lT x2], .box (q12 [] 0 0 0 0 0 0 0 [] [] [] [] [.nl, .nl, .nl]), .box (q12 y0.1 y2.1 y3.1 y4.1 y1.1 y5.1 y6.1 y7.1 s0.2.1 s0.2.2.1 s0.2.2.2.1 s0.2.2.2.2 [.vc 3, .vc 4, .vc 5]), vecL encSt57 2 58 s2.2, vecL encSt59 3 60 s6.2, vecL encSt61 3 62 s3.2.2, .res, .res]) (n := 6) (by kernel_rfl) [0] (by kernel_rfl) (by kernel_rfl) (by kernel_rfl) (by decide) (by kernel_rfl) (by kernel_rfl) (by kernel_rfl) (.cons (Le.refl _) .nil) (bund_reader__text_s0_ok0 hy19) (by kernel_rfl) (by kernel_rfl) (by kernel_rfl) (by kernel_rfl) (by kernel_rfl) (by kernel_rfl) (by kernel_rfl) (by rw [hFn]; kernel_rfl) ?_
                  refine kD 8 ?_
                  obtain ⟨hm, h90⟩ := asrt h89
                  refine RJ.rel (d := (some 89)) (ef := ⟨.vc 7, [5, 6], [(5, .gone), (7, .vec (s3.2.2.length + ([(⟨y9.1, y13.1, y14.1⟩ : St61)] : List St61).length) 3 62 (s3.2.2.flatMap encSt61 ++ ([(⟨y9.1, y13.1, y14.1⟩ : St61)] : List St61).flatMap encSt61))]⟩) (ef' := ⟨.vc 7, [5, 6], [(5, .gone), (7, vecL encSt61 3 62 (s3.2.2 ++ ([(⟨y9.1, y13.1, y14.1⟩ : St61)] : List St61)))]⟩) (c := room (s3.2.2.length + ([(⟨y9.1, y13.1, y14.1⟩ : St61)] : List St61).length)) (tr2 := [([], []), ([4, 5], []), ([], []), ([], []), ([], []), ([], []), ([], []), ([], [12, 13, 12, 13]), ([10, 11, 12, 13], [10, 11, 14, 15, 14, 15])]) (H2 := [.box [lB x0, iL y14.2, lT x2], .box (q12 [] 0 0 0 0 0 0 0 [] [] [] [] [.nl, .nl, .nl]), .box (q12 y0.1 y2.1 y3.1 y4.1 y1.1 y5.1 y6.1 y7.1 s0.2.1 s0.2.2.1 s0.2.2.2.1 s0.2.2.2.2 [.vc 3, .vc 4, .vc 5]), vecL encSt57 2 58 s2.2, vecL encSt59 3 60 s6.2, .gone, vecL encSt61 3 62 ([(⟨y9.1, y13.1, y14.1⟩ : St61)] : List St61), vecL encSt61 3 62 ((s3.2.2 ++ ([(⟨y9.1, y13.1, y14.1⟩ : St61)] : List St61)))]) (by kernel_rfl) hm (fun hc => N.app) (by kernel_rfl) ?_
                  refine kD 2 ?_
                  refine kE ?_
                  refine PJ.blockNormal ?_
                  refine PJ.next ?_
                  refine kR ?_
                  refine kC 2 [0,2,3,74,75] ?_
                  refine kE ?_
                  obtain rfl := oi h90
                  refine kW (L2 := [(0, .ptr 0 0), (2, .ptr 1 0), (3, .ptr 2 0), (74, iL y19.1), (75, iL (IntKind.wrap .i64 (s3.1 + 1)))]) (H2 := [.box [lB x0, iL y14.2, lT x2], .box (q12 [] 0 0 0 0 0 0 0 [] [] [] [] [.nl, .nl, .nl]), .box (q12 y0.1 y2.1 y3.1 y4.1 y1.1 y5.1 y6.1 y7.1 s0.2.1 s0.2.2.1 s0.2.2.2.1 s0.2.2.2.2 [.vc 3, .vc 4, .vc 5]), vecL encSt57 2 58 s2.2, vecL encSt59 3 60 s6.2, vecL encSt61 3 62 ((s3.2.2 ++ ([(⟨y9.1, y13.1, y14.1⟩ : St61)] : List St61)))]) hFH hFD [0, 1, 2, 3, 4, 7] ?_
                  exact kLN [0, 2, 3, 74, 75]
                 ·have h91 := elimR h27
                  refine K.pivP (by kernel_rfl) (by kernel_rfl) [(0, 81, .ptr 2 14), (1, 82, .vc 5), (2, 83, iL y9.1), (3, 84, iL y13.1), (4, 85, .ptr 0 0)] [6, 7, 8, 9, 10] 5 86 (by kernel_rfl) (by kernel_rfl) (f := 68) (args := [.ptr 0 0]) (args0 := [.ptr 0 0]) (H0 := [.box [lB x0, iL y13.2, lT x2]]) (H0' := [.box [.undef, iL y24, .undef]]) (H2 := [.box [.undef, iL y24, .undef], .box (q12 [] 0 0 0 0 0 0 0 [] [] [] [] [.nl, .nl, .nl]), .box (q12 y0.1 y2.1 y3.1 y4.1 y1.1 y5.1 y6.1 y7.1 s0.2.1 s0.2.2.1 s0.2.2.2.1 s0.2.2.2.2 [.vc 3, .vc 4, .vc 5]), vecL encSt57 2 58 s2.2, vecL encSt59 3 60 s6.2, vecL encSt61 3 62 s3.2.2]) (by kernel_rfl) [0] (by kernel_rfl) (by kernel_rfl) (by kernel_rfl) (by decide) (by kernel_rfl) (by kernel_rfl) (by kernel_rfl) (.cons (Le.refl _) .nil) (bund_reader__text_s0_ok1 hy19) (by kernel_rfl) (by kernel_rfl) ?_
                  refine PP.block ?_
                  refine PP.next ?_
                  obtain rfl := oi h91
                  refine PP.loopOut (fun he9 => ?_)
                  have h92 := congrArg some he9
                  refine PP.block ?_
                  obtain rfl := oi h92
                  have h93 := joinX_inr h1
                  refine PP.cutXr ?_
                  obtain rfl := oi h93
                  exact K.panV (H0 := [.box [lB x0, iL x1, lT x2]]) (H' := [.box [.undef, iL y24, .undef]]) [0] hFH hFD (by kernel_rfl) (by kernel_rfl) (by decide) (by kernel_rfl) (by kernel_rfl) (by kernel_rfl)
                ·have h94 := elimR h26
                 refine RJ.callP (d := (some 80)) (f := 70) (args := [.ptr 0 0, iL 1]) (args0 := [.ptr 0 0, iL 1]) (H0 := [.box [lB x0, iL y9.2, lT x2]]) (H0' := [.box [.undef, iL y9.2, .undef]]) (H2 := [.box [.undef, iL y9.2, .undef], .box (q12 [] 0 0 0 0 0 0 0 [] [] [] [] [.nl, .nl, .nl]), .box (q12 y0.1 y2.1 y3.1 y4.1 y1.1 y5.1 y6.1 y7.1 s0.2.1 s0.2.2.1 s0.2.2.2.1 s0.2.2.2.2 [.vc 3, .vc 4, .vc 5]), vecL encSt57 2 58 s2.2, vecL encSt59 3 60 s6.2, vecL encSt61 3 62 s3.2.2]) [0] (by kernel_rfl) (by kernel_rfl) (by kernel_rfl) (by kernel_rfl) (by decide) (by kernel_rfl) (by kernel_rfl) (by kernel_rfl) (.cons (Le.refl _) (.cons (Le.refl _) .nil)) (bund_reader__take_s0_ok1 hy18) (by kernel_rfl) (by kernel_rfl) ?_
                 refine PP.next ?_
                 refine PP.block ?_
                 refine PP.next ?_
                 obtain rfl := oi h94
                 refine PP.loopOut (fun he10 => ?_)
                 have h95 := congrArg some he10
                 refine PP.block ?_
                 obtain rfl := oi h95
                 have h96 := joinX_inr h1
                 refine PP.cutXr ?_
                 obtain rfl := oi h96
                 exact K.panV (H0 := [.box [lB x0, iL x1, lT x2]]) (H' := [.box [.undef, iL y9.2, .undef]]) [0] hFH hFD (by kernel_rfl) (by kernel_rfl) (by decide) (by kernel_rfl) (by kernel_rfl) (by kernel_rfl)
               ·have h97 := elimR h25
                refine RJ.callP (d := (some 78)) (f := 70) (args := [.ptr 0 0, iL 1]) (args0 := [.ptr 0 0, iL 1]) (H0 := [.box [lB x0, iL s3.2.1, lT x2]]) (H0' := [.box [.undef, iL s3.2.1, .undef]]) (H2 := [.box [.undef, iL s3.2.1, .undef], .box (q12 [] 0 0 0 0 0 0 0 [] [] [] [] [.nl, .nl, .nl]), .box (q12 y0.1 y2.1 y3.1 y4.1 y1.1 y5.1 y6.1 y7.1 s0.2.1 s0.2.2.1 s0.2.2.2.1 s0.2.2.2.2 [.vc 3, .vc 4, .vc 5]), vecL encSt57 2 58 s2.2, vecL encSt59 3 60 s6.2, vecL encSt61 3 62 s3.2.2]) [0] (by kernel_rfl) (by kernel_rfl) (by kernel_rfl) (by kernel_rfl) (by decide) (by kernel_rfl) (by kernel_rfl) (by kernel_rfl) (.cons (Le.refl _) (.cons (Le.refl _) .nil)) (bund_reader__take_s0_ok1 hy17) (by kernel_rfl) (by kernel_rfl) ?_
                refine PP.next ?_
                refine PP.block ?_
                refine PP.next ?_
                obtain rfl := oi h97
                refine PP.loopOut (fun he11 => ?_)
                have h98 := congrArg some he11
                refine PP.block ?_
                obtain rfl := oi h98
                have h99 := joinX_inr h1
                refine PP.cutXr ?_
                obtain rfl := oi h99
                exact K.panV (H0 := [.box [lB x0, iL x1, lT x2]]) (H' := [.box [.undef, iL s3.2.1, .undef]]) [0] hFH hFD (by kernel_rfl) (by kernel_rfl) (by decide) (by kernel_rfl) (by kernel_rfl) (by kernel_rfl)
              ·refine kF ?_
               refine K.exit 6 (by kernel_rfl) ?_
               refine PJ.passExit ?_
               obtain rfl := oi h86
               refine PJ.loopOut (fun e => nomatch e) (fun he12 => ?_)
               have h100 := congrArg some he12
               refine PJ.blockOut ?_
               obtain rfl := oi h100
               exact kXl [2, 3]
             ·have h101 := elimR h24
              refine RJ.callP (d := (some 74)) (f := 70) (args := [.ptr 0 0, iL 2]) (args0 := [.ptr 0 0, iL 2]) (H0 := [.box [lB x0, iL s6.1, lT x2]]) (H0' := [.box [.undef, iL s6.1, .undef]]) (H2 := [.box [.undef, iL s6.1, .undef], .box (q12 [] 0 0 0 0 0 0 0 [] [] [] [] [.nl, .nl, .nl]), .box (q12 y0.1 y2.1 y3.1 y4.1 y1.1 y5.1 y6.1 y7.1 s0.2.1 s0.2.2.1 s0.2.2.2.1 s0.2.2.2.2 [.vc 3, .vc 4, .nl]), vecL encSt57 2 58 s2.2, vecL encSt59 3 60 s6.2]) [0] (by kernel_rfl) (by kernel_rfl) (by kernel_rfl) (by kernel_rfl) (by decide) (by kernel_rfl) (by kernel_rfl) (by kernel_rfl) (.cons (Le.refl _) (.cons (Le.refl _) .nil)) (bund_reader__take_s0_ok1 hy16) (by kernel_rfl) (by kernel_rfl) ?_
              refine PP.next ?_
              obtain rfl := oi h101
              have h102 := joinX_inr h1
              refine PP.cutXr ?_
              obtain rfl := oi h102
              exact K.panV (H0 := [.box [lB x0, iL x1, lT x2]]) (H' := [.box [.undef, iL s6.1, .undef]]) [0] hFH hFD (by kernel_rfl) (by kernel_rfl) (by decide) (by kernel_rfl) (by kernel_rfl) (by kernel_rfl)
            ·subst hs
             have h103 := joinX_inl h1
             refine kSR ?_
             refine kC 2 [2] ?_
             refine kEN ?_
             refine kX ?_
             obtain rfl := oi h103
             refine PJ.wk (Wk.freeze 3 (n := s2.2.length) (k := 2) (e := 58) (cs := s2.2.flatMap encSt57) (by kernel_rfl)) ?_
             refine PJ.wk (Wk.freeze 4 (n := s6.2.length) (k := 3) (e := 60) (cs := s6.2.flatMap encSt59) (by kernel_rfl)) ?_
             refine PJ.wk (Wk.freeze 5 (n := s7.2.length) (k := 3) (e := 62) (cs := s7.2.flatMap encSt61) (by kernel_rfl)) ?_
             exact kV [0] hFn hFH hFD (v1 := .agg (q12 y0.1 y2.1 y3.1 y4.1 y1.1 y5.1 y6.1 y7.1 s0.2.1 s0.2.2.1 s0.2.2.2.1 s0.2.2.2.2 [lsv encSt57 2 s2.2, lsv encSt59 3 s6.2, lsv encSt61 3 s7.2]))
        ·have h104 := elimR h10
         refine RJ.callP (d := (some 26)) (f := 69) (args := [.ptr 0 0]) (args0 := [.ptr 0 0]) (H0 := [.box [lB x0, iL y6.2, lT x2]]) (H0' := [.box [.undef, iL y6.2, .undef]]) (H2 := [.box [.undef, iL y6.2, .undef], .box (q12 [] 0 0 0 0 0 0 0 [] [] [] [] [.nl, .nl, .nl]), .box (q12 y0.1 0 0 0 0 0 0 0 [] [] [] [] [.nl, .nl, .nl])]) [0] (by kernel_rfl) (by kernel_rfl) (by kernel_rfl) (by kernel_rfl) (by decide) (by kernel_rfl) (by kernel_rfl) (by kernel_rfl) (.cons (Le.refl _) .nil) (bund_reader__sign_s0_ok1 hy7) (by kernel_rfl) (by kernel_rfl) ?_
         refine PP.next ?_
         obtain rfl := oi h104
         exact K.panV (H0 := [.box [lB x0, iL x1, lT x2]]) (H' := [.box [.undef, iL y6.2, .undef]]) [0] hFH hFD (by kernel_rfl) (by kernel_rfl) (by decide) (by kernel_rfl) (by kernel_rfl) (by kernel_rfl)
       ·have h105 := elimR h9
        refine RJ.callP (d := (some 24)) (f := 69) (args := [.ptr 0 0]) (args0 := [.ptr 0 0]) (H0 := [.box [lB x0, iL y5.2, lT x2]]) (H0' := [.box [.undef, iL y5.2, .undef]]) (H2 := [.box [.undef, iL y5.2, .undef], .box (q12 [] 0 0 0 0 0 0 0 [] [] [] [] [.nl, .nl, .nl]), .box (q12 y0.1 0 0 0 0 0 0 0 [] [] [] [] [.nl, .nl, .nl])]) [0] (by kernel_rfl) (by kernel_rfl) (by kernel_rfl) (by kernel_rfl) (by decide) (by kernel_rfl) (by kernel_rfl) (by kernel_rfl) (.cons (Le.refl _) .nil) (bund_reader__sign_s0_ok1 hy6) (by kernel_rfl) (by kernel_rfl) ?_
        refine PP.next ?_
        obtain rfl := oi h105
        exact K.panV (H0 := [.box [lB x0, iL x1, lT x2]]) (H' := [.box [.undef, iL y5.2, .undef]]) [0] hFH hFD (by kernel_rfl) (by kernel_rfl) (by decide) (by kernel_rfl) (by kernel_rfl) (by kernel_rfl)
      ·have h106 := elimR h8
       refine RJ.callP (d := (some 22)) (f := 69) (args := [.ptr 0 0]) (args0 := [.ptr 0 0]) (H0 := [.box [lB x0, iL y1.2, lT x2]]) (H0' := [.box [.undef, iL y1.2, .undef]]) (H2 := [.box [.undef, iL y1.2, .undef], .box (q12 [] 0 0 0 0 0 0 0 [] [] [] [] [.nl, .nl, .nl]), .box (q12 y0.1 0 0 0 0 0 0 0 [] [] [] [] [.nl, .nl, .nl])]) [0] (by kernel_rfl) (by kernel_rfl) (by kernel_rfl) (by kernel_rfl) (by decide) (by kernel_rfl) (by kernel_rfl) (by kernel_rfl) (.cons (Le.refl _) .nil) (bund_reader__sign_s0_ok1 hy5) (by kernel_rfl) (by kernel_rfl) ?_
       refine PP.next ?_
       obtain rfl := oi h106
       exact K.panV (H0 := [.box [lB x0, iL x1, lT x2]]) (H' := [.box [.undef, iL y1.2, .undef]]) [0] hFH hFD (by kernel_rfl) (by kernel_rfl) (by decide) (by kernel_rfl) (by kernel_rfl) (by kernel_rfl)
     ·have h107 := elimR h7
      refine RJ.callP (d := (some 20)) (f := 69) (args := [.ptr 0 0]) (args0 := [.ptr 0 0]) (H0 := [.box [lB x0, iL y4.2, lT x2]]) (H0' := [.box [.undef, iL y4.2, .undef]]) (H2 := [.box [.undef, iL y4.2, .undef], .box (q12 [] 0 0 0 0 0 0 0 [] [] [] [] [.nl, .nl, .nl]), .box (q12 y0.1 0 0 0 0 0 0 0 [] [] [] [] [.nl, .nl, .nl])]) [0] (by kernel_rfl) (by kernel_rfl) (by kernel_rfl) (by kernel_rfl) (by decide) (by kernel_rfl) (by kernel_rfl) (by kernel_rfl) (.cons (Le.refl _) .nil) (bund_reader__sign_s0_ok1 hy4) (by kernel_rfl) (by kernel_rfl) ?_
      refine PP.next ?_
      obtain rfl := oi h107
      exact K.panV (H0 := [.box [lB x0, iL x1, lT x2]]) (H' := [.box [.undef, iL y4.2, .undef]]) [0] hFH hFD (by kernel_rfl) (by kernel_rfl) (by decide) (by kernel_rfl) (by kernel_rfl) (by kernel_rfl)
    ·have h108 := elimR h6
     refine RJ.callP (d := (some 18)) (f := 69) (args := [.ptr 0 0]) (args0 := [.ptr 0 0]) (H0 := [.box [lB x0, iL y3.2, lT x2]]) (H0' := [.box [.undef, iL y3.2, .undef]]) (H2 := [.box [.undef, iL y3.2, .undef], .box (q12 [] 0 0 0 0 0 0 0 [] [] [] [] [.nl, .nl, .nl]), .box (q12 y0.1 0 0 0 0 0 0 0 [] [] [] [] [.nl, .nl, .nl])]) [0] (by kernel_rfl) (by kernel_rfl) (by kernel_rfl) (by kernel_rfl) (by decide) (by kernel_rfl) (by kernel_rfl) (by kernel_rfl) (.cons (Le.refl _) .nil) (bund_reader__sign_s0_ok1 hy3) (by kernel_rfl) (by kernel_rfl) ?_
     refine PP.next ?_
     obtain rfl := oi h108
     exact K.panV (H0 := [.box [lB x0, iL x1, lT x2]]) (H' := [.box [.undef, iL y3.2, .undef]]) [0] hFH hFD (by kernel_rfl) (by kernel_rfl) (by decide) (by kernel_rfl) (by kernel_rfl) (by kernel_rfl)
   ·have h109 := elimR h5
    refine RJ.callP (d := (some 16)) (f := 69) (args := [.ptr 0 0]) (args0 := [.ptr 0 0]) (H0 := [.box [lB x0, iL y2.2, lT x2]]) (H0' := [.box [.undef, iL y2.2, .undef]]) (H2 := [.box [.undef, iL y2.2, .undef], .box (q12 [] 0 0 0 0 0 0 0 [] [] [] [] [.nl, .nl, .nl]), .box (q12 y0.1 0 0 0 0 0 0 0 [] [] [] [] [.nl, .nl, .nl])]) [0] (by kernel_rfl) (by kernel_rfl) (by kernel_rfl) (by kernel_rfl) (by decide) (by kernel_rfl) (by kernel_rfl) (by kernel_rfl) (.cons (Le.refl _) .nil) (bund_reader__sign_s0_ok1 hy2) (by kernel_rfl) (by kernel_rfl) ?_
    refine PP.next ?_
    obtain rfl := oi h109
    exact K.panV (H0 := [.box [lB x0, iL x1, lT x2]]) (H' := [.box [.undef, iL y2.2, .undef]]) [0] hFH hFD (by kernel_rfl) (by kernel_rfl) (by decide) (by kernel_rfl) (by kernel_rfl) (by kernel_rfl)
  ·have h110 := elimR h4
   refine RJ.callP (d := (some 14)) (f := 69) (args := [.ptr 0 0]) (args0 := [.ptr 0 0]) (H0 := [.box [lB x0, iL y0.2, lT x2]]) (H0' := [.box [.undef, iL y0.2, .undef]]) (H2 := [.box [.undef, iL y0.2, .undef], .box (q12 [] 0 0 0 0 0 0 0 [] [] [] [] [.nl, .nl, .nl]), .box (q12 y0.1 0 0 0 0 0 0 0 [] [] [] [] [.nl, .nl, .nl])]) [0] (by kernel_rfl) (by kernel_rfl) (by kernel_rfl) (by kernel_rfl) (by decide) (by kernel_rfl) (by kernel_rfl) (by kernel_rfl) (.cons (Le.refl _) .nil) (bund_reader__sign_s0_ok1 hy1) (by kernel_rfl) (by kernel_rfl) ?_
   refine PP.next ?_
   obtain rfl := oi h110
   exact K.panV (H0 := [.box [lB x0, iL x1, lT x2]]) (H' := [.box [.undef, iL y0.2, .undef]]) [0] hFH hFD (by kernel_rfl) (by kernel_rfl) (by decide) (by kernel_rfl) (by kernel_rfl) (by kernel_rfl)
 ·have h111 := elimR h3
  refine RJ.callP (d := (some 11)) (f := 68) (args := [.ptr 0 0]) (args0 := [.ptr 0 0]) (H0 := [.box [lB x0, iL x1, lT x2]]) (H0' := [.box [.undef, iL y25, .undef]]) (H2 := [.box [.undef, iL y25, .undef], .box (q12 [] 0 0 0 0 0 0 0 [] [] [] [] [.nl, .nl, .nl]), .box (q12 [] 0 0 0 0 0 0 0 [] [] [] [] [.nl, .nl, .nl])]) [0] (by kernel_rfl) (by kernel_rfl) (by kernel_rfl) (by kernel_rfl) (by decide) (by kernel_rfl) (by kernel_rfl) (by kernel_rfl) (.cons (Le.refl _) .nil) (bund_reader__text_s0_ok1 hy0) (by kernel_rfl) (by kernel_rfl) ?_
  refine PP.next ?_
  obtain rfl := oi h111
  exact K.panV (H0 := [.box [lB x0, iL x1, lT x2]]) (H' := [.box [.undef, iL y25, .undef]]) [0] hFH hFD (by kernel_rfl) (by kernel_rfl) (by decide) (by kernel_rfl) (by kernel_rfl) (by kernel_rfl)
theorem bund_reader__locale_s0_ok0 {x0 : List Int} {x1 : Int} {x2 : List (List UInt8)} {r : St28 × Int} (h : bund_reader__locale_s0 x0 x1 x2 = some (.inl r)) : SC Try.prog 56 [.ptr 0 0] [.box [lB x0, iL x1, lT x2]] (.agg (encSt28 r.1)) [.box [lB x0, iL r.2, lT x2]] := (bund_reader__locale_s0_okW h).1 _ rfl
theorem bund_reader__locale_s0_ok1 {x0 : List Int} {x1 : Int} {x2 : List (List UInt8)} {r : Int} (h : bund_reader__locale_s0 x0 x1 x2 = some (.inr r)) : SP Try.prog 56 [.ptr 0 0] [.box [lB x0, iL x1, lT x2]] [.box [.undef, iL r, .undef]] := (bund_reader__locale_s0_okW h).2 _ rfl
def bund_read_1_s0 (x0 : List UInt8) (x1 : Int) (x2 : Int) (x3 : Int) (x4 : Int) (x5 : Int) (x6 : Int) (x7 : Int) (x8 : List UInt8) (x9 : List UInt8) (x10 : List UInt8) (x11 : List UInt8) (x12 : List St57) (x13 : List St59) (x14 : List St61) (x15 : Bool) : Option (Unit) :=
 (some ())
theorem bund_read_1_s0_ok {x0 : List UInt8} {x1 : Int} {x2 : Int} {x3 : Int} {x4 : Int} {x5 : Int} {x6 : Int} {x7 : Int} {x8 : List UInt8} {x9 : List UInt8} {x10 : List UInt8} {x11 : List UInt8} {x12 : List St57} {x13 : List St59} {x14 : List St61} {x15 : Bool} {r : Unit} (h : bund_read_1_s0 x0 x1 x2 x3 x4 x5 x6 x7 x8 x9 x10 x11 x12 x13 x14 x15 = some r) : SD Try.prog 54 false [.ptr 0 0, .ptr 1 0] [.box (q12 x0 x1 x2 x3 x4 x5 x6 x7 x8 x9 x10 x11 [lsv encSt57 2 x12, lsv encSt59 3 x13, lsv encSt61 3 x14]), .box [.bool x15]] [.box (q12 x0 x1 x2 x3 x4 x5 x6 x7 x8 x9 x10 x11 [lsv encSt57 2 x12, lsv encSt59 3 x13, lsv encSt61 3 x14]), .box [.bool x15]] := by
 refine kFnC (fn := Try.f54) false 2 3 (fun F hFn hFH hFD => ?_)
 unfold bund_read_1_s0 at h
 refine kF ?_
 refine kK ?_
 obtain rfl := oi h
 exact K.retV (H0 := [.box (q12 x0 x1 x2 x3 x4 x5 x6 x7 x8 x9 x10 x11 [lsv encSt57 2 x12, lsv encSt59 3 x13, lsv encSt61 3 x14]), .box [.bool x15]]) [0, 1] (.inl rfl) hFn hFH hFD (by kernel_rfl) (v1 := .tup []) (by kernel_rfl) (by kernel_rfl) (by kernel_rfl) (by decide) (by kernel_rfl) (by kernel_rfl) (by kernel_rfl) (by kernel_rfl) (by kernel_rfl)
def bund_read_1_s1 (x0 : List UInt8) (x1 : Int) (x2 : Int) (x3 : Int) (x4 : Int) (x5 : Int) (x6 : Int) (x7 : Int) (x8 : List UInt8) (x9 : List UInt8) (x10 : List UInt8) (x11 : List UInt8) (x12 : Bool) : Option (Unit) :=
 (some ())
theorem bund_read_1_s1_ok {x0 : List UInt8} {x1 : Int} {x2 : Int} {x3 : Int} {x4 : Int} {x5 : Int} {x6 : Int} {x7 : Int} {x8 : List UInt8} {x9 : List UInt8} {x10 : List UInt8} {x11 : List UInt8} {x12 : Bool} {r : Unit} (h : bund_read_1_s1 x0 x1 x2 x3 x4 x5 x6 x7 x8 x9 x10 x11 x12 = some r) : SD Try.prog 54 true [.ptr 0 0, .ptr 1 0] [.box (q12 x0 x1 x2 x3 x4 x5 x6 x7 x8 x9 x10 x11 [.nl, .nl, .nl]), .box [.bool x12]] [.box (q12 [] 0 0 0 0 0 0 0 [] [] [] [] [.nl, .nl, .nl]), .box [.bool false]] := by
 refine kFnC (fn := Try.f54) true 2 3 (fun F hFn hFH hFD => ?_)
 unfold bund_read_1_s1 at h
 refine kT ?_
 refine kR ?_
 refine kC 3 [] ?_
 refine kE ?_
 obtain rfl := oi h
 exact K.retV (H0 := [.box (q12 x0 x1 x2 x3 x4 x5 x6 x7 x8 x9 x10 x11 [.nl, .nl, .nl]), .box [.bool x12]]) [0, 1] (.inl rfl) hFn hFH hFD (by kernel_rfl) (v1 := .tup []) (by kernel_rfl) (by kernel_rfl) (by kernel_rfl) (by decide) (by kernel_rfl) (by kernel_rfl) (by kernel_rfl) (by kernel_rfl) (by kernel_rfl)
def bund_read (x0 : List Int) : Option (St28 × Bool) :=
 (Option.bind (bund_reader__words_s0 x0 56) fun y3 => (Sum.elim (fun y1 => (Option.bind (bund_reader__locale_s0 x0 y1.1 y1.2) fun y4 => (Sum.elim (fun y0 => (Option.bind (bund_read_1_s0 y0.1.Tag_ y0.1.S_.Zero_ y0.1.S_.Dec_ y0.1.S_.Group_ y0.1.S_.Minus_ y0.1.S_.Plus_ y0.1.S_.Percent_ y0.1.S_.Exp_ y0.1.Pats_.a0_ y0.1.Pats_.a1_ y0.1.Pats_.a2_ y0.1.Pats_.a3_ y0.1.Rules_ y0.1.Curs_ y0.1.Comps_ true) fun y5 => (some (y0.1, true)))) (fun y2 => (Option.bind (bund_read_1_s1 [] 0 0 0 0 0 0 0 [] [] [] [] false) fun y6 => (some ((⟨[], (⟨0, 0, 0, 0, 0, 0, 0⟩ : St22), (⟨[], [], [], []⟩ : St24), ([] : List St57), ([] : List St59), ([] : List St61)⟩ : St28), false)))) y4))) (fun y7 => (Option.bind (bund_read_1_s1 [] 0 0 0 0 0 0 0 [] [] [] [] false) fun y8 => (some ((⟨[], (⟨0, 0, 0, 0, 0, 0, 0⟩ : St22), (⟨[], [], [], []⟩ : St24), ([] : List St57), ([] : List St59), ([] : List St61)⟩ : St28), false)))) y3))
theorem bund_read_ok {x0 : List Int} {r : St28 × Bool} (h : bund_read x0 = some r) : SC Try.prog 39 [lB x0] [] (.tup [.agg (encSt28 r.1), .bool r.2]) [] := by
 refine kFnD (fn := Try.f39) (fun F hFn hFH hFD hFds => ?_)
 unfold bund_read at h
 refine kSR ?_
 refine kC 2 [0,2,3] ?_
 refine kEN ?_
 refine kSR ?_
 refine kC 1 [0,2,3,5] ?_
 refine RJ.defer (f := 54) (args := [.ptr 0 0, .ptr 1 0]) (by kernel_rfl) hFds (fun w1 K1 D1 d1 hok hgr hFD1 => ?_)
 refine kEN ?_
 refine kSR ?_
 refine kC 4 [2,3,4] ?_
 refine kEN ?_
 refine kSR ?_
 refine kC 1 [2,3,4,9] ?_
 obtain ⟨y3, hy0, h0⟩ := bindS h
 rcases y3 with y1 | y7
 ·have h2 := elimL h0
  refine kCG (some 10) (args := [.ptr 2 0]) (v := .tup []) (H2 := [.box (q12 [] 0 0 0 0 0 0 0 [] [] [] [] [.nl, .nl, .nl]), .box [.bool false], .box [lB x0, iL y1.1, lT y1.2]]) [2] (bund_reader__words_s0_ok0 hy0) ?_
  refine kEN ?_
  refine kSR ?_
  refine kC 1 [2,3,11] ?_
  obtain ⟨y4, hy1, h1⟩ := bindS h2
  rcases y4 with y0 | y2
  ·have h3 := elimL h1
   refine kCG (some 12) (args := [.ptr 2 0]) (v := .agg (encSt28 y0.1)) (H2 := [.box (q12 [] 0 0 0 0 0 0 0 [] [] [] [] [.nl, .nl, .nl]), .box [.bool false], .box [lB x0, iL y0.2, lT y1.2]]) [2] (bund_reader__locale_s0_ok0 hy1) ?_
   refine kC 2 [2,3] ?_
   refine kEN ?_
   refine kX ?_
   obtain ⟨y5, hy2, h4⟩ := bindS h3
   obtain rfl := oi h4
   exact PJ.retD (args := [.ptr 0 0, .ptr 1 0]) (args0 := [.ptr 0 0, .ptr 1 0]) (H0 := [.box (encSt28 y0.1), .box [.bool true]]) (H0' := [.box (encSt28 y0.1), .box [.bool true]]) (H2 := [.box (encSt28 y0.1), .box [.bool true], .box [lB x0, iL y0.2, lT y1.2]]) (H1 := []) (H' := []) (v := .tup [.agg (encSt28 y0.1), .bool true]) (v1 := .tup [.agg (encSt28 y0.1), .bool true]) [0, 1] [] hok hgr rfl hFn (bund_read_1_s0_ok hy2) (by kernel_rfl) (by kernel_rfl) (by kernel_rfl) (by decide) (by kernel_rfl) (by kernel_rfl) (by kernel_rfl) (by kernel_rfl) (by kernel_rfl) (by kernel_rfl) (by kernel_rfl) hFH hFD (by kernel_rfl) (by kernel_rfl) (by decide) (by kernel_rfl) (by kernel_rfl) (by kernel_rfl) (by kernel_rfl) (by kernel_rfl) (Le.refl _)
  ·have h5 := elimR h1
   refine RJ.callP (d := (some 12)) (f := 56) (args := [.ptr 2 0]) (args0 := [.ptr 0 0]) (H0 := [.box [lB x0, iL y1.1, lT y1.2]]) (H0' := [.box [.undef, iL y2, .undef]]) (H2 := [.box (q12 [] 0 0 0 0 0 0 0 [] [] [] [] [.nl, .nl, .nl]), .box [.bool false], .box [.undef, iL y2, .undef]]) [2] (by kernel_rfl) (by kernel_rfl) (by kernel_rfl) (by kernel_rfl) (by decide) (by kernel_rfl) (by kernel_rfl) (by kernel_rfl) (.cons (Le.refl _) .nil) (bund_reader__locale_s0_ok1 hy1) (by kernel_rfl) (by kernel_rfl) ?_
   refine PP.next ?_
   obtain ⟨y6, hy3, h6⟩ := bindS h5
   obtain rfl := oi h6
   exact PP.retD (args := [.ptr 0 0, .ptr 1 0]) (args0 := [.ptr 0 0, .ptr 1 0]) (H0 := [.box (q12 [] 0 0 0 0 0 0 0 [] [] [] [] [.nl, .nl, .nl]), .box [.bool false]]) (H0' := [.box (q12 [] 0 0 0 0 0 0 0 [] [] [] [] [.nl, .nl, .nl]), .box [.bool false]]) (H2 := [.box (q12 [] 0 0 0 0 0 0 0 [] [] [] [] [.nl, .nl, .nl]), .box [.bool false], .box [.undef, iL y2, .undef]]) (H1 := []) (H' := []) (v := .tup [.agg (q12 [] 0 0 0 0 0 0 0 [] [] [] [] [.nl, .nl, .nl]), .bool false]) (v1 := .tup [.agg (q12 [] 0 0 0 0 0 0 0 [] [] [] [] [.nl, .nl, .nl]), .bool false]) [0, 1] [] hok hgr rfl hFn (bund_read_1_s1_ok hy3) (by kernel_rfl) (by kernel_rfl) (by kernel_rfl) (by decide) (by kernel_rfl) (by kernel_rfl) (by kernel_rfl) (by kernel_rfl) (by kernel_rfl) (by kernel_rfl) (by kernel_rfl) hFH hFD (by kernel_rfl) (by kernel_rfl) (by decide) (by kernel_rfl) (by kernel_rfl) (by kernel_rfl) (by kernel_rfl) (by kernel_rfl) (Le.tup (.cons (Le.agg (.cons (Le.refl _) (.cons (Le.refl _) (.cons (Le.refl _) (.cons (Le.refl _) (.cons (Le.refl _) (.cons (Le.refl _) (.cons (Le.refl _) (.cons (Le.refl _) (.cons (Le.refl _) (.cons (Le.refl _) (.cons (Le.refl _) (.cons (Le.refl _) (.cons (Le.nl _) (.cons (Le.nl _) (.cons (Le.nl _) .nil)))))))))))))))) (.cons (Le.refl _) .nil)))
 ·have h7 := elimR h0
  refine RJ.callP (d := (some 10)) (f := 55) (args := [.ptr 2 0]) (args0 := [.ptr 0 0]) (H0 := [.box [lB x0, iL 56, .nl]]) (H0' := [.box [.undef, iL 56, .undef]]) (H2 := [.box (q12 [] 0 0 0 0 0 0 0 [] [] [] [] [.nl, .nl, .nl]), .box [.bool false], .box [.undef, iL 56, .undef]]) [2] (by kernel_rfl) (by kernel_rfl) (by kernel_rfl) (by kernel_rfl) (by decide) (by kernel_rfl) (by kernel_rfl) (by kernel_rfl) (.cons (Le.refl _) .nil) (bund_reader__words_s0_ok1 hy0) (by kernel_rfl) (by kernel_rfl) ?_
  refine PP.next ?_
  obtain ⟨y8, hy4, h8⟩ := bindS h7
  obtain rfl := oi h8
  exact PP.retD (args := [.ptr 0 0, .ptr 1 0]) (args0 := [.ptr 0 0, .ptr 1 0]) (H0 := [.box (q12 [] 0 0 0 0 0 0 0 [] [] [] [] [.nl, .nl, .nl]), .box [.bool false]]) (H0' := [.box (q12 [] 0 0 0 0 0 0 0 [] [] [] [] [.nl, .nl, .nl]), .box [.bool false]]) (H2 := [.box (q12 [] 0 0 0 0 0 0 0 [] [] [] [] [.nl, .nl, .nl]), .box [.bool false], .box [.undef, iL 56, .undef]]) (H1 := []) (H' := []) (v := .tup [.agg (q12 [] 0 0 0 0 0 0 0 [] [] [] [] [.nl, .nl, .nl]), .bool false]) (v1 := .tup [.agg (q12 [] 0 0 0 0 0 0 0 [] [] [] [] [.nl, .nl, .nl]), .bool false]) [0, 1] [] hok hgr rfl hFn (bund_read_1_s1_ok hy4) (by kernel_rfl) (by kernel_rfl) (by kernel_rfl) (by decide) (by kernel_rfl) (by kernel_rfl) (by kernel_rfl) (by kernel_rfl) (by kernel_rfl) (by kernel_rfl) (by kernel_rfl) hFH hFD (by kernel_rfl) (by kernel_rfl) (by decide) (by kernel_rfl) (by kernel_rfl) (by kernel_rfl) (by kernel_rfl) (by kernel_rfl) (Le.tup (.cons (Le.agg (.cons (Le.refl _) (.cons (Le.refl _) (.cons (Le.refl _) (.cons (Le.refl _) (.cons (Le.refl _) (.cons (Le.refl _) (.cons (Le.refl _) (.cons (Le.refl _) (.cons (Le.refl _) (.cons (Le.refl _) (.cons (Le.refl _) (.cons (Le.refl _) (.cons (Le.nl _) (.cons (Le.nl _) (.cons (Le.nl _) .nil)))))))))))))))) (.cons (Le.refl _) .nil)))
def bytes_Equal (x0 : List Int) (x1 : List Int) : Option (Bool) :=
 (some ((bytesS x0) == (bytesS x1)))
theorem bytes_Equal_ok {x0 : List Int} {x1 : List Int} {r : Bool} (h : bytes_Equal x0 x1 = some r) : SC Try.prog 40 [lB x0, lB x1] [] (.bool r) [] := by
 refine kFn (fn := Try.f40) (fun F hFn hFH hFD => ?_)
 unfold bytes_Equal at h
 refine kSR ?_
 refine kC 1 [0,1,4] ?_
 refine kEN ?_
 refine kSR ?_
 refine kC 1 [1,4,5] ?_
 refine RJ.rel (d := (some 6)) (ef := ⟨.str ((x0.flatMap (encI .u8)).map Go.Sy.byteOf), [], []⟩) (ef' := ⟨.str (bytesS x0), [], []⟩) (c := (x0.flatMap (encI .u8)).all isByte) (tr2 := []) (H2 := []) (by kernel_rfl) (allByte x0) (fun hc => N.toStr) (by kernel_rfl) ?_
 refine kC 1 [4,6,7] ?_
 refine RJ.rel (d := (some 8)) (ef := ⟨.str ((x1.flatMap (encI .u8)).map Go.Sy.byteOf), [], []⟩) (ef' := ⟨.str (bytesS x1), [], []⟩) (c := (x1.flatMap (encI .u8)).all isByte) (tr2 := []) (H2 := []) (by kernel_rfl) (allByte x1) (fun hc => N.toStr) (by kernel_rfl) ?_
 refine kC 2 [4] ?_
 refine kEN ?_
 refine kX ?_
 obtain rfl := oi h
 exact kZ hFn hFH hFD
def bund_Decode (x0 : List Int) : Option (St28 × Int) :=
 (Option.bind (crc_Cut x0) fun y1 => (bif (decide (¬ y1.2 = 0)) then (some ((⟨[], (⟨0, 0, 0, 0, 0, 0, 0⟩ : St22), (⟨[], [], [], []⟩ : St24), ([] : List St57), ([] : List St59), ([] : List St61)⟩ : St28), y1.2)) else (Option.bind (bund_read y1.1) fun y0 => (bif (!y0.2) then (some ((⟨[], (⟨0, 0, 0, 0, 0, 0, 0⟩ : St22), (⟨[], [], [], []⟩ : St24), ([] : List St57), ([] : List St59), ([] : List St61)⟩ : St28), 2)) else (Option.bind (bund_Encode y0.1) fun y2 => (Option.bind (Option.bind (bif (decide (¬ y2.2 = 0)) then (some true) else (Option.bind (bytes_Equal y2.1 x0) fun y3 => (some (!y3)))) fun (s0 : Bool) => (bif s0 then (some (.inr ((⟨[], (⟨0, 0, 0, 0, 0, 0, 0⟩ : St22), (⟨[], [], [], []⟩ : St24), ([] : List St57), ([] : List St59), ([] : List St61)⟩ : St28), 2))) else (some (.inl ())))) (joinX fun (s1 : Unit) => (some (y0.1, 0)))))))))
theorem bund_Decode_ok {x0 : List Int} {r : St28 × Int} (h : bund_Decode x0 = some r) : SC Try.prog 14 [lB x0] [] (.tup [.agg (encSt28 r.1), iL r.2]) [] := by
 refine kFn (fn := Try.f14) (fun F hFn hFH hFD => ?_)
 unfold bund_Decode at h
 refine kSR ?_
 refine kC 2 [0,2,3] ?_
 refine kEN ?_
 refine kSR ?_
 refine kC 1 [0,2,3,10] ?_
 obtain ⟨y1, hy0, h1⟩ := bindS h
 refine kA 11 (crc_Cut_ok hy0) ?_
 refine kC 5 [0,2,3,4,5] ?_
 refine kEN ?_
 refine kS ?_
 refine kSR ?_
 refine kC 2 [0,2,3,4,5,15] ?_
 refine kEN ?_
 refine kBJ 15 h1 (fun h2 => ?_) (fun h3 => ?_)
 ·refine kT ?_
  refine kSR ?_
  refine kC 4 [0,2,3,4,5] ?_
  refine kEN ?_
  refine kX ?_
  refine PJ.passRet ?_
  obtain rfl := oi h2
  refine PJ.res (v1 := .tup [.agg (q12 [] 0 0 0 0 0 0 0 [] [] [] [] [.nl, .nl, .nl]), iL y1.2]) (Le.tup (.cons (Le.agg (.cons (Le.refl _) (.cons (Le.refl _) (.cons (Le.refl _) (.cons (Le.refl _) (.cons (Le.refl _) (.cons (Le.refl _) (.cons (Le.refl _) (.cons (Le.refl _) (.cons (Le.refl _) (.cons (Le.refl _) (.cons (Le.refl _) (.cons (Le.refl _) (.cons (Le.nl _) (.cons (Le.nl _) (.cons (Le.nl _) .nil)))))))))))))))) (.cons (Le.refl _) .nil))) ?_
  exact kZ hFn hFH hFD
 ·refine kF ?_
  refine kK ?_
  refine PJ.next ?_
  refine kSR ?_
  refine kC 1 [0,2,3,5,19] ?_
  obtain ⟨y0, hy1, h4⟩ := bindS h3
  refine kA 20 (bund_read_ok hy1) ?_
  refine kC 6 [0,2,3,5,6,7] ?_
  refine kEN ?_
  refine kS ?_
  refine kSR ?_
  refine kC 2 [0,2,3,5,6,24] ?_
  refine kEN ?_
  refine kBJ 24 h4 (fun h5 => ?_) (fun h6 => ?_)
  ·refine kT ?_
   refine kSR ?_
   refine kC 3 [0,2,3,5,6] ?_
   refine kEN ?_
   refine kX ?_
   refine PJ.passRet ?_
   obtain rfl := oi h5
   refine PJ.res (v1 := .tup [.agg (q12 [] 0 0 0 0 0 0 0 [] [] [] [] [.nl, .nl, .nl]), iL 2]) (Le.tup (.cons (Le.agg (.cons (Le.refl _) (.cons (Le.refl _) (.cons (Le.refl _) (.cons (Le.refl _) (.cons (Le.refl _) (.cons (Le.refl _) (.cons (Le.refl _) (.cons (Le.refl _) (.cons (Le.refl _) (.cons (Le.refl _) (.cons (Le.refl _) (.cons (Le.refl _) (.cons (Le.nl _) (.cons (Le.nl _) (.cons (Le.nl _) .nil)))))))))))))))) (.cons (Le.refl _) .nil))) ?_
   exact kZ hFn hFH hFD
  ·refine kF ?_
   refine kK ?_
   refine PJ.next ?_
   refine kSR ?_
   refine kC 1 [0,2,3,5,6,27] ?_
   obtain ⟨y2, hy2, h7⟩ := bindS h6
   refine kA 28 (bund_Encode_ok hy2) ?_
   refine RJ.seg 5 [0, 2, 3, 5, 6, 8] (L2 := [(0, lB x0), (2, .ptr 0 0), (3, iL 0), (5, iL y2.2), (6, .ptr 1 0), (8, lB y2.1)]) (H2 := [.box (q12 [] 0 0 0 0 0 0 0 [] [] [] [] [.nl, .nl, .nl]), .box (encSt28 y0.1)]) (by kernel_rfl) ?_
   refine kEN ?_
   obtain ⟨y4, hy3, h0⟩ := bindS h7
   refine K.cutX (by kernel_rfl) (fun (s1 : Unit) => ([(2, .ptr 0 0), (3, iL 0), (6, .ptr 1 0)], [.box (q12 [] 0 0 0 0 0 0 0 [] [] [] [] [.nl, .nl, .nl]), .box (encSt28 y0.1)])) y4 ?_ (fun s1 hs => ?_)
   ·obtain ⟨s0, hy4, h8⟩ := bindS hy3
    refine K.cutN (by kernel_rfl) (fun (s0 : Bool) => ([(2, .ptr 0 0), (3, iL 0), (6, .ptr 1 0), (38, .bool s0)], [.box (q12 [] 0 0 0 0 0 0 0 [] [] [] [] [.nl, .nl, .nl]), .box (encSt28 y0.1)])) s0 ?_ ?_
    ·refine kR ?_
     refine kC 3 [0,2,3,6,8,33] ?_
     refine kB 33 hy4 (fun h9 => ?_) (fun h10 => ?_)
     ·refine kC 5 [2,3,6,38] ?_
      refine kE ?_
      obtain rfl := oi h9
      exact kN [2, 3, 6, 38]
     ·refine kC 2 [2,3,6,33,34,35] ?_
      obtain ⟨y3, hy5, h11⟩ := bindS h10
      refine kA 36 (bytes_Equal_ok hy5) ?_
      refine kC 2 [2,3,6,38] ?_
      refine kE ?_
      obtain rfl := oi h11
      exact kN [2, 3, 6, 38]
    ·refine kBJ 38 h8 (fun h12 => ?_) (fun h13 => ?_)
     ·refine kT ?_
      refine kSR ?_
      refine kC 3 [2,3,6] ?_
      refine kEN ?_
      refine kX ?_
      obtain rfl := oi h12
      have h14 := joinX_inr h0
      refine PJ.cutXr (fun e => nomatch e) ?_
      obtain rfl := oi h14
      refine PJ.res (v1 := .tup [.agg (q12 [] 0 0 0 0 0 0 0 [] [] [] [] [.nl, .nl, .nl]), iL 2]) (Le.tup (.cons (Le.agg (.cons (Le.refl _) (.cons (Le.refl _) (.cons (Le.refl _) (.cons (Le.refl _) (.cons (Le.refl _) (.cons (Le.refl _) (.cons (Le.refl _) (.cons (Le.refl _) (.cons (Le.refl _) (.cons (Le.refl _) (.cons (Le.refl _) (.cons (Le.refl _) (.cons (Le.nl _) (.cons (Le.nl _) (.cons (Le.nl _) .nil)))))))))))))))) (.cons (Le.refl _) .nil))) ?_
      exact kZ hFn hFH hFD
     ·refine kF ?_
      refine kK ?_
      obtain rfl := oi h13
      exact kXl [2, 3, 6]
   ·subst hs
    have h15 := joinX_inl h0
    refine kSR ?_
    refine kC 3 [2,3] ?_
    refine kEN ?_
    refine kX ?_
    obtain rfl := oi h15
    exact kZ hFn hFH hFD
def exergueref15_Same (x0 : St28) (x1 : St28) : Option (Bool) :=
 (Option.bind (Option.bind (bif (x0.Tag_ != x1.Tag_) then (some true) else (bif (!((decide (x0.S_.Zero_ = x1.S_.Zero_)) && ((decide (x0.S_.Dec_ = x1.S_.Dec_)) && ((decide (x0.S_.Group_ = x1.S_.Group_)) && ((decide (x0.S_.Minus_ = x1.S_.Minus_)) && ((decide (x0.S_.Plus_ = x1.S_.Plus_)) && ((decide (x0.S_.Percent_ = x1.S_.Percent_)) && ((decide (x0.S_.Exp_ = x1.S_.Exp_)) && true)))))))) then (some true) else (bif (!((x0.Pats_.a0_ == x1.Pats_.a0_) && ((x0.Pats_.a1_ == x1.Pats_.a1_) && ((x0.Pats_.a2_ == x1.Pats_.a2_) && ((x0.Pats_.a3_ == x1.Pats_.a3_) && true))))) then (some true) else (bif (decide (¬ (x0.Rules_.length : Int) = (x1.Rules_.length : Int))) then (some true) else (bif (decide (¬ (x0.Curs_.length : Int) = (x1.Curs_.length : Int))) then (some true) else (some ((decide (¬ (x0.Comps_.length : Int) = (x1.Comps_.length : Int)))))))))) fun (s3 : Bool) => (bif s3 then (some (.inr false)) else (some (.inl ())))) (joinX fun (s4 : Unit) => (Option.bind (loopN (fun (s2 : Int) => (bif (decide (s2 < (x0.Rules_.length : Int))) then (bif inR s2 x0.Rules_.length then (bif inR s2 x1.Rules_.length then (bif (!((decide (((nth x0.Rules_ s2).Cat_) = ((nth x1.Rules_ s2).Cat_))) && ((((nth x0.Rules_ s2).Text_) == ((nth x1.Rules_ s2).Text_)) && true))) then (some (.inr (.inr false))) else (some (.inl (IntKind.wrap .i64 (s2 + 1))))) else none) else none) else (some (.inr (.inl ()))))) big 0) (joinX fun (s5 : Unit) => (Option.bind (loopN (fun (s0 : Int) => (bif (decide (s0 < (x0.Curs_.length : Int))) then (bif inR s0 x0.Curs_.length then (bif inR s0 x1.Curs_.length then (bif (!((((nth x0.Curs_ s0).Code_) == ((nth x1.Curs_ s0).Code_)) && ((((nth x0.Curs_ s0).Sign_) == ((nth x1.Curs_ s0).Sign_)) && ((decide (((nth x0.Curs_ s0).Digits_) = ((nth x1.Curs_ s0).Digits_))) && true)))) then (some (.inr (.inr false))) else (some (.inl (IntKind.wrap .i64 (s0 + 1))))) else none) else none) else (some (.inr (.inl ()))))) big 0) (joinX fun (s6 : Unit) => (Option.bind (loopN (fun (s1 : Int) => (bif (decide (s1 < (x0.Comps_.length : Int))) then (bif inR s1 x0.Comps_.length then (bif inR s1 x1.Comps_.length then (bif (!((decide (((nth x0.Comps_ s1).Mag_) = ((nth x1.Comps_ s1).Mag_))) && ((decide (((nth x0.Comps_ s1).Cat_) = ((nth x1.Comps_ s1).Cat_))) && ((((nth x0.Comps_ s1).Pat_) == ((nth x1.Comps_ s1).Pat_)) && true)))) then (some (.inr (.inr false))) else (some (.inl (IntKind.wrap .i64 (s1 + 1))))) else none) else none) else (some (.inr (.inl ()))))) big 0) (joinX fun (s7 : Unit) => (some true)))))))))
theorem exergueref15_Same_ok {x0 : St28} {x1 : St28} {r : Bool} (h : exergueref15_Same x0 x1 = some r) : SC Try.prog 17 [.agg (encSt28 x0), .agg (encSt28 x1)] [] (.bool r) [] := by
 refine kFn (fn := Try.f17) (fun F hFn hFH hFD => ?_)
 unfold exergueref15_Same at h
 refine kSR ?_
 refine kC 3 [2,3,4] ?_
 refine kEN ?_
 obtain ⟨y0, hy0, h0⟩ := bindS h
 refine K.cutX (by kernel_rfl) (fun (s4 : Unit) => ([(2, .ptr 0 0), (3, .ptr 1 0), (4, .bool false)], [.box (encSt28 x0), .box (encSt28 x1)])) y0 ?_ (fun s4 hs => ?_)
 ·obtain ⟨s3, hy1, h4⟩ := bindS hy0
  refine K.cutN (by kernel_rfl) (fun (s3 : Bool) => ([(2, .ptr 0 0), (3, .ptr 1 0), (4, .bool false), (53, .bool s3)], [.box (encSt28 x0), .box (encSt28 x1)])) s3 ?_ ?_
  ·refine kR ?_
   refine kC 6 [2,3,4,13] ?_
   refine kB 13 hy1 (fun h5 => ?_) (fun h6 => ?_)
   ·refine kC 40 [2,3,4,53] ?_
    refine kE ?_
    obtain rfl := oi h5
    exact kN [2, 3, 4, 53]
   ·refine kC 7 [2,3,4,20] ?_
    refine kB 20 h6 (fun h7 => ?_) (fun h8 => ?_)
    ·refine kC 33 [2,3,4,53] ?_
     refine kE ?_
     obtain rfl := oi h7
     exact kN [2, 3, 4, 53]
    ·refine kC 7 [2,3,4,27] ?_
     refine kB 27 h8 (fun h9 => ?_) (fun h10 => ?_)
     ·refine kC 26 [2,3,4,53] ?_
      refine kE ?_
      obtain rfl := oi h9
      exact kN [2, 3, 4, 53]
     ·refine kC 9 [2,3,4,36] ?_
      refine kB 36 h10 (fun h11 => ?_) (fun h12 => ?_)
      ·refine kC 17 [2,3,4,53] ?_
       refine kE ?_
       obtain rfl := oi h11
       exact kN [2, 3, 4, 53]
      ·refine kC 9 [2,3,4,45] ?_
       refine kB 45 h12 (fun h13 => ?_) (fun h14 => ?_)
       ·refine kC 8 [2,3,4,53] ?_
        refine kE ?_
        obtain rfl := oi h13
        exact kN [2, 3, 4, 53]
       ·refine kC 8 [2,3,4,53] ?_
        refine kE ?_
        obtain rfl := oi h14
        exact kN [2, 3, 4, 53]
  ·refine kBJ 53 h4 (fun h15 => ?_) (fun h16 => ?_)
   ·refine kT ?_
    refine kSR ?_
    refine kC 1 [2,3,4] ?_
    refine kEN ?_
    refine kX ?_
    obtain rfl := oi h15
    have h17 := joinX_inr h0
    refine PJ.cutXr (fun e => nomatch e) ?_
    obtain rfl := oi h17
    exact kZ hFn hFH hFD
   ·refine kF ?_
    refine kK ?_
    obtain rfl := oi h16
    exact kXl [2, 3, 4]
 ·subst hs
  have h18 := joinX_inl h0
  obtain ⟨y1, hy2, h1⟩ := bindS h18
  refine K.cutX (by kernel_rfl) (fun (s5 : Unit) => ([(2, .ptr 0 0), (3, .ptr 1 0), (4, .bool false)], [.box (encSt28 x0), .box (encSt28 x1)])) y1 ?_ (fun s5 hs => ?_)
  ·refine kSR ?_
   refine kC 1 [2,3,4,5] ?_
   refine kEN ?_
   refine kb 0 ?_
   refine kl (fun (s2 : Int) => ([(2, .ptr 0 0), (3, .ptr 1 0), (4, .bool false), (5, iL s2)], [.box (encSt28 x0), .box (encSt28 x1)])) hy2 [2, 3, 4, 5] (fun s2 x159 hs0 => ?_)
   refine kS ?_
   refine kSR ?_
   refine kC 5 [2,3,4,5,58] ?_
   refine kEN ?_
   refine kBJ 58 hs0 (fun h19 => ?_) (fun h20 => ?_)
   ·refine kT ?_
    refine kK ?_
    refine PJ.next ?_
    refine kS ?_
    refine kb 1 ?_
    refine kS ?_
    refine J.keep [2, 3, 4, 5] (L2 := [(2, .ptr 0 0), (3, .ptr 1 0), (4, .bool false), (5, iL s2)]) (by kernel_rfl) ?_
    refine K.draw (by kernel_rfl) (by kernel_rfl) (by kernel_rfl) (H2 := [.box (encSt28 x0), .box (encSt28 x1)]) (by kernel_rfl) (n := 2) (by kernel_rfl) ?_
    refine kD 3 ?_
    obtain ⟨hm, h21⟩ := asrt h19
    refine kJ 64 (tr2 := [([], []), ([0, 1], []), ([], []), ([], [])]) encSt57_len hm ?_
    refine kD 4 ?_
    obtain ⟨hm, h22⟩ := asrt h21
    refine kJ 69 (tr2 := [([], []), ([0, 1], []), ([], []), ([], []), ([], []), ([], []), ([2, 3], []), ([], []), ([], [])]) encSt57_len hm ?_
    refine kD 2 ?_
    refine kEN ?_
    refine kBJ 71 h22 (fun h23 => ?_) (fun h24 => ?_)
    ·refine kT ?_
     refine kSR ?_
     refine kC 1 [2,3,4,5] ?_
     refine kEN ?_
     refine kX ?_
     refine PJ.blockRet ?_
     refine PJ.passRet ?_
     obtain rfl := oi h23
     refine PJ.loopOut (fun e => nomatch e) (fun he0 => ?_)
     have h25 := congrArg some he0
     refine PJ.blockRet ?_
     obtain rfl := oi h25
     have h26 := joinX_inr h1
     refine PJ.cutXr (fun e => nomatch e) ?_
     obtain rfl := oi h26
     exact kZ hFn hFH hFD
    ·refine kF ?_
     refine kK ?_
     refine PJ.blockNormal ?_
     refine PJ.next ?_
     refine kR ?_
     refine kC 3 [2,3,4,5] ?_
     refine kE ?_
     obtain rfl := oi h24
     exact kLN [2, 3, 4, 5]
   ·refine kF ?_
    refine K.exit 0 (by kernel_rfl) ?_
    refine PJ.passExit ?_
    obtain rfl := oi h20
    refine PJ.loopOut (fun e => nomatch e) (fun he1 => ?_)
    have h27 := congrArg some he1
    refine PJ.blockOut ?_
    obtain rfl := oi h27
    exact kXl [2, 3, 4]
  ·subst hs
   have h28 := joinX_inl h1
   obtain ⟨y2, hy3, h2⟩ := bindS h28
   refine K.cutX (by kernel_rfl) (fun (s6 : Unit) => ([(2, .ptr 0 0), (3, .ptr 1 0), (4, .bool false)], [.box (encSt28 x0), .box (encSt28 x1)])) y2 ?_ (fun s6 hs => ?_)
   ·refine kSR ?_
    refine kC 1 [2,3,4,6] ?_
    refine kEN ?_
    refine kb 2 ?_
    refine kl (fun (s0 : Int) => ([(2, .ptr 0 0), (3, .ptr 1 0), (4, .bool false), (6, iL s0)], [.box (encSt28 x0), .box (encSt28 x1)])) hy3 [2, 3, 4, 6] (fun s0 x248 hs1 => ?_)
    refine kS ?_
    refine kSR ?_
    refine kC 5 [2,3,4,6,76] ?_
    refine kEN ?_
    refine kBJ 76 hs1 (fun h29 => ?_) (fun h30 => ?_)
    ·refine kT ?_
     refine kK ?_
     refine PJ.next ?_
     refine kS ?_
     refine kb 3 ?_
     refine kS ?_
     refine J.keep [2, 3, 4, 6] (L2 := [(2, .ptr 0 0), (3, .ptr 1 0), (4, .bool false), (6, iL s0)]) (by kernel_rfl) ?_
     refine K.draw (by kernel_rfl) (by kernel_rfl) (by kernel_rfl) (H2 := [.box (encSt28 x0), .box (encSt28 x1)]) (by kernel_rfl) (n := 2) (by kernel_rfl) ?_
     refine kD 3 ?_
     obtain ⟨hm, h31⟩ := asrt h29
     refine kJ 82 (tr2 := [([], []), ([0, 1], []), ([], []), ([], [])]) encSt59_len hm ?_
     refine kD 4 ?_
     obtain ⟨hm, h32⟩ := asrt h31
     refine kJ 87 (tr2 := [([], []), ([0, 1], []), ([], []), ([], []), ([], []), ([], []), ([2, 3], []), ([], []), ([], [])]) encSt59_len hm ?_
     refine kD 2 ?_
     refine kEN ?_
     refine kBJ 89 h32 (fun h33 => ?_) (fun h34 => ?_)
     ·refine kT ?_
      refine kSR ?_
      refine kC 1 [2,3,4,6] ?_
      refine kEN ?_
      refine kX ?_
      refine PJ.blockRet ?_
      refine PJ.passRet ?_
      obtain rfl := oi h33
      refine PJ.loopOut (fun e => nomatch e) (fun he2 => ?_)
      have h35 := congrArg some he2
      refine PJ.blockRet ?_
      obtain rfl := oi h35
      have h36 := joinX_inr h2
      refine PJ.cutXr (fun e => nomatch e) ?_
      obtain rfl := oi h36
      exact kZ hFn hFH hFD
     ·refine kF ?_
      refine kK ?_
      refine PJ.blockNormal ?_
      refine PJ.next ?_
      refine kR ?_
      refine kC 3 [2,3,4,6] ?_
      refine kE ?_
      obtain rfl := oi h34
      exact kLN [2, 3, 4, 6]
    ·refine kF ?_
     refine K.exit 2 (by kernel_rfl) ?_
     refine PJ.passExit ?_
     obtain rfl := oi h30
     refine PJ.loopOut (fun e => nomatch e) (fun he3 => ?_)
     have h37 := congrArg some he3
     refine PJ.blockOut ?_
     obtain rfl := oi h37
     exact kXl [2, 3, 4]
   ·subst hs
    have h38 := joinX_inl h2
    obtain ⟨y3, hy4, h3⟩ := bindS h38
    refine K.cutX (by kernel_rfl) (fun (s7 : Unit) => ([(4, .bool false)], [])) y3 ?_ (fun s7 hs => ?_)
    ·refine kSR ?_
     refine kC 1 [2,3,4,7] ?_
     refine kEN ?_
     refine kb 4 ?_
     refine kl (fun (s1 : Int) => ([(2, .ptr 0 0), (3, .ptr 1 0), (4, .bool false), (7, iL s1)], [.box (encSt28 x0), .box (encSt28 x1)])) hy4 [2, 3, 4, 7] (fun s1 x337 hs2 => ?_)
     refine kS ?_
     refine kSR ?_
     refine kC 5 [2,3,4,7,94] ?_
     refine kEN ?_
     refine kBJ 94 hs2 (fun h39 => ?_) (fun h40 => ?_)
     ·refine kT ?_
      refine kK ?_
      refine PJ.next ?_
      refine kS ?_
      refine kb 5 ?_
      refine kS ?_
      refine J.keep [2, 3, 4, 7] (L2 := [(2, .ptr 0 0), (3, .ptr 1 0), (4, .bool false), (7, iL s1)]) (by kernel_rfl) ?_
      refine K.draw (by kernel_rfl) (by kernel_rfl) (by kernel_rfl) (H2 := [.box (encSt28 x0), .box (encSt28 x1)]) (by kernel_rfl) (n := 2) (by kernel_rfl) ?_
      refine kD 3 ?_
      obtain ⟨hm, h41⟩ := asrt h39
      refine kJ 100 (tr2 := [([], []), ([0, 1], []), ([], []), ([], [])]) encSt61_len hm ?_
      refine kD 4 ?_
      obtain ⟨hm, h42⟩ := asrt h41
      refine kJ 105 (tr2 := [([], []), ([0, 1], []), ([], []), ([], []), ([], []), ([], []), ([2, 3], []), ([], []), ([], [])]) encSt61_len hm ?_
      refine kD 2 ?_
      refine kEN ?_
      refine kBJ 107 h42 (fun h43 => ?_) (fun h44 => ?_)
      ·refine kT ?_
       refine kSR ?_
       refine kC 1 [2,3,4,7] ?_
       refine kEN ?_
       refine kX ?_
       refine PJ.blockRet ?_
       refine PJ.passRet ?_
       obtain rfl := oi h43
       refine PJ.loopOut (fun e => nomatch e) (fun he4 => ?_)
       have h45 := congrArg some he4
       refine PJ.blockRet ?_
       obtain rfl := oi h45
       have h46 := joinX_inr h3
       refine PJ.cutXr (fun e => nomatch e) ?_
       obtain rfl := oi h46
       exact kZ hFn hFH hFD
      ·refine kF ?_
       refine kK ?_
       refine PJ.blockNormal ?_
       refine PJ.next ?_
       refine kR ?_
       refine kC 3 [2,3,4,7] ?_
       refine kE ?_
       obtain rfl := oi h44
       exact kLN [2, 3, 4, 7]
     ·refine kF ?_
      refine K.exit 4 (by kernel_rfl) ?_
      refine PJ.passExit ?_
      obtain rfl := oi h40
      refine PJ.loopOut (fun e => nomatch e) (fun he5 => ?_)
      have h47 := congrArg some he5
      refine PJ.blockOut ?_
      obtain rfl := oi h47
      refine kW (L2 := [(4, .bool false)]) (H2 := []) hFH hFD [] ?_
      exact kXl [4]
    ·subst hs
     have h48 := joinX_inl h3
     refine kSR ?_
     refine kC 1 [4] ?_
     refine kEN ?_
     refine kX ?_
     obtain rfl := oi h48
     exact kZ hFn hFH hFD
def exerguelaw16_shown  : Option (Bool) :=
 (Option.bind (bund_Encode ((⟨([101, 110] : List UInt8), (⟨48, 0, 0, 0, 0, 0, 0⟩ : St22), (⟨([48] : List UInt8), ([48, 37] : List UInt8), ([48, 69, 48] : List UInt8), ([194, 164, 48] : List UInt8)⟩ : St24), ([] : List St57), ([] : List St59), ([] : List St61)⟩ : St28))) fun y0 => (Option.bind (bund_Decode y0.1) fun y1 => (Option.bind (bif (decide (y0.2 = 0)) then (bif (decide (y1.2 = 0)) then (bif (decide ((y0.1.length : Int) > 60)) then (bif inS 0 4 y0.1.length then (bif ((bytesS (cut y0.1 0 4)) == ([69, 88, 76, 66] : List UInt8)) then (bif inR 5 y0.1.length then (bif (decide ((nth y0.1 5) = 1)) then (bif inR 7 y0.1.length then (bif (decide ((nth y0.1 7) = 6)) then (bif inR 11 y0.1.length then (bif (decide ((nth y0.1 11) = 56)) then (Option.bind (exergueref15_Same ((⟨([101, 110] : List UInt8), (⟨48, 0, 0, 0, 0, 0, 0⟩ : St22), (⟨([48] : List UInt8), ([48, 37] : List UInt8), ([48, 69, 48] : List UInt8), ([194, 164, 48] : List UInt8)⟩ : St24), ([] : List St57), ([] : List St59), ([] : List St61)⟩ : St28)) y1.1) fun y3 => (bif y3 then (Option.bind (bund_Texts ((⟨([101, 110] : List UInt8), (⟨48, 0, 0, 0, 0, 0, 0⟩ : St22), (⟨([48] : List UInt8), ([48, 37] : List UInt8), ([48, 69, 48] : List UInt8), ([194, 164, 48] : List UInt8)⟩ : St24), ([] : List St57), ([] : List St59), ([] : List St61)⟩ : St28))) fun y2 => (some ((decide ((y2.length : Int) = 5))))) else (some false))) else (some false)) else none) else (some false)) else none) else (some false)) else none) else (some false)) else none) else (some false)) else (some false)) else (some false)) fun (s0 : Bool) => (some s0))))
theorem exerguelaw16_shown_ok  {r : Bool} (h : exerguelaw16_shown = some r) : SC Try.prog 10 [] [] (.bool r) [] := by
 refine kFn (fn := Try.f10) (fun F hFn hFH hFD => ?_)
 unfold exerguelaw16_shown at h
 refine kSR ?_
 refine kC 1 [0] ?_
 refine kEN ?_
 refine kSR ?_
 refine kC 5 [0,1] ?_
 refine kEN ?_
 refine kSR ?_
 refine kC 1 [0,1,10] ?_
 obtain ⟨y0, hy0, h0⟩ := bindS h
 refine RJ.call0 (d := (some 11)) (f := 12) (args := [.agg (q12 ([101, 110] : List UInt8) 48 0 0 0 0 0 0 ([48] : List UInt8) ([48, 37] : List UInt8) ([48, 69, 48] : List UInt8) ([194, 164, 48] : List UInt8) [.nl, .nl, .nl])]) (v := .tup [lB y0.1, iL y0.2]) (tr2 := []) (by kernel_rfl) (by kernel_rfl) (.cons (Le.agg (.cons (Le.refl _) (.cons (Le.refl _) (.cons (Le.refl _) (.cons (Le.refl _) (.cons (Le.refl _) (.cons (Le.refl _) (.cons (Le.refl _) (.cons (Le.refl _) (.cons (Le.refl _) (.cons (Le.refl _) (.cons (Le.refl _) (.cons (Le.refl _) (.cons (Le.nl _) (.cons (Le.nl _) (.cons (Le.nl _) .nil)))))))))))))))) .nil) (bund_Encode_ok hy0) (by kernel_rfl) ?_
 refine kC 5 [0,1,2,3] ?_
 refine kEN ?_
 refine kSR ?_
 refine kC 1 [0,1,2,3,15] ?_
 obtain ⟨y1, hy1, h1⟩ := bindS h0
 refine kA 16 (bund_Decode_ok hy1) ?_
 refine kC 6 [0,1,2,3,4,5] ?_
 refine kEN ?_
 obtain ⟨s0, hy2, h2⟩ := bindS h1
 refine K.cutN (by kernel_rfl) (fun (s0 : Bool) => ([(0, .bool s0)], [])) s0 ?_ ?_
 ·refine kR ?_
  refine kC 3 [0,1,2,4,5,21] ?_
  refine kB 21 hy2 (fun h3 => ?_) (fun h4 => ?_)
  ·refine kC 4 [0,1,2,4,25] ?_
   refine kB 25 h3 (fun h5 => ?_) (fun h6 => ?_)
   ·refine RJ.seg 5 [0, 1, 2, 4, 30] (L2 := [(0, .bool false), (1, .ptr 0 0), (2, lB y0.1), (4, .ptr 1 0), (30, .bool ((decide ((y0.1.length : Int) > 60))))]) (H2 := [.box (q12 ([101, 110] : List UInt8) 48 0 0 0 0 0 0 ([48] : List UInt8) ([48, 37] : List UInt8) ([48, 69, 48] : List UInt8) ([194, 164, 48] : List UInt8) [.nl, .nl, .nl]), .box (encSt28 y1.1)]) (by kernel_rfl) ?_
    refine kB 30 h5 (fun h7 => ?_) (fun h8 => ?_)
    ·refine kC 1 [0,1,2,4,30,31] ?_
     obtain ⟨hm, h9⟩ := asrt h7
     refine RJ.rel (d := (some 32)) (ef := ⟨.lst ((4 : Int).toNat - (0 : Int).toNat) 1 (((y0.1.flatMap (encI .u8)).take ((4 : Int).toNat * 1)).drop ((0 : Int).toNat * 1)), [], []⟩) (ef' := ⟨.lst (cut y0.1 0 4).length 1 ((cut y0.1 0 4).flatMap (encI .u8)), [], []⟩) (c := inS 0 4 y0.1.length) (tr2 := []) (H2 := [.box (q12 ([101, 110] : List UInt8) 48 0 0 0 0 0 0 ([48] : List UInt8) ([48, 37] : List UInt8) ([48, 69, 48] : List UInt8) ([194, 164, 48] : List UInt8) [.nl, .nl, .nl]), .box (encSt28 y1.1)]) (by kernel_rfl) hm (fun hc => N.slice (encI_len .u8) hc) (by kernel_rfl) ?_
     refine RJ.rel (d := (some 33)) (ef := ⟨.str (((cut y0.1 0 4).flatMap (encI .u8)).map Go.Sy.byteOf), [], []⟩) (ef' := ⟨.str (bytesS (cut y0.1 0 4)), [], []⟩) (c := ((cut y0.1 0 4).flatMap (encI .u8)).all isByte) (tr2 := []) (H2 := [.box (q12 ([101, 110] : List UInt8) 48 0 0 0 0 0 0 ([48] : List UInt8) ([48, 37] : List UInt8) ([48, 69, 48] : List UInt8) ([194, 164, 48] : List UInt8) [.nl, .nl, .nl]), .box (encSt28 y1.1)]) (by kernel_rfl) (allByte (cut y0.1 0 4)) (fun hc => N.toStr) (by kernel_rfl) ?_
     refine kC 3 [0,1,2,4,36] ?_
     refine kB 36 h9 (fun h10 => ?_) (fun h11 => ?_)
     ·refine kC 1 [0,1,2,4,36,37] ?_
      obtain ⟨hm, h12⟩ := asrt h10
      refine kI 38 (encI_len .u8) hm ?_
      refine kC 4 [0,1,2,4,42] ?_
      refine kB 42 h12 (fun h13 => ?_) (fun h14 => ?_)
      ·refine kC 1 [0,1,2,4,42,43] ?_
       obtain ⟨hm, h15⟩ := asrt h13
       refine kI 44 (encI_len .u8) hm ?_
       refine kC 4 [0,1,2,4,48] ?_
       refine kB 48 h15 (fun h16 => ?_) (fun h17 => ?_)
       ·refine kC 1 [0,1,4,48,49] ?_
        obtain ⟨hm, h18⟩ := asrt h16
        refine kI 50 (encI_len .u8) hm ?_
        refine kC 4 [0,1,4,54] ?_
        refine kB 54 h18 (fun h19 => ?_) (fun h20 => ?_)
        ·refine RJ.seg 2 [0, 1, 54, 55, 56] (L2 := [(0, .bool false), (1, .ptr 0 0), (54, .bool true), (55, .agg (q12 ([101, 110] : List UInt8) 48 0 0 0 0 0 0 ([48] : List UInt8) ([48, 37] : List UInt8) ([48, 69, 48] : List UInt8) ([194, 164, 48] : List UInt8) [.nl, .nl, .nl])), (56, .agg (encSt28 y1.1))]) (H2 := [.box (q12 ([101, 110] : List UInt8) 48 0 0 0 0 0 0 ([48] : List UInt8) ([48, 37] : List UInt8) ([48, 69, 48] : List UInt8) ([194, 164, 48] : List UInt8) [.nl, .nl, .nl]), .box (encSt28 y1.1)]) (by kernel_rfl) ?_
         obtain ⟨y3, hy3, h21⟩ := bindS h19
         refine RJ.call0 (d := (some 57)) (f := 17) (args := [.agg (q12 ([101, 110] : List UInt8) 48 0 0 0 0 0 0 ([48] : List UInt8) ([48, 37] : List UInt8) ([48, 69, 48] : List UInt8) ([194, 164, 48] : List UInt8) [.nl, .nl, .nl]), .agg (encSt28 y1.1)]) (v := .bool y3) (tr2 := []) (by kernel_rfl) (by kernel_rfl) (.cons (Le.agg (.cons (Le.refl _) (.cons (Le.refl _) (.cons (Le.refl _) (.cons (Le.refl _) (.cons (Le.refl _) (.cons (Le.refl _) (.cons (Le.refl _) (.cons (Le.refl _) (.cons (Le.refl _) (.cons (Le.refl _) (.cons (Le.refl _) (.cons (Le.refl _) (.cons (Le.nl _) (.cons (Le.nl _) (.cons (Le.nl _) .nil)))))))))))))))) (.cons (Le.refl _) .nil)) (exergueref15_Same_ok hy3) (by kernel_rfl) ?_
         refine kC 2 [0,1,59] ?_
         refine kB 59 h21 (fun h22 => ?_) (fun h23 => ?_)
         ·refine kC 1 [0,59,60] ?_
          obtain ⟨y2, hy4, h24⟩ := bindS h22
          refine RJ.call0 (d := (some 61)) (f := 19) (args := [.agg (q12 ([101, 110] : List UInt8) 48 0 0 0 0 0 0 ([48] : List UInt8) ([48, 37] : List UInt8) ([48, 69, 48] : List UInt8) ([194, 164, 48] : List UInt8) [.nl, .nl, .nl])]) (v := lT y2) (tr2 := []) (by kernel_rfl) (by kernel_rfl) (.cons (Le.agg (.cons (Le.refl _) (.cons (Le.refl _) (.cons (Le.refl _) (.cons (Le.refl _) (.cons (Le.refl _) (.cons (Le.refl _) (.cons (Le.refl _) (.cons (Le.refl _) (.cons (Le.refl _) (.cons (Le.refl _) (.cons (Le.refl _) (.cons (Le.refl _) (.cons (Le.nl _) (.cons (Le.nl _) (.cons (Le.nl _) .nil)))))))))))))))) .nil) (bund_Texts_ok hy4) (by kernel_rfl) ?_
          refine kC 4 [0] ?_
          refine kE ?_
          obtain rfl := oi h24
          refine kW (L2 := [(0, .bool ((decide ((y2.length : Int) = 5))))]) (H2 := []) hFH hFD [] ?_
          exact kN [0]
         ·refine kC 6 [0] ?_
          refine kE ?_
          obtain rfl := oi h23
          refine kW (L2 := [(0, .bool false)]) (H2 := []) hFH hFD [] ?_
          exact kN [0]
        ·refine RJ.seg 11 [0] (L2 := [(0, .bool false)]) (H2 := [.box (q12 ([101, 110] : List UInt8) 48 0 0 0 0 0 0 ([48] : List UInt8) ([48, 37] : List UInt8) ([48, 69, 48] : List UInt8) ([194, 164, 48] : List UInt8) [.nl, .nl, .nl]), .box (encSt28 y1.1)]) (by kernel_rfl) ?_
         refine kE ?_
         obtain rfl := oi h20
         refine kW (L2 := [(0, .bool false)]) (H2 := []) hFH hFD [] ?_
         exact kN [0]
       ·refine kC 17 [0] ?_
        refine kE ?_
        obtain rfl := oi h17
        refine kW (L2 := [(0, .bool false)]) (H2 := []) hFH hFD [] ?_
        exact kN [0]
      ·refine kC 23 [0] ?_
       refine kE ?_
       obtain rfl := oi h14
       refine kW (L2 := [(0, .bool false)]) (H2 := []) hFH hFD [] ?_
       exact kN [0]
     ·refine kC 29 [0] ?_
      refine kE ?_
      obtain rfl := oi h11
      refine kW (L2 := [(0, .bool false)]) (H2 := []) hFH hFD [] ?_
      exact kN [0]
    ·refine kC 35 [0] ?_
     refine kE ?_
     obtain rfl := oi h8
     refine kW (L2 := [(0, .bool false)]) (H2 := []) hFH hFD [] ?_
     exact kN [0]
   ·refine RJ.seg 40 [0] (L2 := [(0, .bool false)]) (H2 := [.box (q12 ([101, 110] : List UInt8) 48 0 0 0 0 0 0 ([48] : List UInt8) ([48, 37] : List UInt8) ([48, 69, 48] : List UInt8) ([194, 164, 48] : List UInt8) [.nl, .nl, .nl]), .box (encSt28 y1.1)]) (by kernel_rfl) ?_
    refine kE ?_
    obtain rfl := oi h6
    refine kW (L2 := [(0, .bool false)]) (H2 := []) hFH hFD [] ?_
    exact kN [0]
  ·refine kC 44 [0] ?_
   refine kE ?_
   obtain rfl := oi h4
   refine kW (L2 := [(0, .bool false)]) (H2 := []) hFH hFD [] ?_
   exact kN [0]
 ·refine kX ?_
  obtain rfl := oi h2
  exact kZ hFn hFH hFD
def exergueref15_Small (x0 : St28) : Option (Bool) :=
 (Option.bind (loopN (fun (s0 : Int × Int) => (bif (decide (s0.2 < 4)) then (bif (decide (s0.2 = 0)) then (some (.inl ((IntKind.wrap .i64 (s0.1 + (x0.Pats_.a0_.length : Int))), (IntKind.wrap .i64 (0 + 1))))) else (bif (decide (s0.2 = 1)) then (some (.inl ((IntKind.wrap .i64 (s0.1 + (x0.Pats_.a1_.length : Int))), (IntKind.wrap .i64 (1 + 1))))) else (bif (decide (s0.2 = 2)) then (some (.inl ((IntKind.wrap .i64 (s0.1 + (x0.Pats_.a2_.length : Int))), (IntKind.wrap .i64 (2 + 1))))) else (bif (decide (s0.2 = 3)) then (some (.inl ((IntKind.wrap .i64 (s0.1 + (x0.Pats_.a3_.length : Int))), (IntKind.wrap .i64 (3 + 1))))) else none)))) else (some (.inr s0.1)))) big ((x0.Tag_.length : Int), 0)) fun (s4 : Int) => (Option.bind (Option.bind (bif (decide ((x0.Rules_.length : Int) > 8)) then (some true) else (bif (decide ((x0.Curs_.length : Int) > 105)) then (some true) else (some ((decide ((x0.Comps_.length : Int) > 95)))))) fun (s5 : Bool) => (bif s5 then (some (.inr false)) else (some (.inl ())))) (joinX fun (s9 : Unit) => (Option.bind (loopN (fun (s3 : Int × Int) => (bif (decide (s3.2 < (x0.Rules_.length : Int))) then (bif inR s3.2 x0.Rules_.length then (some (.inl ((IntKind.wrap .i64 (s3.1 + ((((nth x0.Rules_ s3.2).Text_).length : Int)))), (IntKind.wrap .i64 (s3.2 + 1))))) else none) else (some (.inr s3.1)))) big (s4, 0)) fun (s6 : Int) => (Option.bind (loopN (fun (s1 : Int × Int) => (bif (decide (s1.2 < (x0.Curs_.length : Int))) then (bif inR s1.2 x0.Curs_.length then (bif inR s1.2 x0.Curs_.length then (some (.inl ((IntKind.wrap .i64 (((IntKind.wrap .i64 (s1.1 + ((((nth x0.Curs_ s1.2).Code_).length : Int))))) + ((((nth x0.Curs_ s1.2).Sign_).length : Int)))), (IntKind.wrap .i64 (s1.2 + 1))))) else none) else none) else (some (.inr s1.1)))) big (s6, 0)) fun (s7 : Int) => (Option.bind (loopN (fun (s2 : Int × Int) => (bif (decide (s2.2 < (x0.Comps_.length : Int))) then (bif inR s2.2 x0.Comps_.length then (some (.inl ((IntKind.wrap .i64 (s2.1 + ((((nth x0.Comps_ s2.2).Pat_).length : Int)))), (IntKind.wrap .i64 (s2.2 + 1))))) else none) else (some (.inr s2.1)))) big (s7, 0)) fun (s8 : Int) => (some (decide (s8 ≤ 6000)))))))))
theorem exergueref15_Small_ok {x0 : St28} {r : Bool} (h : exergueref15_Small x0 = some r) : SC Try.prog 11 [.agg (encSt28 x0)] [] (.bool r) [] := by
 refine kFn (fn := Try.f11) (fun F hFn hFH hFD => ?_)
 unfold exergueref15_Small at h
 refine kSR ?_
 refine kC 2 [1,2] ?_
 refine kEN ?_
 refine kSR ?_
 refine kC 4 [1,2,3] ?_
 refine kEN ?_
 obtain ⟨s4, hy0, h5⟩ := bindS h
 refine K.cutN (by kernel_rfl) (fun (s4 : Int) => ([(1, .ptr 0 0), (2, .bool false), (3, iL s4)], [.box (encSt28 x0)])) s4 ?_ ?_
 ·refine kSR ?_
  refine kC 1 [1,2,3,4] ?_
  refine kEN ?_
  refine kb 0 ?_
  refine kl (fun (s0 : Int × Int) => ([(1, .ptr 0 0), (2, .bool false), (3, iL s0.1), (4, iL s0.2)], [.box (encSt28 x0)])) hy0 [1, 2, 3, 4] (fun s0 x72 hs0 => ?_)
  refine kS ?_
  refine kSR ?_
  refine kC 2 [1,2,3,4,12] ?_
  refine kEN ?_
  refine kBJ 12 hs0 (fun h0 => ?_) (fun h6 => ?_)
  ·refine kT ?_
   refine kK ?_
   refine PJ.next ?_
   refine kS ?_
   refine kb 1 ?_
   refine kR ?_
   refine kC 3 [1,2,3,4,15,16,17] ?_
   cases hb0 : (decide (s0.2 = 0))
   ·have h1 := condF hb0 h0
    cases hb1 : (decide (s0.2 = 1))
    ·have h2 := condF hb1 h1
     cases hb2 : (decide (s0.2 = 2))
     ·have h3 := condF hb2 h2
      cases hb3 : (decide (s0.2 = 3))
      ·have h7 := condF hb3 h3
       cases h7
      ·have h8 := condT hb3 h3
       refine RJ.pin 16 (kd := .i64) (by kernel_rfl) (of_decide_eq_true hb3) ?_
       refine RJ.pin 4 (kd := .i64) (by kernel_rfl) (of_decide_eq_true hb3) ?_
       refine kC 5 [1,2,3,4] ?_
       refine kE ?_
       refine PJ.blockNormal ?_
       refine PJ.next ?_
       refine kR ?_
       refine kC 3 [1,2,3,4] ?_
       refine kE ?_
       obtain rfl := oi h8
       exact kLN [1, 2, 3, 4]
     ·have h9 := condT hb2 h2
      refine RJ.pin 16 (kd := .i64) (by kernel_rfl) (of_decide_eq_true hb2) ?_
      refine RJ.pin 4 (kd := .i64) (by kernel_rfl) (of_decide_eq_true hb2) ?_
      refine kC 5 [1,2,3,4] ?_
      refine kE ?_
      refine PJ.blockNormal ?_
      refine PJ.next ?_
      refine kR ?_
      refine kC 3 [1,2,3,4] ?_
      refine kE ?_
      obtain rfl := oi h9
      exact kLN [1, 2, 3, 4]
    ·have h10 := condT hb1 h1
     refine RJ.pin 16 (kd := .i64) (by kernel_rfl) (of_decide_eq_true hb1) ?_
     refine RJ.pin 4 (kd := .i64) (by kernel_rfl) (of_decide_eq_true hb1) ?_
     refine kC 5 [1,2,3,4] ?_
     refine kE ?_
     refine PJ.blockNormal ?_
     refine PJ.next ?_
     refine kR ?_
     refine kC 3 [1,2,3,4] ?_
     refine kE ?_
     obtain rfl := oi h10
     exact kLN [1, 2, 3, 4]
   ·have h11 := condT hb0 h0
    refine RJ.pin 16 (kd := .i64) (by kernel_rfl) (of_decide_eq_true hb0) ?_
    refine RJ.pin 4 (kd := .i64) (by kernel_rfl) (of_decide_eq_true hb0) ?_
    refine kC 5 [1,2,3,4] ?_
    refine kE ?_
    refine PJ.blockNormal ?_
    refine PJ.next ?_
    refine kR ?_
    refine kC 3 [1,2,3,4] ?_
    refine kE ?_
    obtain rfl := oi h11
    exact kLN [1, 2, 3, 4]
  ·refine kF ?_
   refine K.exit 0 (by kernel_rfl) ?_
   refine PJ.passExit ?_
   obtain rfl := oi h6
   refine PJ.loopOut (fun e => nomatch e) (fun he0 => ?_)
   have h12 := congrArg some he0
   refine PJ.blockOut ?_
   obtain rfl := oi h12
   exact kN [1, 2, 3]
 ·obtain ⟨y0, hy1, h4⟩ := bindS h5
  refine K.cutX (by kernel_rfl) (fun (s9 : Unit) => ([(1, .ptr 0 0), (2, .bool false), (3, iL s4)], [.box (encSt28 x0)])) y0 ?_ (fun s9 hs => ?_)
  ·obtain ⟨s5, hy2, h13⟩ := bindS hy1
   refine K.cutN (by kernel_rfl) (fun (s5 : Bool) => ([(1, .ptr 0 0), (2, .bool false), (3, iL s4), (37, .bool s5)], [.box (encSt28 x0)])) s5 ?_ ?_
   ·refine kR ?_
    refine kC 5 [1,2,3,26] ?_
    refine kB 26 hy2 (fun h14 => ?_) (fun h15 => ?_)
    ·refine kC 11 [1,2,3,37] ?_
     refine kE ?_
     obtain rfl := oi h14
     exact kN [1, 2, 3, 37]
    ·refine kC 6 [1,2,3,32] ?_
     refine kB 32 h15 (fun h16 => ?_) (fun h17 => ?_)
     ·refine kC 5 [1,2,3,37] ?_
      refine kE ?_
      obtain rfl := oi h16
      exact kN [1, 2, 3, 37]
     ·refine kC 5 [1,2,3,37] ?_
      refine kE ?_
      obtain rfl := oi h17
      exact kN [1, 2, 3, 37]
   ·refine kBJ 37 h13 (fun h18 => ?_) (fun h19 => ?_)
    ·refine kT ?_
     refine kSR ?_
     refine kC 1 [1,2,3] ?_
     refine kEN ?_
     refine kX ?_
     obtain rfl := oi h18
     have h20 := joinX_inr h4
     refine PJ.cutXr (fun e => nomatch e) ?_
     obtain rfl := oi h20
     exact kZ hFn hFH hFD
    ·refine kF ?_
     refine kK ?_
     obtain rfl := oi h19
     exact kXl [1, 2, 3]
  ·subst hs
   have h21 := joinX_inl h4
   obtain ⟨s6, hy3, h22⟩ := bindS h21
   refine K.cutN (by kernel_rfl) (fun (s6 : Int) => ([(1, .ptr 0 0), (2, .bool false), (3, iL s6)], [.box (encSt28 x0)])) s6 ?_ ?_
   ·refine kSR ?_
    refine kC 1 [1,2,3,5] ?_
    refine kEN ?_
    refine kb 2 ?_
    refine kl (fun (s3 : Int × Int) => ([(1, .ptr 0 0), (2, .bool false), (3, iL s3.1), (5, iL s3.2)], [.box (encSt28 x0)])) hy3 [1, 2, 3, 5] (fun s3 x177 hs1 => ?_)
    refine kS ?_
    refine kSR ?_
    refine kC 5 [1,2,3,5,42] ?_
    refine kEN ?_
    refine kBJ 42 hs1 (fun h23 => ?_) (fun h24 => ?_)
    ·refine kT ?_
     refine kK ?_
     refine PJ.next ?_
     refine kS ?_
     refine kb 3 ?_
     refine kR ?_
     refine kC 4 [1,2,3,5,45,47,48] ?_
     obtain ⟨hm, h25⟩ := asrt h23
     refine kI 49 encSt57_len hm ?_
     refine kC 5 [1,2,3,5] ?_
     refine kE ?_
     refine PJ.blockNormal ?_
     refine PJ.next ?_
     refine kR ?_
     refine kC 3 [1,2,3,5] ?_
     refine kE ?_
     obtain rfl := oi h25
     exact kLN [1, 2, 3, 5]
    ·refine kF ?_
     refine K.exit 2 (by kernel_rfl) ?_
     refine PJ.passExit ?_
     obtain rfl := oi h24
     refine PJ.loopOut (fun e => nomatch e) (fun he1 => ?_)
     have h26 := congrArg some he1
     refine PJ.blockOut ?_
     obtain rfl := oi h26
     exact kN [1, 2, 3]
   ·obtain ⟨s7, hy4, h27⟩ := bindS h22
    refine K.cutN (by kernel_rfl) (fun (s7 : Int) => ([(1, .ptr 0 0), (2, .bool false), (3, iL s7)], [.box (encSt28 x0)])) s7 ?_ ?_
    ·refine kSR ?_
     refine kC 1 [1,2,3,6] ?_
     refine kEN ?_
     refine kb 4 ?_
     refine kl (fun (s1 : Int × Int) => ([(1, .ptr 0 0), (2, .bool false), (3, iL s1.1), (6, iL s1.2)], [.box (encSt28 x0)])) hy4 [1, 2, 3, 6] (fun s1 x229 hs2 => ?_)
     refine kS ?_
     refine kSR ?_
     refine kC 5 [1,2,3,6,58] ?_
     refine kEN ?_
     refine kBJ 58 hs2 (fun h28 => ?_) (fun h29 => ?_)
     ·refine kT ?_
      refine kK ?_
      refine PJ.next ?_
      refine kS ?_
      refine kb 5 ?_
      refine J.keep [1, 2, 3, 6] (L2 := [(1, .ptr 0 0), (2, .bool false), (3, iL s1.1), (6, iL s1.2)]) (by kernel_rfl) ?_
      refine K.draw (by kernel_rfl) (by kernel_rfl) (by kernel_rfl) (H2 := [.box (encSt28 x0)]) (by kernel_rfl) (n := 1) (by kernel_rfl) ?_
      refine kD 4 ?_
      obtain ⟨hm, h30⟩ := asrt h28
      refine kJ 65 (tr2 := [([], []), ([], []), ([0, 1], []), ([], []), ([], [])]) encSt59_len hm ?_
      refine kD 7 ?_
      obtain ⟨hm, h31⟩ := asrt h30
      refine kJ 73 (tr2 := [([], []), ([], []), ([0, 1], []), ([], []), ([], []), ([], []), ([], []), ([], []), ([], []), ([], []), ([0, 1], []), ([], []), ([], [])]) encSt59_len hm ?_
      refine kD 5 ?_
      refine kE ?_
      refine PJ.blockNormal ?_
      refine PJ.next ?_
      refine kR ?_
      refine kC 3 [1,2,3,6] ?_
      refine kE ?_
      obtain rfl := oi h31
      exact kLN [1, 2, 3, 6]
     ·refine kF ?_
      refine K.exit 4 (by kernel_rfl) ?_
      refine PJ.passExit ?_
      obtain rfl := oi h29
      refine PJ.loopOut (fun e => nomatch e) (fun he2 => ?_)
      have h32 := congrArg some he2
      refine PJ.blockOut ?_
      obtain rfl := oi h32
      exact kN [1, 2, 3]
    ·obtain ⟨s8, hy5, h33⟩ := bindS h27
     refine K.cutN (by kernel_rfl) (fun (s8 : Int) => ([(2, .bool false), (3, iL s8)], [])) s8 ?_ ?_
     ·refine kSR ?_
      refine kC 1 [1,2,3,7] ?_
      refine kEN ?_
      refine kb 6 ?_
      refine kl (fun (s2 : Int × Int) => ([(1, .ptr 0 0), (2, .bool false), (3, iL s2.1), (7, iL s2.2)], [.box (encSt28 x0)])) hy5 [1, 2, 3, 7] (fun s2 x277 hs3 => ?_)
      refine kS ?_
      refine kSR ?_
      refine kC 5 [1,2,3,7,82] ?_
      refine kEN ?_
      refine kBJ 82 hs3 (fun h34 => ?_) (fun h35 => ?_)
      ·refine kT ?_
       refine kK ?_
       refine PJ.next ?_
       refine kS ?_
       refine kb 7 ?_
       refine kR ?_
       refine kC 4 [1,2,3,7,85,87,88] ?_
       obtain ⟨hm, h36⟩ := asrt h34
       refine kI 89 encSt61_len hm ?_
       refine kC 5 [1,2,3,7] ?_
       refine kE ?_
       refine PJ.blockNormal ?_
       refine PJ.next ?_
       refine kR ?_
       refine kC 3 [1,2,3,7] ?_
       refine kE ?_
       obtain rfl := oi h36
       exact kLN [1, 2, 3, 7]
      ·refine kF ?_
       refine K.exit 6 (by kernel_rfl) ?_
       refine PJ.passExit ?_
       obtain rfl := oi h35
       refine PJ.loopOut (fun e => nomatch e) (fun he3 => ?_)
       have h37 := congrArg some he3
       refine PJ.blockOut ?_
       obtain rfl := oi h37
       refine kW (L2 := [(2, .bool false), (3, iL s2.1)]) (H2 := []) hFH hFD [] ?_
       exact kN [2, 3]
     ·refine kSR ?_
      refine kC 3 [2] ?_
      refine kEN ?_
      refine kX ?_
      obtain rfl := oi h33
      exact kZ hFn hFH hFD
def exerguelaw16_holds (x0 : List Int) (x1 : List UInt8) : Option (Bool) :=
 (Option.bind (loopN (fun (s0 : Int) => (bif (decide (((IntKind.wrap .i64 (s0 + (x1.length : Int)))) ≤ (x0.length : Int))) then (bif inS s0 ((IntKind.wrap .i64 (s0 + (x1.length : Int)))) x0.length then (bif (((bytesS ((cut x0 s0 ((IntKind.wrap .i64 (s0 + (x1.length : Int)))))))) == x1) then (some (.inr (.inr true))) else (some (.inl (IntKind.wrap .i64 (s0 + 1))))) else none) else (some (.inr (.inl ()))))) big 0) (joinX fun (s1 : Unit) => (some false)))
theorem exerguelaw16_holds_ok {x0 : List Int} {x1 : List UInt8} {r : Bool} (h : exerguelaw16_holds x0 x1 = some r) : SC Try.prog 21 [lB x0, .str x1] [] (.bool r) [] := by
 refine kFn (fn := Try.f21) (fun F hFn hFH hFD => ?_)
 unfold exerguelaw16_holds at h
 refine kSR ?_
 refine kC 1 [0,1,4] ?_
 refine kEN ?_
 obtain ⟨y0, hy0, h0⟩ := bindS h
 refine K.cutX (by kernel_rfl) (fun (s1 : Unit) => ([(4, .bool false)], [])) y0 ?_ (fun s1 hs => ?_)
 ·refine kSR ?_
  refine kC 1 [0,1,4,5] ?_
  refine kEN ?_
  refine kb 0 ?_
  refine kl (fun (s0 : Int) => ([(0, lB x0), (1, .str x1), (4, .bool false), (5, iL s0)], [])) hy0 [0, 1, 4, 5] (fun s0 x71 hs0 => ?_)
  refine kS ?_
  refine kSR ?_
  refine kC 7 [0,1,4,5,12] ?_
  refine kEN ?_
  refine kBJ 12 hs0 (fun h1 => ?_) (fun h2 => ?_)
  ·refine kT ?_
   refine kK ?_
   refine PJ.next ?_
   refine kS ?_
   refine kb 1 ?_
   refine kSR ?_
   refine kC 6 [0,1,4,5,15,16,20] ?_
   obtain ⟨hm, h3⟩ := asrt h1
   refine RJ.rel (d := (some 21)) (ef := ⟨.lst (((IntKind.wrap .i64 (s0 + (x1.length : Int))) : Int).toNat - (s0 : Int).toNat) 1 (((x0.flatMap (encI .u8)).take (((IntKind.wrap .i64 (s0 + (x1.length : Int))) : Int).toNat * 1)).drop ((s0 : Int).toNat * 1)), [], []⟩) (ef' := ⟨.lst (cut x0 s0 ((IntKind.wrap .i64 (s0 + (x1.length : Int))))).length 1 ((cut x0 s0 ((IntKind.wrap .i64 (s0 + (x1.length : Int))))).flatMap (encI .u8)), [], []⟩) (c := inS s0 ((IntKind.wrap .i64 (s0 + (x1.length : Int)))) x0.length) (tr2 := []) (H2 := []) (by kernel_rfl) hm (fun hc => N.slice (encI_len .u8) hc) (by kernel_rfl) ?_
   refine RJ.rel (d := (some 22)) (ef := ⟨.str ((((cut x0 s0 ((IntKind.wrap .i64 (s0 + (x1.length : Int)))))).flatMap (encI .u8)).map Go.Sy.byteOf), [], []⟩) (ef' := ⟨.str (bytesS ((cut x0 s0 ((IntKind.wrap .i64 (s0 + (x1.length : Int))))))), [], []⟩) (c := (((cut x0 s0 ((IntKind.wrap .i64 (s0 + (x1.length : Int)))))).flatMap (encI .u8)).all isByte) (tr2 := []) (H2 := []) (by kernel_rfl) (allByte ((cut x0 s0 ((IntKind.wrap .i64 (s0 + (x1.length : Int))))))) (fun hc => N.toStr) (by kernel_rfl) ?_
   refine kC 2 [0,1,4,5,24] ?_
   refine kEN ?_
   refine kBJ 24 h3 (fun h4 => ?_) (fun h5 => ?_)
   ·refine kT ?_
    refine kSR ?_
    refine kC 1 [0,1,4,5] ?_
    refine kEN ?_
    refine kX ?_
    refine PJ.blockRet ?_
    refine PJ.passRet ?_
    obtain rfl := oi h4
    refine PJ.loopOut (fun e => nomatch e) (fun he0 => ?_)
    have h6 := congrArg some he0
    refine PJ.blockRet ?_
    obtain rfl := oi h6
    have h7 := joinX_inr h0
    refine PJ.cutXr (fun e => nomatch e) ?_
    obtain rfl := oi h7
    exact kZ hFn hFH hFD
   ·refine kF ?_
    refine kK ?_
    refine PJ.blockNormal ?_
    refine PJ.next ?_
    refine kR ?_
    refine kC 3 [0,1,4,5] ?_
    refine kE ?_
    obtain rfl := oi h5
    exact kLN [0, 1, 4, 5]
  ·refine kF ?_
   refine K.exit 0 (by kernel_rfl) ?_
   refine PJ.passExit ?_
   obtain rfl := oi h2
   refine PJ.loopOut (fun e => nomatch e) (fun he1 => ?_)
   have h8 := congrArg some he1
   refine PJ.blockOut ?_
   obtain rfl := oi h8
   exact kXl [4]
 ·subst hs
  have h9 := joinX_inl h0
  refine kSR ?_
  refine kC 1 [4] ?_
  refine kEN ?_
  refine kX ?_
  obtain rfl := oi h9
  exact kZ hFn hFH hFD
def exerguelaw16_BundPool (x0 : St28) (x1 : Int) : Option (Bool) :=
 (Option.bind exerguelaw16_shown fun y2 => (Option.bind (exergueref15_Small x0) fun y5 => (bif (!y5) then (some y2) else (Option.bind (bund_Encode x0) fun y1 => (Option.bind (bund_Texts x0) fun y0 => (bif (decide (¬ y1.2 = 0)) then (Option.bind (bif y2 then (some ((decide ((y1.1.length : Int) = 0)))) else (some false)) fun (s0 : Bool) => (some s0)) else (Option.bind (Option.bind (bif (decide (¬ (y0.length : Int) = ((IntKind.wrap .i64 (((IntKind.wrap .i64 (((IntKind.wrap .i64 (5 + (x0.Rules_.length : Int)))) + ((IntKind.wrap .i64 (2 * (x0.Curs_.length : Int))))))) + (x0.Comps_.length : Int)))))) then (some true) else (bif inR 0 y0.length then (bif ((nth y0 0) != x0.Tag_) then (some true) else (bif inR 1 y0.length then (bif ((nth y0 1) != x0.Pats_.a0_) then (some true) else (bif inR 4 y0.length then (some ((nth y0 4) != x0.Pats_.a3_)) else none)) else none)) else none)) fun (s1 : Bool) => (bif s1 then (some (.inr false)) else (some (.inl ())))) (joinX fun (s3 : Unit) => (Option.bind (bund_Encode (⟨x0.Pats_.a0_, x0.S_, x0.Pats_, x0.Rules_, x0.Curs_, x0.Comps_⟩ : St28)) fun y3 => (Option.bind (bif y2 then (bif (decide (y3.2 = 0)) then (bif (decide ((y3.1.length : Int) ≤ (y1.1.length : Int))) then (bif (decide (x1 < 0)) then (some true) else (bif (decide (x1 ≥ (y0.length : Int))) then (some true) else (bif inR x1 y0.length then (Option.bind (exerguelaw16_holds y1.1 (nth y0 x1)) fun y4 => (some y4)) else none))) else (some false)) else (some false)) else (some false)) fun (s2 : Bool) => (some s2)))))))))))
theorem exerguelaw16_BundPool_ok {x0 : St28} {x1 : Int} {r : Bool} (h : exerguelaw16_BundPool x0 x1 = some r) : SC Try.prog 7 [.agg (encSt28 x0), iL x1] [] (.bool r) [] := by
 refine kFn (fn := Try.f7) (fun F hFn hFH hFD => ?_)
 unfold exerguelaw16_BundPool at h
 refine kSR ?_
 refine kC 2 [1,2,4] ?_
 refine kEN ?_
 refine kSR ?_
 obtain ⟨y2, hy0, h1⟩ := bindS h
 refine kA 12 (exerguelaw16_shown_ok hy0) ?_
 refine kC 1 [1,2,4,5] ?_
 refine kEN ?_
 refine kS ?_
 refine kSR ?_
 refine kC 1 [1,2,4,5,13] ?_
 obtain ⟨y5, hy1, h2⟩ := bindS h1
 refine kA 14 (exergueref15_Small_ok hy1) ?_
 refine kC 1 [1,2,4,5,15] ?_
 refine kEN ?_
 refine kBJ 15 h2 (fun h3 => ?_) (fun h4 => ?_)
 ·refine kT ?_
  refine kSR ?_
  refine kC 2 [1,2,4,5] ?_
  refine kEN ?_
  refine kX ?_
  refine PJ.passRet ?_
  obtain rfl := oi h3
  exact kZ hFn hFH hFD
 ·refine kF ?_
  refine kK ?_
  refine PJ.next ?_
  refine kSR ?_
  refine kC 1 [1,2,4,5,18] ?_
  obtain ⟨y1, hy2, h5⟩ := bindS h4
  refine kA 19 (bund_Encode_ok hy2) ?_
  refine kC 5 [1,2,4,5,6,7] ?_
  refine kEN ?_
  refine kSR ?_
  refine kC 1 [1,2,4,5,6,7,22] ?_
  obtain ⟨y0, hy3, h6⟩ := bindS h5
  refine kA 23 (bund_Texts_ok hy3) ?_
  refine kC 1 [1,2,4,5,6,7,8] ?_
  refine kEN ?_
  refine kS ?_
  refine kSR ?_
  refine RJ.seg 2 [1, 2, 4, 5, 6, 8, 25] (L2 := [(1, iL x1), (2, .ptr 0 0), (4, .bool false), (5, .bool y2), (6, lB y1.1), (8, lT y0), (25, .bool (decide (¬ y1.2 = 0)))]) (H2 := [.box (encSt28 x0)]) (by kernel_rfl) ?_
  refine kEN ?_
  refine kBJ 25 h6 (fun h7 => ?_) (fun h8 => ?_)
  ·refine kT ?_
   obtain ⟨s0, hy4, h9⟩ := bindS h7
   refine K.cutN (by kernel_rfl) (fun (s0 : Bool) => ([(1, iL x1), (2, .ptr 0 0), (4, .bool s0), (5, .bool y2), (6, lB y1.1), (8, lT y0)], [.box (encSt28 x0)])) s0 ?_ ?_
   ·refine kR ?_
    refine kC 2 [1,2,4,5,6,8,27] ?_
    refine kB 27 hy4 (fun h10 => ?_) (fun h11 => ?_)
    ·refine kC 5 [1,2,4,5,6,8] ?_
     refine kE ?_
     obtain rfl := oi h10
     exact kN [1, 2, 4, 5, 6, 8]
    ·refine kC 5 [1,2,4,5,6,8] ?_
     refine kE ?_
     obtain rfl := oi h11
     exact kN [1, 2, 4, 5, 6, 8]
   ·refine kX ?_
    refine PJ.passRet ?_
    obtain rfl := oi h9
    exact kZ hFn hFH hFD
  ·refine kF ?_
   refine kK ?_
   refine PJ.next ?_
   obtain ⟨y6, hy5, h0⟩ := bindS h8
   refine K.cutX (by kernel_rfl) (fun (s3 : Unit) => ([(1, iL x1), (2, .ptr 0 0), (4, .bool false), (5, .bool y2), (6, lB y1.1), (8, lT y0)], [.box (encSt28 x0)])) y6 ?_ (fun s3 hs => ?_)
   ·obtain ⟨s1, hy6, h12⟩ := bindS hy5
    refine K.cutN (by kernel_rfl) (fun (s1 : Bool) => ([(1, iL x1), (2, .ptr 0 0), (4, .bool false), (5, .bool y2), (6, lB y1.1), (8, lT y0), (73, .bool s1)], [.box (encSt28 x0)])) s1 ?_ ?_
    ·refine J.keep [1, 2, 4, 5, 6, 8] (L2 := [(1, iL x1), (2, .ptr 0 0), (4, .bool false), (5, .bool y2), (6, lB y1.1), (8, lT y0)]) (by kernel_rfl) ?_
     refine K.draw (by kernel_rfl) (by kernel_rfl) (by kernel_rfl) (H2 := [.box (encSt28 x0)]) (by kernel_rfl) (n := 1) (by kernel_rfl) ?_
     refine kD 17 ?_
     refine kB 48 hy6 (fun h13 => ?_) (fun h14 => ?_)
     ·refine kD 25 ?_
      refine kE ?_
      obtain rfl := oi h13
      exact kN [1, 2, 4, 5, 6, 8, 73]
     ·refine kD 1 ?_
      obtain ⟨hm, h15⟩ := asrt h14
      refine kJ 50 (tr2 := [([], []), ([], []), ([], []), ([0, 1], []), ([], []), ([], []), ([], []), ([0, 1], []), ([], []), ([], []), ([], []), ([], []), ([0, 1], []), ([], []), ([], []), ([], []), ([], []), ([], []), ([], [])]) encT_len hm ?_
      refine kD 6 ?_
      refine kB 56 h15 (fun h16 => ?_) (fun h17 => ?_)
      ·refine kD 17 ?_
       refine kE ?_
       obtain rfl := oi h16
       exact kN [1, 2, 4, 5, 6, 8, 73]
      ·refine kD 1 ?_
       obtain ⟨hm, h18⟩ := asrt h17
       refine kJ 58 (tr2 := [([], []), ([], []), ([], []), ([0, 1], []), ([], []), ([], []), ([], []), ([0, 1], []), ([], []), ([], []), ([], []), ([], []), ([0, 1], []), ([], []), ([], []), ([], []), ([], []), ([], []), ([], []), ([], []), ([], []), ([0, 1], []), ([], []), ([], []), ([], []), ([], []), ([], [])]) encT_len hm ?_
       refine kD 7 ?_
       refine kB 65 h18 (fun h19 => ?_) (fun h20 => ?_)
       ·refine kD 8 ?_
        refine kE ?_
        obtain rfl := oi h19
        exact kN [1, 2, 4, 5, 6, 8, 73]
       ·refine kD 1 ?_
        obtain ⟨hm, h21⟩ := asrt h20
        refine kJ 67 (tr2 := [([], []), ([], []), ([], []), ([0, 1], []), ([], []), ([], []), ([], []), ([0, 1], []), ([], []), ([], []), ([], []), ([], []), ([0, 1], []), ([], []), ([], []), ([], []), ([], []), ([], []), ([], []), ([], []), ([], []), ([0, 1], []), ([], []), ([], []), ([], []), ([], []), ([], []), ([], []), ([], []), ([], []), ([0, 1], []), ([], []), ([], []), ([], []), ([], []), ([], [])]) encT_len hm ?_
        refine kD 6 ?_
        refine kE ?_
        obtain rfl := oi h21
        exact kN [1, 2, 4, 5, 6, 8, 73]
    ·refine kBJ 73 h12 (fun h22 => ?_) (fun h23 => ?_)
     ·refine kT ?_
      refine kSR ?_
      refine kC 1 [1,2,4,5,6,8] ?_
      refine kEN ?_
      refine kX ?_
      obtain rfl := oi h22
      have h24 := joinX_inr h0
      refine PJ.cutXr (fun e => nomatch e) ?_
      obtain rfl := oi h24
      exact kZ hFn hFH hFD
     ·refine kF ?_
      refine kK ?_
      obtain rfl := oi h23
      exact kXl [1, 2, 4, 5, 6, 8]
   ·subst hs
    have h25 := joinX_inl h0
    refine kSR ?_
    refine kC 3 [1,2,4,5,6,8,9] ?_
    refine kEN ?_
    refine kSR ?_
    refine kC 5 [1,4,5,6,8,9] ?_
    refine kEN ?_
    refine kSR ?_
    refine kC 1 [1,4,5,6,8,80] ?_
    obtain ⟨y3, hy7, h26⟩ := bindS h25
    refine kA 81 (bund_Encode_ok hy7) ?_
    refine kC 5 [1,4,5,6,8,10,11] ?_
    refine kEN ?_
    obtain ⟨s2, hy8, h27⟩ := bindS h26
    refine K.cutN (by kernel_rfl) (fun (s2 : Bool) => ([(4, .bool s2)], [])) s2 ?_ ?_
    ·refine kR ?_
     refine kC 2 [1,4,6,8,10,11,85] ?_
     refine kB 85 hy8 (fun h28 => ?_) (fun h29 => ?_)
     ·refine kC 4 [1,4,6,8,10,89] ?_
      refine kB 89 h28 (fun h30 => ?_) (fun h31 => ?_)
      ·refine kC 7 [1,4,6,8,96] ?_
       refine kB 96 h30 (fun h32 => ?_) (fun h33 => ?_)
       ·refine kC 3 [1,4,6,8,96,99] ?_
        refine kB 99 h32 (fun h34 => ?_) (fun h35 => ?_)
        ·refine RJ.seg 15 [4] (L2 := [(4, .bool true)]) (H2 := [.box (encSt28 x0), .box (q12 x0.Pats_.a0_ x0.S_.Zero_ x0.S_.Dec_ x0.S_.Group_ x0.S_.Minus_ x0.S_.Plus_ x0.S_.Percent_ x0.S_.Exp_ x0.Pats_.a0_ x0.Pats_.a1_ x0.Pats_.a2_ x0.Pats_.a3_ [lsv encSt57 2 x0.Rules_, lsv encSt59 3 x0.Curs_, lsv encSt61 3 x0.Comps_])]) (by kernel_rfl) ?_
         refine kE ?_
         obtain rfl := oi h34
         refine kW (L2 := [(4, .bool true)]) (H2 := []) hFH hFD [] ?_
         exact kN [4]
        ·refine RJ.seg 6 [1, 4, 6, 8, 96, 105] (L2 := [(1, iL x1), (4, .bool false), (6, lB y1.1), (8, lT y0), (96, .bool true), (105, .bool ((decide (x1 ≥ (y0.length : Int)))))]) (H2 := [.box (encSt28 x0), .box (q12 x0.Pats_.a0_ x0.S_.Zero_ x0.S_.Dec_ x0.S_.Group_ x0.S_.Minus_ x0.S_.Plus_ x0.S_.Percent_ x0.S_.Exp_ x0.Pats_.a0_ x0.Pats_.a1_ x0.Pats_.a2_ x0.Pats_.a3_ [lsv encSt57 2 x0.Rules_, lsv encSt59 3 x0.Curs_, lsv encSt61 3 x0.Comps_])]) (by kernel_rfl) ?_
         refine kB 105 h35 (fun h36 => ?_) (fun h37 => ?_)
         ·refine kC 9 [4] ?_
          refine kE ?_
          obtain rfl := oi h36
          refine kW (L2 := [(4, .bool true)]) (H2 := []) hFH hFD [] ?_
          exact kN [4]
         ·refine kC 3 [4,96,105,106,107,108] ?_
          obtain ⟨hm, h38⟩ := asrt h37
          refine kI 109 encT_len hm ?_
          refine kC 1 [4,96,105,106,110] ?_
          obtain ⟨y4, hy9, h39⟩ := bindS h38
          refine kA 111 (exerguelaw16_holds_ok hy9) ?_
          refine kC 3 [4] ?_
          refine kE ?_
          obtain rfl := oi h39
          refine kW (L2 := [(4, .bool y4)]) (H2 := []) hFH hFD [] ?_
          exact kN [4]
       ·refine kC 18 [4] ?_
        refine kE ?_
        obtain rfl := oi h33
        refine kW (L2 := [(4, .bool false)]) (H2 := []) hFH hFD [] ?_
        exact kN [4]
      ·refine kC 25 [4] ?_
       refine kE ?_
       obtain rfl := oi h31
       refine kW (L2 := [(4, .bool false)]) (H2 := []) hFH hFD [] ?_
       exact kN [4]
     ·refine kC 29 [4] ?_
      refine kE ?_
      obtain rfl := oi h29
      refine kW (L2 := [(4, .bool false)]) (H2 := []) hFH hFD [] ?_
      exact kN [4]
    ·refine kX ?_
     obtain rfl := oi h27
     exact kZ hFn hFH hFD
end Go.Proofs.Ythhabncebpaheaa
