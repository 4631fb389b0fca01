/-
  What the functions of this program come to, as functions of natives, each with the proof that it does. No conditions.
-/
import Derived.Test.YtcapcgbamehojaaGreatDoorProg
import Derived.Test.YtcapcgbamehojaaGreatDoorSySL
import Derived.Test.YtcapcgbamehojaaGreatDoorGc
namespace Go.Proofs.YtcapcgbamehojaaGreatDoor
open Go Go.Sy Go.RowKit
set_option linter.unusedVariables false
set_option linter.unusedSimpArgs false
set_option maxRecDepth 100000
set_option maxHeartbeats 4000000
def b0S (x0 : d0k) (x1 : l0L) : Option (Bool) :=
 (bif room x1.d_.length then (bif room (x1.d_.length + x1.e_.length) then (Option.bind (c0s x0 (x1.d_ ++ x1.e_)) fun y0 => (some y0)) else none) else none)
theorem e0f {x0 : d0k} {x1 : l0L} {r : Bool} (h : b0S x0 x1 = some r) : SQ 31 [.agg (a0h x0), .agg (d0q x1)] [] (.bool r) [] := by
 refine kFn (fn := Tryz.f31) (fun F H D W => ?_)
 unfold b0S at h
 refine kq (kS (kDr (kD 3 ?_)))
 obtain ⟨hm, h0⟩ := b0p h
 refine RJ.rel (d := (some 9)) (ef' := ⟨.vc 3, [], [(3, .vec x1.d_.length 1 21 (x1.d_.flatMap (a0r .i32)))]⟩) (tr2 := [([], [4, 5]), ([], []), ([2, 3], []), ([], [6, 7, 6, 7])]) (H2 := [.box (a0h x0), .box (d0q x1), .res, a0D (a0r .i32) 1 21 x1.d_, .res]) (by kernel_rfl) hm (fun hc => rfl) (by kernel_rfl) (kD 2 ?_)
 obtain ⟨hm, h1⟩ := b0p h0
 refine RJ.rel (d := (some 12)) (ef := ⟨.vc 4, [3], [(3, .gone), (4, .vec (x1.d_.length + x1.e_.length) 1 21 (x1.d_.flatMap (a0r .i32) ++ x1.e_.flatMap (a0r .i32)))]⟩) (ef' := ⟨.vc 4, [3], [(3, .gone), (4, a0D (a0r .i32) 1 21 (x1.d_ ++ x1.e_))]⟩) (c := room (x1.d_.length + x1.e_.length)) (tr2 := [([], [4, 5]), ([], []), ([2, 3], []), ([], [6, 7, 6, 7]), ([], []), ([2, 3], []), ([6, 7], [6, 7, 8, 9, 8, 9])]) (H2 := [.box (a0h x0), .box (d0q x1), .res, .gone, a0D (a0r .i32) 1 21 (x1.d_ ++ x1.e_)]) (by kernel_rfl) hm (fun hc => N.app) (by kernel_rfl) (kD 1 (kEN (kn 2 ?_)))
 obtain ⟨y0, hy0, h2⟩ := a0d h1
 exact RJ.callL (d := (some 15)) (f := 51) (args := [.agg (a0h x0), .vc 4]) (args0 := [.agg (a0h x0), .vc 0]) (args1 := [.agg (a0h x0), lR (x1.d_ ++ x1.e_)]) (H0 := [a0D (a0r .i32) 1 21 (x1.d_ ++ x1.e_)]) (v := .bool y0) (tr2 := []) [4] (by kernel_rfl) (by kernel_rfl) (by kernel_rfl) (by kernel_rfl) (by decide) (by kernel_rfl) (by kernel_rfl) (by kernel_rfl) (by kernel_rfl) (LeL.refl _) (j0R hy0) (by kernel_rfl) (by kernel_rfl) (kr 1 (kX (by cases h2; exact kZ H D W)))
def c0m (x0 : d0k) (x1 : Int) (x2 : List UInt8) : Option (Bool) :=
 (Option.bind d0C fun y1 => (Option.bind (Option.bind (Option.bind (d0e x0) fun y11 => (bif (!y11) then (some true) else (some ((decide ((x2.length : Int) > 400)))))) fun (s0 : Bool) => (bif s0 then (some (.inr y1)) else (some (.inl ())))) (a0i fun (s4 : Unit) => (Option.bind (b0Q x0 x1 x2) fun y0 => (bif (!y0.2) then (Option.bind (bif y1 then (Option.bind (c0t y0.1 (⟨([] : List a0b), ([] : List a0b), ([] : List a0b), ([] : List a0b), false, 0, 0, 0, 0, 0, 0, 0, 0, 0, false, 0, 0⟩ : a0M)) fun y5 => (some y5)) else (some false)) fun (s1 : Bool) => (some s1)) else (Option.bind (a0X y0.1.d_ 3) fun y6 => (Option.bind (a0X y0.1.e_ 3) fun y7 => (Option.bind (a0X y0.1.d_ 4) fun y8 => (Option.bind (a0X y0.1.e_ 4) fun y9 => (Option.bind (Option.bind (Option.bind (a0Y y0.1) fun y12 => (bif (!y12) then (some true) else (bif (decide ((IntKind.wrap .i64 (y0.1.m_ + y0.1.g_)) < 1)) then (some true) else (bif (((decide ((IntKind.wrap .i64 (y6 + y7)) = 1))) != (decide (x1 = 1))) then (some true) else (bif (((decide ((IntKind.wrap .i64 (y8 + y9)) = 1))) != (decide (x1 = 3))) then (some true) else (some (((decide (y0.1.b_ > 0)) != (decide (x1 = 2)))))))))) fun (s2 : Bool) => (bif s2 then (some (.inr false)) else (some (.inl ())))) (a0i fun (s5 : Unit) => (Option.bind (c0v y0.1 x0 0 ([] : List Int)) fun y3 => (Option.bind (c0v y0.1 x0 1 ([] : List Int)) fun y2 => (Option.bind (c0v y0.1 x0 2 ([] : List Int)) fun y4 => (Option.bind (bif y1 then (Option.bind (c0r y3 y2) fun y10 => (bif (!y10) then (Option.bind (c0r y2 y4) fun y13 => (bif (!y13) then (Option.bind (b0S x0 y3) fun y14 => (bif y14 then (Option.bind (b0S x0 y2) fun y15 => (bif y15 then (Option.bind (b0S x0 y4) fun y16 => (some y16)) else (some false))) else (some false))) else (some false))) else (some false))) else (some false)) fun (s3 : Bool) => (some s3))))))))))))))))
theorem g0K {x0 : d0k} {x1 : Int} {x2 : List UInt8} {r : Bool} (h : c0m x0 x1 x2 = some r) : SQ 6 [.agg (a0h x0), iL x1, .str x2] [] (.bool r) [] := by
 refine kFn (fn := Tryz.f6) (fun F H D W => ?_)
 unfold c0m at h
 refine kq (kSR (kAb 15 h (fun _ => j0k) (fun y1 h0 => kr 1 (kcX h0 (fun (s4 : Unit) => ([(1, iL x1), (2, .str x2), (3, .ptr 0 0), (6, .bool false), (7, .bool y1)], [.box (a0h x0)])) (fun y17 hy0 h1 => ?_) (fun s4 h2 => ?_)))))
 ·exact kcN hy0 (fun (s0 : Bool) => ([(1, iL x1), (2, .str x2), (3, .ptr 0 0), (6, .bool false), (7, .bool y1), (23, .bool s0)], [.box (a0h x0)])) (fun s0 hy1 => km 1 (kAb 17 hy1 (fun _ => j0Q) (fun y11 h4 => kc 2 (kB 19 h4 (fun h5 => ke 4 (kNo h5 [1, 2, 3, 6, 7, 23])) (fun h6 => ke 4 (kNo h6 [1, 2, 3, 6, 7, 23])))))) (fun s0 h3 => kBT 23 h3 (fun h7 => kq (kX (kCx h7 h1 (fun h9 => by obtain rfl := oi h9; exact kZ H D W)))) (fun h8 => kK (kXo h8 [1, 2, 3, 6, 7])))
 ·refine kn 3 (kAb 29 h2 (fun _ => b0Y) (fun y0 h10 => kr 6 (kS (kq (kBT 33 h10 (fun h11 => ?_) (fun h12 => ?_))))))
  ·refine kcN h11 (fun (s1 : Bool) => ([(1, iL x1), (3, .ptr 0 0), (6, .bool s1), (7, .bool y1), (8, .ptr 1 0)], [.box (a0h x0), .box (a0c y0.1)])) (fun s1 hy2 => ?_) (fun s1 h13 => ?_)
   ·refine km 2 (kB 35 hy2 (fun h14 => ?_) (fun h15 => ?_))
    ·refine kc 2 ?_
     obtain ⟨y5, hy3, h16⟩ := a0d h14
     exact RJ.call0 (d := (some 38)) (f := 15) (args := [.agg (a0c y0.1), zQ]) (v := .bool y5) (tr2 := []) (by kernel_rfl) (by kernel_rfl) (.cons (Le.refl _) (.cons (Le.agg (.cons (Le.nl _) (.cons (Le.nl _) (.cons (Le.nl _) (.cons (Le.nl _) (LeL.refl _)))))) .nil)) (f0P hy3) (by kernel_rfl) (ke 2 (kNo h16 [1, 3, 6, 7, 8]))
    ·exact ke 5 (kNo h15 [1, 3, 6, 7, 8])
   ·exact kX (PJ.passRet (by cases h13; exact kZ H D W))
  ·refine kKN (kS (kDr (kD 2 ?_)))
   obtain ⟨y6, hy4, h17⟩ := a0d h12
   refine kC0 (some 42) [([], []), ([2, 3], []), ([], [4, 5])] (b0A hy4) (kD 2 ?_)
   obtain ⟨y7, hy5, h18⟩ := a0d h17
   refine kC0 (some 45) [([], []), ([2, 3], []), ([], [4, 5]), ([], []), ([2, 3], []), ([], [6, 7])] (b0A hy5) (kD 2 (kEN (kS (kDr (kD 2 ?_)))))
   obtain ⟨y8, hy6, h19⟩ := a0d h18
   refine kC0 (some 49) [([], []), ([2, 3], []), ([], [8, 9])] (b0A hy6) (kD 2 ?_)
   obtain ⟨y9, hy7, h20⟩ := a0d h19
   refine kC0 (some 52) [([], []), ([2, 3], []), ([], [8, 9]), ([], []), ([2, 3], []), ([], [10, 11])] (b0A hy7) (kD 2 (kEN (kcX h20 (fun (s5 : Unit) => ([(3, .ptr 0 0), (6, .bool false), (7, .bool y1), (8, .ptr 1 0)], [.box (a0h x0), .box (a0c y0.1)])) (fun y18 hy8 h21 => ?_) (fun s5 h22 => ?_))))
   ·exact kcN hy8 (fun (s2 : Bool) => ([(3, .ptr 0 0), (6, .bool false), (7, .bool y1), (8, .ptr 1 0), (86, .bool s2)], [.box (a0h x0), .box (a0c y0.1)])) (fun s2 hy9 => km 1 (kAb 55 hy9 (fun _ => j0e) (fun y12 h24 => kc 2 (kB 57 h24 (fun h25 => ke 29 (kNW h25 D W [0, 1])) (fun h26 => kc 8 (kB 65 h26 (fun h27 => ke 21 (kNW h27 D W [0, 1])) (fun h28 => kc 7 (kB 72 h28 (fun h29 => ke 14 (kNW h29 D W [0, 1])) (fun h30 => kc 7 (kB 79 h30 (fun h31 => ke 7 (kNW h31 D W [0, 1])) (fun h32 => ke 7 (kNW h32 D W [0, 1])))))))))))) (fun s2 h23 => kBT 86 h23 (fun h33 => kq (kX (kCx h33 h21 (fun h35 => by obtain rfl := oi h35; exact kZ H D W)))) (fun h34 => kK (kXo h34 [3, 6, 7, 8])))
   ·refine kn 2 ?_
    obtain ⟨y3, hy10, h36⟩ := a0d h22
    refine RJ.call0 (d := (some 89)) (f := 29) (args := [.agg (a0c y0.1), .agg (a0h x0), iL 0, .nl]) (v := .agg (d0q y3)) (tr2 := []) (by kernel_rfl) (by kernel_rfl) (.cons (Le.refl _) (.cons (Le.refl _) (.cons (Le.refl _) (.cons (Le.nl _) .nil)))) (e0W hy10) (by kernel_rfl) (kr 2 (kn 2 ?_))
    obtain ⟨y2, hy11, h37⟩ := a0d h36
    refine RJ.call0 (d := (some 92)) (f := 29) (args := [.agg (a0c y0.1), .agg (a0h x0), iL 1, .nl]) (v := .agg (d0q y2)) (tr2 := []) (by kernel_rfl) (by kernel_rfl) (.cons (Le.refl _) (.cons (Le.refl _) (.cons (Le.refl _) (.cons (Le.nl _) .nil)))) (e0W hy11) (by kernel_rfl) (kr 2 (kn 2 ?_))
    obtain ⟨y4, hy12, h38⟩ := a0d h37
    exact RJ.call0 (d := (some 95)) (f := 29) (args := [.agg (a0c y0.1), .agg (a0h x0), iL 2, .nl]) (v := .agg (d0q y4)) (tr2 := []) (by kernel_rfl) (by kernel_rfl) (.cons (Le.refl _) (.cons (Le.refl _) (.cons (Le.refl _) (.cons (Le.nl _) .nil)))) (e0W hy12) (by kernel_rfl) (kr 2 (kcN h38 (fun (s3 : Bool) => ([(6, .bool s3)], [])) (fun s3 hy13 => km 2 (kB 97 hy13 (fun h40 => kc 2 (kAb 100 h40 (fun _ => f0O) (fun y10 h42 => RJ.seg 3 [3, 6, 12, 13, 14, 103] (L2 := [(3, .ptr 0 0), (6, .bool false), (12, .ptr 2 0), (13, .ptr 3 0), (14, .ptr 4 0), (103, .bool (!y10))]) (H2 := [.box (a0h x0), .box (a0c y0.1), .box (d0q y3), .box (d0q y2), .box (d0q y4)]) (by kernel_rfl) (kB 103 h42 (fun h43 => kc 2 (kAb 106 h43 (fun _ => f0O) (fun y13 h45 => kc 3 (kB 109 h45 (fun h46 => kc 2 (kAb 112 h46 (fun _ => e0f) (fun y14 h48 => kc 2 (kB 114 h48 (fun h49 => kc 2 (kAb 117 h49 (fun _ => e0f) (fun y15 h51 => kc 2 (kB 119 h51 (fun h52 => kc 2 (kAb 122 h52 (fun _ => e0f) (fun y16 h54 => ke 2 (kNW h54 D W [])))) (fun h53 => ke 5 (kNW h53 D W [])))))) (fun h50 => ke 10 (kNW h50 D W [])))))) (fun h47 => ke 15 (kNW h47 D W [])))))) (fun h44 => ke 21 (kNW h44 D W [])))))) (fun h41 => ke 27 (kNW h41 D W [])))) (fun s3 h39 => kX (by cases h39; exact kZ H D W))))
end Go.Proofs.YtcapcgbamehojaaGreatDoor
