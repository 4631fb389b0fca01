/-
  What the functions of this program come to, as functions of natives, each with the proof that it does. No conditions.
-/
import Derived.Test.YteaokhdkocddcaaGreatDoorProg
import Derived.Test.YteaokhdkocddcaaGreatDoorSySL
import Derived.Test.YteaokhdkocddcaaGreatDoorGb
namespace Go.Proofs.YteaokhdkocddcaaGreatDoor
open Go Go.Sy Go.RowKit
set_option linter.unusedVariables false
set_option linter.unusedSimpArgs false
set_option maxRecDepth 100000
set_option maxHeartbeats 4000000
def exergueref11_rel (x0 : List UInt8) (x1 : Int) : Option (St75 × Int × Bool) :=
 (Option.bind (exergueref11_over x0 x1) fun y1 => (Option.bind (Option.bind (Option.bind (exergueref11_word x0 y1) fun y53 => (bif (decide (¬ y53 = (IntKind.wrap .i64 (y1 + 1)))) then (some true) else (bif inR y1 x0.length then (Option.bind (exergueref11_op ((((x0.getD (y1 : Int).toNat 0).toNat : Nat) : Int))) fun y60 => (some (!y60))) else none))) fun (s48 : Bool) => (bif s48 then (some (.inr ((⟨0, 0, false, ([] : List St80)⟩ : St75), y1, false))) else (some (.inl ())))) (joinX fun (s33 : Unit) => (bif inR y1 x0.length then (Option.bind (exergueref11_over x0 (IntKind.wrap .i64 (y1 + 1))) fun y68 => (Option.bind (Option.bind (exergueref11_sign x0 y68 ([37] : List UInt8)) fun y92 => (bif y92 then (Option.bind (exergueref11_number x0 (IntKind.wrap .i64 (y68 + 1)) 1) fun y98 => (bif (decide (y98.1 < 0)) then (some (.inr ((⟨(((x0.getD (y1 : Int).toNat 0).toNat : Nat) : Int), 0, false, ([] : List St80)⟩ : St75), y98.2, false))) else (Option.bind (exergueref11_over x0 y98.2) fun y105 => (some (.inl (y105, y98.1)))))) else (some (.inl (y68, 0))))) (joinX fun (s87 : Int × Int) => (Option.bind (Option.bind (exergueref11_sign x0 s87.1 ([33, 61] : List UInt8)) fun y119 => (bif y119 then (some ((IntKind.wrap .i64 (s87.1 + 1)), true)) else (some (s87.1, false)))) fun (s114 : Int × Bool) => (Option.bind (exergueref11_sign x0 s114.1 ([61] : List UInt8)) fun y125 => (bif (!y125) then (some ((⟨(((x0.getD (y1 : Int).toNat 0).toNat : Nat) : Int), s87.2, s114.2, ([] : List St80)⟩ : St75), s114.1, false)) else (Option.bind (exergueref11_ranges x0 (IntKind.wrap .i64 (s114.1 + 1))) fun y131 => (some ((⟨(((x0.getD (y1 : Int).toNat 0).toNat : Nat) : Int), s87.2, s114.2, y131.1⟩ : St75), y131.2.1, y131.2.2))))))))) else none))))
theorem exergueref11_rel_ok {x0 : List UInt8} {x1 : Int} {r : St75 × Int × Bool} (h : exergueref11_rel x0 x1 = some r) : SC Tryz.prog 41 [.str x0, .int .i64 x1] [] (.tup [.agg (encSt75 r.1), .int .i64 r.2.1, .bool r.2.2]) [] := by
 refine kFn (fn := Tryz.f41) (fun F hFn hFH hFD => ?_)
 unfold exergueref11_rel at h
 refine kSR ?_
 refine kC 3 [0,1,4,5,6] ?_
 refine kEN ?_
 refine kSR ?_
 refine kC 3 [0,1,4,5,6,7] ?_
 refine kEN ?_
 refine kSR ?_
 refine kC 2 [0,1,4,5,6,7,14,15] ?_
 obtain ⟨y1, hy2, h3⟩ := bindS h
 refine kA 16 (exergueref11_over_ok hy2) ?_
 refine RJ.seg 1 [0, 1, 4, 5, 6, 7] (L2 := [(0, .str x0), (1, .int .i64 y1), (4, .ptr 0 0), (5, .int .i64 0), (6, .bool false), (7, .ptr 1 0)]) (H2 := [.box [.int .u8 0, .int .i64 0, .bool false, .nl], .box [.int .u8 0, .int .i64 0, .bool false, .nl]]) (by kernel_rfl) ?_
 refine kEN ?_
 obtain ⟨y34, hy35, h36⟩ := bindS h3
 refine K.cutX (by kernel_rfl) (fun (s33 : Unit) => ([(0, .str x0), (1, .int .i64 y1), (4, .ptr 0 0), (5, .int .i64 0), (6, .bool false), (7, .ptr 1 0)], [.box [.int .u8 0, .int .i64 0, .bool false, .nl], .box [.int .u8 0, .int .i64 0, .bool false, .nl]])) y34 ?_ (fun s33 hs => ?_)
 ·obtain ⟨s48, hy50, h52⟩ := bindS hy35
  refine K.cutN (by kernel_rfl) (fun (s48 : Bool) => ([(0, .str x0), (1, .int .i64 y1), (4, .ptr 0 0), (5, .int .i64 0), (6, .bool false), (7, .ptr 1 0), (29, .bool s48)], [.box [.int .u8 0, .int .i64 0, .bool false, .nl], .box [.int .u8 0, .int .i64 0, .bool false, .nl]])) s48 ?_ ?_
  ·refine kR ?_
   refine kC 2 [0,1,4,5,6,7,17,18] ?_
   obtain ⟨y53, hy54, h55⟩ := bindS hy50
   refine kA 19 (exergueref11_word_ok hy54) ?_
   refine kC 4 [0,1,4,5,6,7,23] ?_
   refine kB 23 h55 (fun h57 => ?_) (fun h58 => ?_)
   ·refine kC 6 [0,1,4,5,6,7,29] ?_
    refine kE ?_
    obtain rfl := oi h57
    exact kN [0, 1, 4, 5, 6, 7, 29]
   ·refine kC 2 [0,1,4,5,6,7,23,24,25] ?_
    obtain ⟨hm, h59⟩ := asrt h58
    refine kG 26 hm ?_
    obtain ⟨y60, hy61, h62⟩ := bindS h59
    refine kA 27 (exergueref11_op_ok hy61) ?_
    refine RJ.seg 2 [0, 1, 4, 5, 6, 7, 29] (L2 := [(0, .str x0), (1, .int .i64 y1), (4, .ptr 0 0), (5, .int .i64 0), (6, .bool false), (7, .ptr 1 0), (29, .bool (!y60))]) (H2 := [.box [.int .u8 0, .int .i64 0, .bool false, .nl], .box [.int .u8 0, .int .i64 0, .bool false, .nl]]) (by kernel_rfl) ?_
    refine kE ?_
    obtain rfl := oi h62
    exact kN [0, 1, 4, 5, 6, 7, 29]
  ·refine kBJ 29 h52 (fun h64 => ?_) (fun h65 => ?_)
   ·refine kT ?_
    refine kSR ?_
    refine kC 5 [0,1,4,5,6,7] ?_
    refine kEN ?_
    refine kX ?_
    obtain rfl := oi h64
    have h66 := joinX_inr h36
    refine PJ.cutXr (fun e => nomatch e) ?_
    obtain rfl := oi h66
    refine PJ.res (v1 := .tup [.agg [.int .u8 0, .int .i64 0, .bool false, .nl], .int .i64 y1, .bool false]) (Le.tup (.cons (Le.agg (.cons (Le.refl _) (.cons (Le.refl _) (.cons (Le.refl _) (.cons (Le.nl _) .nil))))) (.cons (Le.refl _) (.cons (Le.refl _) .nil)))) ?_
    exact kZ hFn hFH hFD
   ·refine kF ?_
    refine kK ?_
    obtain rfl := oi h65
    exact PJ.cutXl [0, 1, 4, 5, 6, 7] (by kernel_rfl) (by kernel_rfl)
 ·subst hs
  have h37 := joinX_inl h36
  refine kSR ?_
  refine kC 2 [0,1,4,5,6,7,32,33] ?_
  obtain ⟨hm, h67⟩ := asrt h37
  refine kG 34 hm ?_
  refine kC 2 [0,1,4,5,6,7] ?_
  refine kEN ?_
  refine kSR ?_
  refine kC 3 [0,1,4,5,6,7,36,38] ?_
  obtain ⟨y68, hy69, h70⟩ := bindS h67
  refine kA 39 (exergueref11_over_ok hy69) ?_
  refine RJ.seg 1 [0, 1, 4, 5, 6, 7] (L2 := [(0, .str x0), (1, .int .i64 y68), (4, .ptr 0 0), (5, .int .i64 0), (6, .bool false), (7, .ptr 1 0)]) (H2 := [.box [.int .u8 0, .int .i64 0, .bool false, .nl], .box [.int .u8 ((((x0.getD (y1 : Int).toNat 0).toNat : Nat) : Int)), .int .i64 0, .bool false, .nl]]) (by kernel_rfl) ?_
  refine kEN ?_
  obtain ⟨y88, hy89, h90⟩ := bindS h70
  refine K.cutX (by kernel_rfl) (fun (s87 : Int × Int) => ([(0, .str x0), (1, .int .i64 s87.1), (4, .ptr 0 0), (5, .int .i64 0), (6, .bool false), (7, .ptr 1 0)], [.box [.int .u8 0, .int .i64 0, .bool false, .nl], .box [.int .u8 ((((x0.getD (y1 : Int).toNat 0).toNat : Nat) : Int)), .int .i64 s87.2, .bool false, .nl]])) y88 ?_ (fun s87 hs => ?_)
  ·refine kSR ?_
   refine kC 2 [0,1,4,5,6,7,40,41] ?_
   obtain ⟨y92, hy93, h94⟩ := bindS hy89
   refine kA 42 (exergueref11_sign_ok hy93) ?_
   refine kEN ?_
   refine kBJ 42 h94 (fun h96 => ?_) (fun h97 => ?_)
   ·refine kT ?_
    refine kSR ?_
    refine kC 3 [0,1,4,5,6,7,44,46] ?_
    obtain ⟨y98, hy99, h100⟩ := bindS h96
    refine kA 47 (exergueref11_number_ok hy99) ?_
    refine kC 5 [0,1,4,5,6,7,8,9] ?_
    refine kEN ?_
    refine kS ?_
    refine kSR ?_
    refine RJ.seg 2 [0, 1, 4, 5, 6, 7, 8, 9, 51] (L2 := [(0, .str x0), (1, .int .i64 y68), (4, .ptr 0 0), (5, .int .i64 0), (6, .bool false), (7, .ptr 1 0), (8, .int .i64 y98.1), (9, .int .i64 y98.2), (51, .bool (decide (y98.1 < 0)))]) (H2 := [.box [.int .u8 0, .int .i64 0, .bool false, .nl], .box [.int .u8 ((((x0.getD (y1 : Int).toNat 0).toNat : Nat) : Int)), .int .i64 0, .bool false, .nl]]) (by kernel_rfl) ?_
    refine kEN ?_
    refine kBJ 51 h100 (fun h102 => ?_) (fun h103 => ?_)
    ·refine kT ?_
     refine kSR ?_
     refine kC 5 [0,1,4,5,6,7,8,9] ?_
     refine kEN ?_
     refine kX ?_
     refine PJ.passRet ?_
     obtain rfl := oi h102
     have h104 := joinX_inr h90
     refine PJ.cutXr (fun e => nomatch e) ?_
     obtain rfl := oi h104
     refine PJ.res (v1 := .tup [.agg [.int .u8 ((((x0.getD (y1 : Int).toNat 0).toNat : Nat) : Int)), .int .i64 0, .bool false, .nl], .int .i64 y98.2, .bool false]) (Le.tup (.cons (Le.agg (.cons (Le.refl _) (.cons (Le.refl _) (.cons (Le.refl _) (.cons (Le.nl _) .nil))))) (.cons (Le.refl _) (.cons (Le.refl _) .nil)))) ?_
     exact kZ hFn hFH hFD
    ·refine kF ?_
     refine kK ?_
     refine PJ.next ?_
     refine kSR ?_
     refine kC 3 [0,1,4,5,6,7,9] ?_
     refine kEN ?_
     refine kR ?_
     refine kC 2 [0,1,4,5,6,7,56,57] ?_
     obtain ⟨y105, hy106, h107⟩ := bindS h103
     refine kA 58 (exergueref11_over_ok hy106) ?_
     refine kC 1 [0,1,4,5,6,7] ?_
     refine kE ?_
     obtain rfl := oi h107
     exact PJ.cutXl [0, 1, 4, 5, 6, 7] (by kernel_rfl) (by kernel_rfl)
   ·refine kF ?_
    refine kK ?_
    obtain rfl := oi h97
    exact PJ.cutXl [0, 1, 4, 5, 6, 7] (by kernel_rfl) (by kernel_rfl)
  ·subst hs
   have h91 := joinX_inl h90
   obtain ⟨s114, hy116, h118⟩ := bindS h91
   refine K.cutN (by kernel_rfl) (fun (s114 : Int × Bool) => ([(0, .str x0), (1, .int .i64 s114.1), (4, .ptr 0 0), (5, .int .i64 0), (6, .bool false), (7, .ptr 1 0)], [.box [.int .u8 0, .int .i64 0, .bool false, .nl], .box [.int .u8 ((((x0.getD (y1 : Int).toNat 0).toNat : Nat) : Int)), .int .i64 s87.2, .bool s114.2, .nl]])) s114 ?_ ?_
   ·refine kSR ?_
    refine kC 2 [0,1,4,5,6,7,59,60] ?_
    obtain ⟨y119, hy120, h121⟩ := bindS hy116
    refine kA 61 (exergueref11_sign_ok hy120) ?_
    refine kEN ?_
    refine kBJ 61 h121 (fun h123 => ?_) (fun h124 => ?_)
    ·refine kT ?_
     refine kSR ?_
     refine kC 2 [0,1,4,5,6,7] ?_
     refine kEN ?_
     refine kR ?_
     refine kC 3 [0,1,4,5,6,7] ?_
     refine kE ?_
     obtain rfl := oi h123
     exact kN [0, 1, 4, 5, 6, 7]
    ·refine kF ?_
     refine kK ?_
     obtain rfl := oi h124
     exact kN [0, 1, 4, 5, 6, 7]
   ·refine kS ?_
    refine kSR ?_
    refine kC 2 [0,1,4,5,6,7,65,66] ?_
    obtain ⟨y125, hy126, h127⟩ := bindS h118
    refine kA 67 (exergueref11_sign_ok hy126) ?_
    refine kC 1 [0,1,4,5,6,7,68] ?_
    refine kEN ?_
    refine kBJ 68 h127 (fun h129 => ?_) (fun h130 => ?_)
    ·refine kT ?_
     refine kSR ?_
     refine kC 5 [0,1,4,5,6,7] ?_
     refine kEN ?_
     refine kX ?_
     refine PJ.passRet ?_
     obtain rfl := oi h129
     refine PJ.res (v1 := .tup [.agg [.int .u8 ((((x0.getD (y1 : Int).toNat 0).toNat : Nat) : Int)), .int .i64 s87.2, .bool s114.2, .nl], .int .i64 s114.1, .bool false]) (Le.tup (.cons (Le.agg (.cons (Le.refl _) (.cons (Le.refl _) (.cons (Le.refl _) (.cons (Le.nl _) .nil))))) (.cons (Le.refl _) (.cons (Le.refl _) .nil)))) ?_
     exact kZ hFn hFH hFD
    ·refine kF ?_
     refine kK ?_
     refine PJ.next ?_
     refine kSR ?_
     refine kC 3 [4,5,6,7,72,74] ?_
     obtain ⟨y131, hy132, h133⟩ := bindS h130
     refine kA 75 (exergueref11_ranges_ok hy132) ?_
     refine RJ.seg 7 [4, 5, 6, 7, 10, 11, 12] (L2 := [(4, .ptr 0 0), (5, .int .i64 0), (6, .bool false), (7, .ptr 1 0), (10, lsv encSt80 2 y131.1), (11, .int .i64 y131.2.1), (12, .bool y131.2.2)]) (H2 := [.box [.int .u8 0, .int .i64 0, .bool false, .nl], .box [.int .u8 ((((x0.getD (y1 : Int).toNat 0).toNat : Nat) : Int)), .int .i64 s87.2, .bool s114.2, .nl]]) (by kernel_rfl) ?_
     refine kEN ?_
     refine kSR ?_
     refine kC 3 [4,5,6,7,11,12] ?_
     refine kEN ?_
     refine kSR ?_
     refine kC 6 [4,5,6] ?_
     refine kEN ?_
     refine kX ?_
     obtain rfl := oi h133
     exact kZ hFn hFH hFD
def exergueref11_Parse (x0 : List UInt8) : Option ((List (List St75)) × Int × Int) :=
 (bif (decide ((x0.length : Int) > 400)) then (some (([] : List (List St75)), 0, 11)) else (Option.bind (loopN (fun (s312 : Int × Bool × Int × (List (List St75)) × (List St75)) => (Option.bind (exergueref11_rel x0 s312.2.2.1) fun y513 => (bif (!y513.2.2) then (some (.inr (.inr (([] : List (List St75)), y513.2.1, 2)))) else (Option.bind (bif s312.2.1 then (some true) else (bif (decide ((y513.1.R_.length : Int) > 20)) then (some true) else (some ((decide ((IntKind.wrap .i64 (s312.1 + 1)) > 20)))))) fun (s528 : Bool) => (bif room (s312.2.2.2.2.length + ([y513.1] : List St75).length) then (Option.bind (exergueref11_over x0 y513.2.1) fun y540 => (bif (decide (y540 = (x0.length : Int))) then (some (.inr (.inl (s528, s312.2.2.2.1, (s312.2.2.2.2 ++ ([y513.1] : List St75)))))) else (Option.bind (exergueref11_word x0 y540) fun y548 => (Option.bind (Option.bind (bif inS y540 y548 x0.length then (bif ((cut x0 y540 y548) != ([97, 110, 100] : List UInt8)) then (bif inS y540 y548 x0.length then (some ((cut x0 y540 y548) != ([111, 114] : List UInt8))) else none) else (some false)) else none) fun (s583 : Bool) => (bif s583 then (some (.inr (.inr (.inr (([] : List (List St75)), y540, 2))))) else (some (.inl ())))) (joinX fun (s573 : Unit) => (Option.bind (bif inS y540 y548 x0.length then (bif ((cut x0 y540 y548) == ([111, 114] : List UInt8)) then (bif room (s312.2.2.2.1.length + (([(s312.2.2.2.2 ++ ([y513.1] : List St75))] : List (List St75))).length) then (some ((s312.2.2.2.1 ++ (([(s312.2.2.2.2 ++ ([y513.1] : List St75))] : List (List St75)))), ([] : List St75))) else none) else (some (s312.2.2.2.1, (s312.2.2.2.2 ++ ([y513.1] : List St75))))) else none) fun (s605 : (List (List St75)) × (List St75)) => (some (.inl ((IntKind.wrap .i64 (s312.1 + 1)), s528, y548, s605.1, s605.2))))))))) else none))))) big (0, false, 0, ([] : List (List St75)), ([] : List St75))) (joinX fun (s307 : Bool × (List (List St75)) × (List St75)) => (bif s307.1 then (some (([] : List (List St75)), 0, 11)) else (bif room (s307.2.1.length + ([s307.2.2] : List (List St75)).length) then (some ((s307.2.1 ++ ([s307.2.2] : List (List St75))), 0, 0)) else none)))))
theorem exergueref11_Parse_ok {x0 : List UInt8} {r : (List (List St75)) × Int × Int} (h : exergueref11_Parse x0 = some r) : SC Tryz.prog 26 [.str x0] [] (.tup [lsv (encL encSt75 4) 1 r.1, .int .i64 r.2.1, .int .i64 r.2.2]) [] := by
 refine kFn (fn := Tryz.f26) (fun F hFn hFH hFD => ?_)
 unfold exergueref11_Parse at h
 refine kSR ?_
 refine kC 3 [0,2,3,4] ?_
 refine kEN ?_
 refine kS ?_
 refine kSR ?_
 refine kC 3 [0,2,3,4,16] ?_
 refine kEN ?_
 refine kBJ 16 h (fun h2 => ?_) (fun h3 => ?_)
 ·refine kT ?_
  refine kSR ?_
  refine kC 3 [0,2,3,4] ?_
  refine kEN ?_
  refine kX ?_
  refine PJ.passRet ?_
  obtain rfl := oi h2
  refine PJ.res (v1 := .tup [.nl, .int .i64 0, .int .i64 11]) (Le.tup (.cons (Le.nl _) (.cons (Le.refl _) (.cons (Le.refl _) .nil)))) ?_
  exact kZ hFn hFH hFD
 ·refine kF ?_
  refine kK ?_
  refine PJ.next ?_
  refine kSR ?_
  refine kC 1 [0,2,3,4,5] ?_
  refine kEN ?_
  refine kSR ?_
  refine RJ.seg 1 [0, 2, 3, 4, 5, 6] (L2 := [(0, .str x0), (2, .nl), (3, .int .i64 0), (4, .int .i64 0), (5, .nl), (6, .nl)]) (H2 := []) (by kernel_rfl) ?_
  refine kEN ?_
  refine kSR ?_
  refine kC 1 [0,2,3,4,5,6,7] ?_
  refine kEN ?_
  refine kSR ?_
  refine kC 1 [0,2,3,4,5,6,7,8] ?_
  refine kEN ?_
  refine kSR ?_
  refine kC 1 [0,2,3,4,5,6,7,8,9] ?_
  refine kEN ?_
  obtain ⟨y308, hy309, h310⟩ := bindS h3
  refine K.cutX (by kernel_rfl) (fun (s307 : Bool × (List (List St75)) × (List St75)) => ([(2, .nl), (3, .int .i64 0), (4, .int .i64 0), (5, .vc 0), (6, .vc 1), (8, .bool s307.1)], [vecL (encL encSt75 4) 1 73 s307.2.1, vecL encSt75 4 76 s307.2.2])) y308 ?_ (fun s307 hs => ?_)
  ·refine K.block 0 (by kernel_rfl) ?_
   refine J.wk (Wk.viv 5 1 73 (by kernel_rfl)) ?_
   refine J.wk (Wk.viv 6 4 76 (by kernel_rfl)) ?_
   refine K.loop (by kernel_rfl) (fun (s312 : Int × Bool × Int × (List (List St75)) × (List St75)) => ([(0, .str x0), (2, .nl), (3, .int .i64 0), (4, .int .i64 0), (5, .vc 0), (6, .vc 1), (7, .int .i64 s312.1), (8, .bool s312.2.1), (9, .int .i64 s312.2.2.1)], [vecL (encL encSt75 4) 1 73 s312.2.2.2.1, vecL encSt75 4 76 s312.2.2.2.2])) hy309 [0, 2, 3, 4, 5, 6, 7, 8, 9] (by kernel_rfl) (by kernel_rfl) (fun s312 x512 hs511 => ?_)
   refine K.block 1 (by kernel_rfl) ?_
   refine kSR ?_
   refine kC 2 [0,2,3,4,5,6,7,8,9,18,19] ?_
   obtain ⟨y513, hy514, h515⟩ := bindS hs511
   refine kA 20 (exergueref11_rel_ok hy514) ?_
   refine kC 8 [0,2,3,4,5,6,7,8,9,10,11,12] ?_
   refine kEN ?_
   refine kS ?_
   refine kSR ?_
   refine kC 2 [0,2,3,4,5,6,7,8,9,10,11,25] ?_
   refine kEN ?_
   refine kBJ 25 h515 (fun h517 => ?_) (fun h518 => ?_)
   ·refine kT ?_
    refine kSR ?_
    refine RJ.seg 4 [0, 2, 3, 4, 5, 6, 7, 8, 9, 10, 11] (L2 := [(0, .str x0), (2, .nl), (3, .int .i64 y513.2.1), (4, .int .i64 2), (5, .vc 0), (6, .vc 1), (7, .int .i64 s312.1), (8, .bool s312.2.1), (9, .int .i64 s312.2.2.1), (10, .ptr 2 0), (11, .int .i64 y513.2.1)]) (H2 := [vecL (encL encSt75 4) 1 73 s312.2.2.2.1, vecL encSt75 4 76 s312.2.2.2.2, .box (encSt75 y513.1)]) (by kernel_rfl) ?_
    refine kEN ?_
    refine kX ?_
    refine PJ.passRet ?_
    refine PJ.blockRet ?_
    obtain rfl := oi h517
    refine PJ.loopOut (fun e => nomatch e) (fun he521 => ?_)
    have h519 := congrArg some he521
    refine PJ.blockRet ?_
    obtain rfl := oi h519
    have h520 := joinX_inr h310
    refine PJ.cutXr (fun e => nomatch e) ?_
    obtain rfl := oi h520
    refine PJ.res (v1 := .tup [.nl, .int .i64 y513.2.1, .int .i64 2]) (Le.tup (.cons (Le.nl _) (.cons (Le.refl _) (.cons (Le.refl _) .nil)))) ?_
    exact kZ hFn hFH hFD
   ·refine kF ?_
    refine kK ?_
    refine PJ.next ?_
    refine kSR ?_
    refine RJ.seg 3 [0, 2, 3, 4, 5, 6, 7, 8, 9, 10, 11] (L2 := [(0, .str x0), (2, .nl), (3, .int .i64 0), (4, .int .i64 0), (5, .vc 0), (6, .vc 1), (7, .int .i64 (IntKind.wrap .i64 (s312.1 + 1))), (8, .bool s312.2.1), (9, .int .i64 s312.2.2.1), (10, .ptr 2 0), (11, .int .i64 y513.2.1)]) (H2 := [vecL (encL encSt75 4) 1 73 s312.2.2.2.1, vecL encSt75 4 76 s312.2.2.2.2, .box (encSt75 y513.1)]) (by kernel_rfl) ?_
    refine kEN ?_
    obtain ⟨s528, hy530, h532⟩ := bindS h518
    refine K.cutN (by kernel_rfl) (fun (s528 : Bool) => ([(0, .str x0), (2, .nl), (3, .int .i64 0), (4, .int .i64 0), (5, .vc 0), (6, .vc 1), (7, .int .i64 (IntKind.wrap .i64 (s312.1 + 1))), (8, .bool s528), (9, .int .i64 s312.2.2.1), (10, .ptr 2 0), (11, .int .i64 y513.2.1)], [vecL (encL encSt75 4) 1 73 s312.2.2.2.1, vecL encSt75 4 76 s312.2.2.2.2, .box (encSt75 y513.1)])) s528 ?_ ?_
    ·refine kR ?_
     refine kC 2 [0,2,3,4,5,6,7,8,9,10,11,30] ?_
     refine kB 30 hy530 (fun h534 => ?_) (fun h535 => ?_)
     ·refine kC 10 [0,2,3,4,5,6,7,8,9,10,11] ?_
      refine kE ?_
      obtain rfl := oi h534
      exact kN [0, 2, 3, 4, 5, 6, 7, 8, 9, 10, 11]
     ·refine kC 6 [0,2,3,4,5,6,7,8,9,10,11,36] ?_
      refine kB 36 h535 (fun h537 => ?_) (fun h538 => ?_)
      ·refine kC 4 [0,2,3,4,5,6,7,8,9,10,11] ?_
       refine kE ?_
       obtain rfl := oi h537
       exact kN [0, 2, 3, 4, 5, 6, 7, 8, 9, 10, 11]
      ·refine kC 4 [0,2,3,4,5,6,7,8,9,10,11] ?_
       refine kE ?_
       obtain rfl := oi h538
       exact kN [0, 2, 3, 4, 5, 6, 7, 8, 9, 10, 11]
    ·refine kSR ?_
     refine kC 3 [0,2,3,4,5,6,7,8,9,11,40,42] ?_
     obtain ⟨hm, h539⟩ := asrt h532
     refine RJ.rel (d := (some 43)) (ef := ⟨.vc 4, [1, 3], [(1, .gone), (4, .vec (s312.2.2.2.2.length + ([y513.1] : List St75).length) 4 76 (s312.2.2.2.2.flatMap encSt75 ++ ([y513.1] : List St75).flatMap encSt75))]⟩) (ef' := ⟨.vc 4, [1, 3], [(1, .gone), (4, vecL encSt75 4 76 (s312.2.2.2.2 ++ ([y513.1] : List St75)))]⟩) (c := room (s312.2.2.2.2.length + ([y513.1] : List St75).length)) (tr2 := []) (H2 := [vecL (encL encSt75 4) 1 73 s312.2.2.2.1, .gone, .box (encSt75 y513.1), vecL encSt75 4 76 ([y513.1] : List St75), vecL encSt75 4 76 (s312.2.2.2.2 ++ ([y513.1] : List St75))]) (by kernel_rfl) hm (fun hc => N.app) (by kernel_rfl) ?_
     refine kC 1 [0,2,3,4,5,6,7,8,9,11] ?_
     refine kEN ?_
     refine kSR ?_
     refine kC 2 [0,2,3,4,5,6,7,8,9,44,45] ?_
     obtain ⟨y540, hy541, h542⟩ := bindS h539
     refine kA 46 (exergueref11_over_ok hy541) ?_
     refine RJ.seg 1 [0, 2, 3, 4, 5, 6, 7, 8, 9] (L2 := [(0, .str x0), (2, .nl), (3, .int .i64 0), (4, .int .i64 0), (5, .vc 0), (6, .vc 4), (7, .int .i64 (IntKind.wrap .i64 (s312.1 + 1))), (8, .bool s528), (9, .int .i64 y540)]) (H2 := [vecL (encL encSt75 4) 1 73 s312.2.2.2.1, .gone, .box (encSt75 y513.1), vecL encSt75 4 76 ([y513.1] : List St75), vecL encSt75 4 76 (s312.2.2.2.2 ++ ([y513.1] : List St75))]) (by kernel_rfl) ?_
     refine kEN ?_
     refine kS ?_
     refine kSR ?_
     refine kC 4 [0,2,3,4,5,6,7,8,9,50] ?_
     refine kEN ?_
     refine kBJ 50 h542 (fun h544 => ?_) (fun h545 => ?_)
     ·refine kT ?_
      refine K.exit 0 (by kernel_rfl) ?_
      refine PJ.passExit ?_
      refine PJ.blockPass (by kernel_rfl) ?_
      obtain rfl := oi h544
      refine PJ.loopOut (fun e => nomatch e) (fun he547 => ?_)
      have h546 := congrArg some he547
      refine PJ.blockOut ?_
      obtain rfl := oi h546
      refine PJ.wk (Wk.sel (L2 := [(2, .nl), (3, .int .i64 0), (4, .int .i64 0), (5, .vc 0), (6, .vc 1), (8, .bool s528)]) (H2 := [vecL (encL encSt75 4) 1 73 s312.2.2.2.1, vecL encSt75 4 76 (s312.2.2.2.2 ++ ([y513.1] : List St75))]) 0 (by rw [hFH]; rfl) hFD [0, 4] (by kernel_rfl) (by kernel_rfl) (by decide) (by kernel_rfl) (by kernel_rfl) (by kernel_rfl) (by kernel_rfl)) ?_
      exact PJ.cutXl [2, 3, 4, 5, 6, 8] (by kernel_rfl) (by kernel_rfl)
     ·refine kF ?_
      refine kK ?_
      refine PJ.next ?_
      refine kSR ?_
      refine kC 2 [0,2,3,4,5,6,7,8,9,51,52] ?_
      obtain ⟨y548, hy549, h550⟩ := bindS h545
      refine kA 53 (exergueref11_word_ok hy549) ?_
      refine kC 1 [0,2,3,4,5,6,7,8,9,13] ?_
      refine kEN ?_
      obtain ⟨y574, hy575, h576⟩ := bindS h550
      refine K.cutX (by kernel_rfl) (fun (s573 : Unit) => ([(0, .str x0), (2, .nl), (3, .int .i64 0), (4, .int .i64 0), (5, .vc 0), (6, .vc 1), (7, .int .i64 (IntKind.wrap .i64 (s312.1 + 1))), (8, .bool s528), (9, .int .i64 y540), (13, .int .i64 y548)], [vecL (encL encSt75 4) 1 73 s312.2.2.2.1, vecL encSt75 4 76 (s312.2.2.2.2 ++ ([y513.1] : List St75))])) y574 ?_ (fun s573 hs => ?_)
      ·obtain ⟨s583, hy585, h587⟩ := bindS hy575
       refine K.cutN (by kernel_rfl) (fun (s583 : Bool) => ([(0, .str x0), (2, .nl), (3, .int .i64 0), (4, .int .i64 0), (5, .vc 0), (6, .vc 1), (7, .int .i64 (IntKind.wrap .i64 (s312.1 + 1))), (8, .bool s528), (9, .int .i64 y540), (13, .int .i64 y548), (65, .bool s583)], [vecL (encL encSt75 4) 1 73 s312.2.2.2.1, vecL encSt75 4 76 (s312.2.2.2.2 ++ ([y513.1] : List St75))])) s583 ?_ ?_
       ·refine kR ?_
        refine RJ.seg 3 [0, 2, 3, 4, 5, 6, 7, 8, 9, 13, 54, 55, 56] (L2 := [(0, .str x0), (2, .nl), (3, .int .i64 0), (4, .int .i64 0), (5, .vc 0), (6, .vc 4), (7, .int .i64 (IntKind.wrap .i64 (s312.1 + 1))), (8, .bool s528), (9, .int .i64 y540), (13, .int .i64 y548), (54, .str x0), (55, .int .i64 y540), (56, .int .i64 y548)]) (H2 := [vecL (encL encSt75 4) 1 73 s312.2.2.2.1, .gone, .box (encSt75 y513.1), vecL encSt75 4 76 ([y513.1] : List St75), vecL encSt75 4 76 (s312.2.2.2.2 ++ ([y513.1] : List St75))]) (by kernel_rfl) ?_
        obtain ⟨hm, h588⟩ := asrt hy585
        refine RJ.rel (d := (some 57)) (ef := ⟨.str (cut x0 y540 y548), [], []⟩) (ef' := ⟨.str (cut x0 y540 y548), [], []⟩) (c := inS y540 y548 x0.length) (tr2 := []) (H2 := [vecL (encL encSt75 4) 1 73 s312.2.2.2.1, .gone, .box (encSt75 y513.1), vecL encSt75 4 76 ([y513.1] : List St75), vecL encSt75 4 76 (s312.2.2.2.2 ++ ([y513.1] : List St75))]) (by kernel_rfl) hm (fun hc => rfl) (by kernel_rfl) ?_
        refine kC 2 [0,2,3,4,5,6,7,8,9,13,59] ?_
        refine kB 59 h588 (fun h590 => ?_) (fun h591 => ?_)
        ·refine kC 3 [0,2,3,4,5,6,7,8,9,13,59,60,61,62] ?_
         obtain ⟨hm, h592⟩ := asrt h590
         refine RJ.rel (d := (some 63)) (ef := ⟨.str (cut x0 y540 y548), [], []⟩) (ef' := ⟨.str (cut x0 y540 y548), [], []⟩) (c := inS y540 y548 x0.length) (tr2 := []) (H2 := [vecL (encL encSt75 4) 1 73 s312.2.2.2.1, .gone, .box (encSt75 y513.1), vecL encSt75 4 76 ([y513.1] : List St75), vecL encSt75 4 76 (s312.2.2.2.2 ++ ([y513.1] : List St75))]) (by kernel_rfl) hm (fun hc => rfl) (by kernel_rfl) ?_
         refine kC 2 [0,2,3,4,5,6,7,8,9,13,65] ?_
         refine kE ?_
         obtain rfl := oi h592
         refine PJ.wk (Wk.sel (L2 := [(0, .str x0), (2, .nl), (3, .int .i64 0), (4, .int .i64 0), (5, .vc 0), (6, .vc 1), (7, .int .i64 (IntKind.wrap .i64 (s312.1 + 1))), (8, .bool s528), (9, .int .i64 y540), (13, .int .i64 y548), (65, .bool ((cut x0 y540 y548) != ([111, 114] : List UInt8)))]) (H2 := [vecL (encL encSt75 4) 1 73 s312.2.2.2.1, vecL encSt75 4 76 (s312.2.2.2.2 ++ ([y513.1] : List St75))]) 0 (by rw [hFH]; rfl) hFD [0, 4] (by kernel_rfl) (by kernel_rfl) (by decide) (by kernel_rfl) (by kernel_rfl) (by kernel_rfl) (by kernel_rfl)) ?_
         exact kN [0, 2, 3, 4, 5, 6, 7, 8, 9, 13, 65]
        ·refine kC 6 [0,2,3,4,5,6,7,8,9,13,65] ?_
         refine kE ?_
         obtain rfl := oi h591
         refine PJ.wk (Wk.sel (L2 := [(0, .str x0), (2, .nl), (3, .int .i64 0), (4, .int .i64 0), (5, .vc 0), (6, .vc 1), (7, .int .i64 (IntKind.wrap .i64 (s312.1 + 1))), (8, .bool s528), (9, .int .i64 y540), (13, .int .i64 y548), (65, .bool false)]) (H2 := [vecL (encL encSt75 4) 1 73 s312.2.2.2.1, vecL encSt75 4 76 (s312.2.2.2.2 ++ ([y513.1] : List St75))]) 0 (by rw [hFH]; rfl) hFD [0, 4] (by kernel_rfl) (by kernel_rfl) (by decide) (by kernel_rfl) (by kernel_rfl) (by kernel_rfl) (by kernel_rfl)) ?_
         exact kN [0, 2, 3, 4, 5, 6, 7, 8, 9, 13, 65]
       ·refine kBJ 65 h587 (fun h594 => ?_) (fun h595 => ?_)
        ·refine kT ?_
         refine kSR ?_
         refine kC 4 [0,2,3,4,5,6,7,8,9,13] ?_
         refine kEN ?_
         refine kX ?_
         obtain rfl := oi h594
         have h596 := joinX_inr h576
         refine PJ.cutXr (fun e => nomatch e) ?_
         refine PJ.blockRet ?_
         obtain rfl := oi h596
         refine PJ.loopOut (fun e => nomatch e) (fun he599 => ?_)
         have h597 := congrArg some he599
         refine PJ.blockRet ?_
         obtain rfl := oi h597
         have h598 := joinX_inr h310
         refine PJ.cutXr (fun e => nomatch e) ?_
         obtain rfl := oi h598
         refine PJ.res (v1 := .tup [.nl, .int .i64 y540, .int .i64 2]) (Le.tup (.cons (Le.nl _) (.cons (Le.refl _) (.cons (Le.refl _) .nil)))) ?_
         exact kZ hFn hFH hFD
        ·refine kF ?_
         refine kK ?_
         obtain rfl := oi h595
         exact PJ.cutXl [0, 2, 3, 4, 5, 6, 7, 8, 9, 13] (by kernel_rfl) (by kernel_rfl)
      ·subst hs
       have h577 := joinX_inl h576
       obtain ⟨s605, hy607, h609⟩ := bindS h577
       refine K.cutN (by kernel_rfl) (fun (s605 : (List (List St75)) × (List St75)) => ([(0, .str x0), (2, .nl), (3, .int .i64 0), (4, .int .i64 0), (5, .vc 0), (6, .vc 1), (7, .int .i64 (IntKind.wrap .i64 (s312.1 + 1))), (8, .bool s528), (9, .int .i64 y540), (13, .int .i64 y548)], [vecL (encL encSt75 4) 1 73 s605.1, vecL encSt75 4 76 s605.2])) s605 ?_ ?_
       ·refine kSR ?_
        refine kC 3 [0,2,3,4,5,6,7,8,9,13,67,68,69] ?_
        obtain ⟨hm, h610⟩ := asrt hy607
        refine RJ.rel (d := (some 70)) (ef := ⟨.str (cut x0 y540 y548), [], []⟩) (ef' := ⟨.str (cut x0 y540 y548), [], []⟩) (c := inS y540 y548 x0.length) (tr2 := []) (H2 := [vecL (encL encSt75 4) 1 73 s312.2.2.2.1, vecL encSt75 4 76 (s312.2.2.2.2 ++ ([y513.1] : List St75))]) (by kernel_rfl) hm (fun hc => rfl) (by kernel_rfl) ?_
        refine kC 1 [0,2,3,4,5,6,7,8,9,13,71] ?_
        refine kEN ?_
        refine kBJ 71 h610 (fun h612 => ?_) (fun h613 => ?_)
        ·refine kT ?_
         refine kSR ?_
         refine kC 2 [0,2,3,4,5,6,7,8,9,13,72,73] ?_
         refine RJ.wk (Wk.freeze 1 (n := (s312.2.2.2.2 ++ ([y513.1] : List St75)).length) (k := 4) (e := 76) (cs := (s312.2.2.2.2 ++ ([y513.1] : List St75)).flatMap encSt75) (by kernel_rfl)) ?_
         refine RJ.seg 1 [0, 2, 3, 4, 5, 6, 7, 8, 9, 13, 72, 74] (L2 := [(0, .str x0), (2, .nl), (3, .int .i64 0), (4, .int .i64 0), (5, .vc 0), (6, lsv encSt75 4 (s312.2.2.2.2 ++ ([y513.1] : List St75))), (7, .int .i64 (IntKind.wrap .i64 (s312.1 + 1))), (8, .bool s528), (9, .int .i64 y540), (13, .int .i64 y548), (72, .vc 0), (74, .vc 2)]) (H2 := [vecL (encL encSt75 4) 1 73 s312.2.2.2.1, .gone, vecL (encL encSt75 4) 1 73 (([(s312.2.2.2.2 ++ ([y513.1] : List St75))] : List (List St75)))]) (by kernel_rfl) ?_
         obtain ⟨hm, h614⟩ := asrt h612
         refine RJ.rel (d := (some 75)) (ef := ⟨.vc 3, [0, 2], [(0, .gone), (3, .vec (s312.2.2.2.1.length + (([(s312.2.2.2.2 ++ ([y513.1] : List St75))] : List (List St75))).length) 1 73 (s312.2.2.2.1.flatMap (encL encSt75 4) ++ (([(s312.2.2.2.2 ++ ([y513.1] : List St75))] : List (List St75))).flatMap (encL encSt75 4)))]⟩) (ef' := ⟨.vc 3, [0, 2], [(0, .gone), (3, vecL (encL encSt75 4) 1 73 (s312.2.2.2.1 ++ (([(s312.2.2.2.2 ++ ([y513.1] : List St75))] : List (List St75)))))]⟩) (c := room (s312.2.2.2.1.length + (([(s312.2.2.2.2 ++ ([y513.1] : List St75))] : List (List St75))).length)) (tr2 := []) (H2 := [.gone, .gone, vecL (encL encSt75 4) 1 73 (([(s312.2.2.2.2 ++ ([y513.1] : List St75))] : List (List St75))), vecL (encL encSt75 4) 1 73 ((s312.2.2.2.1 ++ (([(s312.2.2.2.2 ++ ([y513.1] : List St75))] : List (List St75)))))]) (by kernel_rfl) hm (fun hc => N.app) (by kernel_rfl) ?_
         refine kC 1 [0,2,3,4,5,6,7,8,9,13] ?_
         refine kEN ?_
         refine kR ?_
         refine kC 1 [0,2,3,4,5,6,7,8,9,13] ?_
         refine kE ?_
         obtain rfl := oi h614
         refine PJ.wk (Wk.viv 6 4 76 (by kernel_rfl)) ?_
         refine PJ.wk (Wk.sel (L2 := [(0, .str x0), (2, .nl), (3, .int .i64 0), (4, .int .i64 0), (5, .vc 0), (6, .vc 1), (7, .int .i64 (IntKind.wrap .i64 (s312.1 + 1))), (8, .bool s528), (9, .int .i64 y540), (13, .int .i64 y548)]) (H2 := [vecL (encL encSt75 4) 1 73 ((s312.2.2.2.1 ++ (([(s312.2.2.2.2 ++ ([y513.1] : List St75))] : List (List St75))))), vecL encSt75 4 76 ([] : List St75)]) 0 (by rw [hFH]; rfl) hFD [3, 4] (by kernel_rfl) (by kernel_rfl) (by decide) (by kernel_rfl) (by kernel_rfl) (by kernel_rfl) (by kernel_rfl)) ?_
         exact kN [0, 2, 3, 4, 5, 6, 7, 8, 9, 13]
        ·refine kF ?_
         refine kK ?_
         obtain rfl := oi h613
         exact kN [0, 2, 3, 4, 5, 6, 7, 8, 9, 13]
       ·refine kR ?_
        refine kC 2 [0,2,3,4,5,6,7,8,9] ?_
        refine kE ?_
        refine PJ.blockNormal ?_
        obtain rfl := oi h609
        exact PJ.loopNext [0, 2, 3, 4, 5, 6, 7, 8, 9] (by kernel_rfl) (by kernel_rfl)
  ·subst hs
   have h311 := joinX_inl h310
   refine kS ?_
   refine kSR ?_
   refine kC 1 [2,3,4,5,6,77] ?_
   refine kEN ?_
   refine kBJ 77 h311 (fun h616 => ?_) (fun h617 => ?_)
   ·refine kT ?_
    refine kSR ?_
    refine kC 3 [2,3,4,5,6] ?_
    refine kEN ?_
    refine kX ?_
    refine PJ.passRet ?_
    obtain rfl := oi h616
    refine PJ.res (v1 := .tup [.nl, .int .i64 0, .int .i64 11]) (Le.tup (.cons (Le.nl _) (.cons (Le.refl _) (.cons (Le.refl _) .nil)))) ?_
    exact kZ hFn hFH hFD
   ·refine kF ?_
    refine kK ?_
    refine PJ.next ?_
    refine kSR ?_
    refine kC 2 [2,3,4,78,79] ?_
    refine RJ.wk (Wk.freeze 1 (n := s307.2.2.length) (k := 4) (e := 76) (cs := s307.2.2.flatMap encSt75) (by kernel_rfl)) ?_
    refine kC 1 [2,3,4,78,80] ?_
    obtain ⟨hm, h618⟩ := asrt h617
    refine RJ.rel (d := (some 81)) (ef := ⟨.vc 3, [0, 2], [(0, .gone), (3, .vec (s307.2.1.length + ([s307.2.2] : List (List St75)).length) 1 73 (s307.2.1.flatMap (encL encSt75 4) ++ ([s307.2.2] : List (List St75)).flatMap (encL encSt75 4)))]⟩) (ef' := ⟨.vc 3, [0, 2], [(0, .gone), (3, vecL (encL encSt75 4) 1 73 (s307.2.1 ++ ([s307.2.2] : List (List St75))))]⟩) (c := room (s307.2.1.length + ([s307.2.2] : List (List St75)).length)) (tr2 := []) (H2 := [.gone, .gone, vecL (encL encSt75 4) 1 73 ([s307.2.2] : List (List St75)), vecL (encL encSt75 4) 1 73 ((s307.2.1 ++ ([s307.2.2] : List (List St75))))]) (by kernel_rfl) hm (fun hc => N.app) (by kernel_rfl) ?_
    refine RJ.seg 3 [2, 3, 4] (L2 := [(2, .vc 3), (3, .int .i64 0), (4, .int .i64 0)]) (H2 := [.gone, .gone, vecL (encL encSt75 4) 1 73 ([s307.2.2] : List (List St75)), vecL (encL encSt75 4) 1 73 ((s307.2.1 ++ ([s307.2.2] : List (List St75))))]) (by kernel_rfl) ?_
    refine kEN ?_
    refine kX ?_
    obtain rfl := oi h618
    refine PJ.wk (Wk.freeze 3 (n := ((s307.2.1 ++ ([s307.2.2] : List (List St75)))).length) (k := 1) (e := 73) (cs := ((s307.2.1 ++ ([s307.2.2] : List (List St75)))).flatMap (encL encSt75 4)) (by kernel_rfl)) ?_
    exact kZ hFn hFH hFD
def exergueref05_Number : Nat → Int → Option (List UInt8)
 | 0, _ => none
 | n + 1, x0 => (bif (decide (x0 < 0)) then (Option.bind (exergueref05_Number n (IntKind.wrap .i64 (0 - x0))) fun y4 => (bif room (([45] : List UInt8).length + y4.length) then (some (([45] : List UInt8) ++ y4)) else none)) else (Option.bind (loopN (fun (s34 : Int × (List UInt8)) => (bif (decide (s34.1 ≥ 10)) then (bif room (((bytesS (([(IntKind.wrap .u8 ((IntKind.wrap .i64 (48 + ((Int.tmod (IntKind.wrap .i64 (Int.tdiv s34.1 10)) 10))))))] : List Int)))).length + s34.2.length) then (some (.inl ((IntKind.wrap .i64 (Int.tdiv s34.1 10)), (((bytesS (([(IntKind.wrap .u8 ((IntKind.wrap .i64 (48 + ((Int.tmod (IntKind.wrap .i64 (Int.tdiv s34.1 10)) 10))))))] : List Int)))) ++ s34.2)))) else none) else (some (.inr s34.2)))) big (x0, (bytesS (([(IntKind.wrap .u8 ((IntKind.wrap .i64 (48 + (Int.tmod x0 10)))))] : List Int))))) fun (s29 : (List UInt8)) => (some s29)))
theorem exergueref05_Number_ok : ∀ (n : Nat) {x0 : Int} {r : List UInt8} (h : exergueref05_Number n x0 = some r), SC Tryz.prog 59 [.int .i64 x0] [] (.str r) [] := by
 intro n
 induction n with
 | zero => intro x0 r h; cases h
 | succ n ih =>
 intro x0 r h
 refine kFn (fn := Tryz.f59) (fun F hFn hFH hFD => ?_)
 rw [exergueref05_Number.eq_2] at h
 refine kSR ?_
 refine kC 1 [0,2] ?_
 refine kEN ?_
 refine kS ?_
 refine kSR ?_
 refine kC 2 [0,2,5] ?_
 refine kEN ?_
 refine kBJ 5 h (fun h2 => ?_) (fun h3 => ?_)
 ·refine kT ?_
  refine kSR ?_
  refine kC 2 [0,2,7] ?_
  obtain ⟨y4, hy5, h6⟩ := bindS h2
  refine kA 8 (ih hy5) ?_
  obtain ⟨hm, h7⟩ := asrt h6
  refine RJ.rel (d := (some 9)) (ef := ⟨.str (([45] : List UInt8) ++ y4), [], []⟩) (ef' := ⟨.str (([45] : List UInt8) ++ y4), [], []⟩) (c := room (([45] : List UInt8).length + y4.length)) (tr2 := []) (H2 := []) (by kernel_rfl) hm (fun hc => rfl) (by kernel_rfl) ?_
  refine RJ.seg 1 [0, 2] (L2 := [(0, .int .i64 x0), (2, .str (([45] : List UInt8) ++ y4))]) (H2 := []) (by kernel_rfl) ?_
  refine kEN ?_
  refine kX ?_
  refine PJ.passRet ?_
  obtain rfl := oi h7
  exact kZ hFn hFH hFD
 ·refine kF ?_
  refine kK ?_
  refine PJ.next ?_
  refine kSR ?_
  refine kC 5 [0,2,14] ?_
  refine RJ.rel (d := (some 15)) (ef := ⟨.str (((([(IntKind.wrap .u8 ((IntKind.wrap .i64 (48 + (Int.tmod x0 10)))))] : List Int)).flatMap (encI .u8)).map Go.Sy.byteOf), [0], []⟩) (ef' := ⟨.str (bytesS (([(IntKind.wrap .u8 ((IntKind.wrap .i64 (48 + (Int.tmod x0 10)))))] : List Int))), [0], []⟩) (c := ((([(IntKind.wrap .u8 ((IntKind.wrap .i64 (48 + (Int.tmod x0 10)))))] : List Int)).flatMap (encI .u8)).all isByte) (tr2 := []) (H2 := [vecL (encI .u8) 1 5 (([(IntKind.wrap .u8 ((IntKind.wrap .i64 (48 + (Int.tmod x0 10)))))] : List Int))]) (by kernel_rfl) (allByte (([(IntKind.wrap .u8 ((IntKind.wrap .i64 (48 + (Int.tmod x0 10)))))] : List Int))) (fun hc => N.toStr) (by kernel_rfl) ?_
  refine RJ.seg 1 [0, 2, 3] (L2 := [(0, .int .i64 x0), (2, .str ([] : List UInt8)), (3, .str ((bytesS (([(IntKind.wrap .u8 ((IntKind.wrap .i64 (48 + (Int.tmod x0 10)))))] : List Int)))))]) (H2 := [vecL (encI .u8) 1 5 (([(IntKind.wrap .u8 ((IntKind.wrap .i64 (48 + (Int.tmod x0 10)))))] : List Int))]) (by kernel_rfl) ?_
  refine kEN ?_
  obtain ⟨s29, hy31, h33⟩ := bindS h3
  refine K.cutN (by kernel_rfl) (fun (s29 : (List UInt8)) => ([(2, .str ([] : List UInt8)), (3, .str s29)], [])) s29 ?_ ?_
  ·refine K.block 0 (by kernel_rfl) ?_
   refine J.wk (Wk.sel (L2 := [(0, .int .i64 x0), (2, .str ([] : List UInt8)), (3, .str ((bytesS (([(IntKind.wrap .u8 ((IntKind.wrap .i64 (48 + (Int.tmod x0 10)))))] : List Int)))))]) (H2 := []) 0 (by rw [hFH]; rfl) hFD [] (by kernel_rfl) (by kernel_rfl) (by decide) (by kernel_rfl) (by kernel_rfl) (by kernel_rfl) (by kernel_rfl)) ?_
   refine K.loop (by kernel_rfl) (fun (s34 : Int × (List UInt8)) => ([(0, .int .i64 s34.1), (2, .str ([] : List UInt8)), (3, .str s34.2)], [])) hy31 [0, 2, 3] (by kernel_rfl) (by kernel_rfl) (fun s34 x48 hs47 => ?_)
   refine kS ?_
   refine kSR ?_
   refine kC 2 [0,2,3,17] ?_
   refine kEN ?_
   refine kBJ 17 hs47 (fun h50 => ?_) (fun h51 => ?_)
   ·refine kT ?_
    refine kK ?_
    refine PJ.next ?_
    refine K.block 1 (by kernel_rfl) ?_
    refine kSR ?_
    refine kC 3 [0,2,3] ?_
    refine kEN ?_
    refine kR ?_
    refine kC 5 [0,2,3,24] ?_
    refine RJ.rel (d := (some 25)) (ef := ⟨.str (((([(IntKind.wrap .u8 ((IntKind.wrap .i64 (48 + ((Int.tmod (IntKind.wrap .i64 (Int.tdiv s34.1 10)) 10))))))] : List Int)).flatMap (encI .u8)).map Go.Sy.byteOf), [0], []⟩) (ef' := ⟨.str (bytesS (([(IntKind.wrap .u8 ((IntKind.wrap .i64 (48 + ((Int.tmod (IntKind.wrap .i64 (Int.tdiv s34.1 10)) 10))))))] : List Int))), [0], []⟩) (c := ((([(IntKind.wrap .u8 ((IntKind.wrap .i64 (48 + ((Int.tmod (IntKind.wrap .i64 (Int.tdiv s34.1 10)) 10))))))] : List Int)).flatMap (encI .u8)).all isByte) (tr2 := []) (H2 := [vecL (encI .u8) 1 5 (([(IntKind.wrap .u8 ((IntKind.wrap .i64 (48 + ((Int.tmod (IntKind.wrap .i64 (Int.tdiv s34.1 10)) 10))))))] : List Int))]) (by kernel_rfl) (allByte (([(IntKind.wrap .u8 ((IntKind.wrap .i64 (48 + ((Int.tmod (IntKind.wrap .i64 (Int.tdiv s34.1 10)) 10))))))] : List Int))) (fun hc => N.toStr) (by kernel_rfl) ?_
    refine RJ.seg 1 [0, 2, 3, 25, 26] (L2 := [(0, .int .i64 (IntKind.wrap .i64 (Int.tdiv s34.1 10))), (2, .str ([] : List UInt8)), (3, .str s34.2), (25, .str ((bytesS (([(IntKind.wrap .u8 ((IntKind.wrap .i64 (48 + ((Int.tmod (IntKind.wrap .i64 (Int.tdiv s34.1 10)) 10))))))] : List Int))))), (26, .str s34.2)]) (H2 := [vecL (encI .u8) 1 5 (([(IntKind.wrap .u8 ((IntKind.wrap .i64 (48 + ((Int.tmod (IntKind.wrap .i64 (Int.tdiv s34.1 10)) 10))))))] : List Int))]) (by kernel_rfl) ?_
    obtain ⟨hm, h52⟩ := asrt h50
    refine RJ.rel (d := (some 27)) (ef := ⟨.str (((bytesS (([(IntKind.wrap .u8 ((IntKind.wrap .i64 (48 + ((Int.tmod (IntKind.wrap .i64 (Int.tdiv s34.1 10)) 10))))))] : List Int)))) ++ s34.2), [], []⟩) (ef' := ⟨.str (((bytesS (([(IntKind.wrap .u8 ((IntKind.wrap .i64 (48 + ((Int.tmod (IntKind.wrap .i64 (Int.tdiv s34.1 10)) 10))))))] : List Int)))) ++ s34.2), [], []⟩) (c := room (((bytesS (([(IntKind.wrap .u8 ((IntKind.wrap .i64 (48 + ((Int.tmod (IntKind.wrap .i64 (Int.tdiv s34.1 10)) 10))))))] : List Int)))).length + s34.2.length)) (tr2 := []) (H2 := [vecL (encI .u8) 1 5 (([(IntKind.wrap .u8 ((IntKind.wrap .i64 (48 + ((Int.tmod (IntKind.wrap .i64 (Int.tdiv s34.1 10)) 10))))))] : List Int))]) (by kernel_rfl) hm (fun hc => rfl) (by kernel_rfl) ?_
    refine kC 1 [0,2,3] ?_
    refine kE ?_
    refine PJ.blockNormal ?_
    obtain rfl := oi h52
    refine PJ.wk (Wk.sel (L2 := [(0, .int .i64 (IntKind.wrap .i64 (Int.tdiv s34.1 10))), (2, .str ([] : List UInt8)), (3, .str ((((bytesS (([(IntKind.wrap .u8 ((IntKind.wrap .i64 (48 + ((Int.tmod (IntKind.wrap .i64 (Int.tdiv s34.1 10)) 10))))))] : List Int)))) ++ s34.2)))]) (H2 := []) 0 (by rw [hFH]; rfl) hFD [] (by kernel_rfl) (by kernel_rfl) (by decide) (by kernel_rfl) (by kernel_rfl) (by kernel_rfl) (by kernel_rfl)) ?_
    exact PJ.loopNext [0, 2, 3] (by kernel_rfl) (by kernel_rfl)
   ·refine kF ?_
    refine K.exit 0 (by kernel_rfl) ?_
    refine PJ.passExit ?_
    obtain rfl := oi h51
    refine PJ.loopOut (fun e => nomatch e) (fun he54 => ?_)
    have h53 := congrArg some he54
    refine PJ.blockOut ?_
    obtain rfl := oi h53
    exact kN [2, 3]
  ·refine kSR ?_
   refine kC 2 [2] ?_
   refine kEN ?_
   refine kX ?_
   obtain rfl := oi h33
   exact kZ hFn hFH hFD
def exergueref11_Text (x0 : List (List St75)) : Option (List UInt8) :=
 (Option.bind (loopN (fun (s9657 : (List UInt8) × Int) => (bif (decide (s9657.2 < (x0.length : Int))) then (Option.bind (Option.bind (bif (decide (s9657.2 > 0)) then (bif room (s9657.1.length + ([32, 111, 114, 32] : List UInt8).length) then (some (s9657.1 ++ ([32, 111, 114, 32] : List UInt8))) else none) else (some s9657.1)) fun (s17707 : (List UInt8)) => (loopN (fun (s17716 : (List UInt8) × Int) => (bif inR s9657.2 x0.length then (bif (decide (s17716.2 < ((nth x0 s9657.2).length : Int))) then (Option.bind (bif inR s9657.2 x0.length then (bif inR s17716.2 (nth x0 s9657.2).length then (Option.bind (bif (decide (s17716.2 > 0)) then (bif room (s17716.1.length + ([32, 97, 110, 100, 32] : List UInt8).length) then (some (s17716.1 ++ ([32, 97, 110, 100, 32] : List UInt8))) else none) else (some s17716.1)) fun (s19051 : (List UInt8)) => (bif room (s19051.length + ((bytesS (([(nth (nth x0 s9657.2) s17716.2).Op_] : List Int)))).length) then (Option.bind (bif (decide (¬ ((nth (nth x0 s9657.2) s17716.2).Mod_) = 0)) then (bif room (((s19051 ++ ((bytesS (([(nth (nth x0 s9657.2) s17716.2).Op_] : List Int)))))).length + ([32, 37, 32] : List UInt8).length) then (Option.bind (exergueref05_Number big ((nth (nth x0 s9657.2) s17716.2).Mod_)) fun y19078 => (bif room (((((s19051 ++ ((bytesS (([(nth (nth x0 s9657.2) s17716.2).Op_] : List Int)))))) ++ ([32, 37, 32] : List UInt8))).length + y19078.length) then (some ((((((s19051 ++ ((bytesS (([(nth (nth x0 s9657.2) s17716.2).Op_] : List Int)))))) ++ ([32, 37, 32] : List UInt8))) ++ y19078))) else none)) else none) else (some ((s19051 ++ ((bytesS (([(nth (nth x0 s9657.2) s17716.2).Op_] : List Int)))))))) fun (s19069 : (List UInt8)) => (Option.bind (bif (nth (nth x0 s9657.2) s17716.2).Not_ then (bif room (s19069.length + ([32, 33, 61, 32] : List UInt8).length) then (some (s19069 ++ ([32, 33, 61, 32] : List UInt8))) else none) else (bif room (s19069.length + ([32, 61, 32] : List UInt8).length) then (some (s19069 ++ ([32, 61, 32] : List UInt8))) else none)) fun (s19087 : (List UInt8)) => (loopN (fun (s19097 : (List UInt8) × Int) => (bif (decide (s19097.2 < ((((nth (nth x0 s9657.2) s17716.2).R_).length : Int)))) then (Option.bind (Option.bind (bif (decide (s19097.2 > 0)) then (bif room (s19097.1.length + ([44] : List UInt8).length) then (some (s19097.1 ++ ([44] : List UInt8))) else none) else (some s19097.1)) fun (s19277 : (List UInt8)) => (bif inR s19097.2 ((nth (nth x0 s9657.2) s17716.2).R_).length then (Option.bind (exergueref05_Number big ((nth ((nth (nth x0 s9657.2) s17716.2).R_) s19097.2).a0_)) fun y19287 => (bif room (s19277.length + y19287.length) then (bif inR s19097.2 ((nth (nth x0 s9657.2) s17716.2).R_).length then (bif inR s19097.2 ((nth (nth x0 s9657.2) s17716.2).R_).length then (bif (decide (¬ ((nth ((nth (nth x0 s9657.2) s17716.2).R_) s19097.2).a1_) = ((nth ((nth (nth x0 s9657.2) s17716.2).R_) s19097.2).a0_))) then (bif room ((s19277 ++ y19287).length + ([46, 46] : List UInt8).length) then (bif inR s19097.2 ((nth (nth x0 s9657.2) s17716.2).R_).length then (Option.bind (exergueref05_Number big ((nth ((nth (nth x0 s9657.2) s17716.2).R_) s19097.2).a1_)) fun y19298 => (bif room (((s19277 ++ y19287) ++ ([46, 46] : List UInt8)).length + y19298.length) then (some ((((s19277 ++ y19287) ++ ([46, 46] : List UInt8)) ++ y19298))) else none)) else none) else none) else (some (s19277 ++ y19287))) else none) else none) else none)) else none)) fun (s19268 : (List UInt8)) => (some (.inl (s19268, (IntKind.wrap .i64 (s19097.2 + 1)))))) else (some (.inr s19097.1)))) big (s19087, 0)))) else none)) else none) else none) fun (s19040 : (List UInt8)) => (some (.inl (s19040, (IntKind.wrap .i64 (s17716.2 + 1)))))) else (some (.inr s17716.1))) else none)) big (s17707, 0))) fun (s17698 : (List UInt8)) => (some (.inl (s17698, (IntKind.wrap .i64 (s9657.2 + 1)))))) else (some (.inr s9657.1)))) big (([] : List UInt8), 0)) fun (s9652 : (List UInt8)) => (some s9652))
theorem exergueref11_Text_ok {x0 : List (List St75)} {r : List UInt8} (h : exergueref11_Text x0 = some r) : SC Tryz.prog 44 [lsv (encL encSt75 4) 1 x0] [] (.str r) [] := by
 refine kFn (fn := Tryz.f44) (fun F hFn hFH hFD => ?_)
 unfold exergueref11_Text at h
 refine kSR ?_
 refine kC 1 [0,2] ?_
 refine kEN ?_
 refine kSR ?_
 refine kC 1 [0,2,3] ?_
 refine kEN ?_
 obtain ⟨s9652, hy9654, h9656⟩ := bindS h
 refine K.cutN (by kernel_rfl) (fun (s9652 : (List UInt8)) => ([(2, .str ([] : List UInt8)), (3, .str s9652)], [])) s9652 ?_ ?_
 ·refine kSR ?_
  refine kC 1 [0,2,3,4] ?_
  refine kEN ?_
  refine K.block 0 (by kernel_rfl) ?_
  refine K.loop (by kernel_rfl) (fun (s9657 : (List UInt8) × Int) => ([(0, lsv (encL encSt75 4) 1 x0), (2, .str ([] : List UInt8)), (3, .str s9657.1), (4, .int .i64 s9657.2)], [])) hy9654 [0, 2, 3, 4] (by kernel_rfl) (by kernel_rfl) (fun s9657 x16091 hs16090 => ?_)
  refine kS ?_
  refine kSR ?_
  refine kC 4 [0,2,3,4,11] ?_
  refine kEN ?_
  refine kBJ 11 hs16090 (fun h16093 => ?_) (fun h16094 => ?_)
  ·refine kT ?_
   refine kK ?_
   refine PJ.next ?_
   obtain ⟨s17698, hy17700, h17702⟩ := bindS h16093
   refine K.cutN (by kernel_rfl) (fun (s17698 : (List UInt8)) => ([(0, lsv (encL encSt75 4) 1 x0), (2, .str ([] : List UInt8)), (3, .str s17698), (4, .int .i64 s9657.2)], [])) s17698 ?_ ?_
   ·refine K.block 1 (by kernel_rfl) ?_
    obtain ⟨s17707, hy17709, h17711⟩ := bindS hy17700
    refine K.cutN (by kernel_rfl) (fun (s17707 : (List UInt8)) => ([(0, lsv (encL encSt75 4) 1 x0), (2, .str ([] : List UInt8)), (3, .str s17707), (4, .int .i64 s9657.2)], [])) s17707 ?_ ?_
    ·refine kSR ?_
     refine kC 2 [0,2,3,4,15] ?_
     refine kEN ?_
     refine kBJ 15 hy17709 (fun h17713 => ?_) (fun h17714 => ?_)
     ·refine kT ?_
      refine kR ?_
      refine kC 1 [0,2,3,4,16] ?_
      obtain ⟨hm, h17715⟩ := asrt h17713
      refine RJ.rel (d := (some 17)) (ef := ⟨.str (s9657.1 ++ ([32, 111, 114, 32] : List UInt8)), [], []⟩) (ef' := ⟨.str (s9657.1 ++ ([32, 111, 114, 32] : List UInt8)), [], []⟩) (c := room (s9657.1.length + ([32, 111, 114, 32] : List UInt8).length)) (tr2 := []) (H2 := []) (by kernel_rfl) hm (fun hc => rfl) (by kernel_rfl) ?_
      refine RJ.seg 1 [0, 2, 3, 4] (L2 := [(0, lsv (encL encSt75 4) 1 x0), (2, .str ([] : List UInt8)), (3, .str (s9657.1 ++ ([32, 111, 114, 32] : List UInt8))), (4, .int .i64 s9657.2)]) (H2 := []) (by kernel_rfl) ?_
      refine kE ?_
      obtain rfl := oi h17715
      exact kN [0, 2, 3, 4]
     ·refine kF ?_
      refine kK ?_
      obtain rfl := oi h17714
      exact kN [0, 2, 3, 4]
    ·refine kSR ?_
     refine kC 1 [0,2,3,4,5] ?_
     refine kEN ?_
     refine K.block 2 (by kernel_rfl) ?_
     refine K.loop (by kernel_rfl) (fun (s17716 : (List UInt8) × Int) => ([(0, lsv (encL encSt75 4) 1 x0), (2, .str ([] : List UInt8)), (3, .str s17716.1), (4, .int .i64 s9657.2), (5, .int .i64 s17716.2)], [])) h17711 [0, 2, 3, 4, 5] (by kernel_rfl) (by kernel_rfl) (fun s17716 x18776 hs18775 => ?_)
     refine kS ?_
     refine kSR ?_
     refine kC 3 [0,2,3,4,5,18,19,20] ?_
     obtain ⟨hm, h18777⟩ := asrt hs18775
     refine kI 21 (encL_len encSt75 4) hm ?_
     refine kC 3 [0,2,3,4,5,24] ?_
     refine kEN ?_
     refine kBJ 24 h18777 (fun h18779 => ?_) (fun h18780 => ?_)
     ·refine kT ?_
      refine kK ?_
      refine PJ.next ?_
      obtain ⟨s19040, hy19042, h19044⟩ := bindS h18779
      refine K.cutN (by kernel_rfl) (fun (s19040 : (List UInt8)) => ([(0, lsv (encL encSt75 4) 1 x0), (2, .str ([] : List UInt8)), (3, .str s19040), (4, .int .i64 s9657.2), (5, .int .i64 s17716.2)], [])) s19040 ?_ ?_
      ·refine K.block 3 (by kernel_rfl) ?_
       refine kSR ?_
       refine kC 2 [0,2,3,4,5,27,28] ?_
       obtain ⟨hm, h19045⟩ := asrt hy19042
       refine kI 29 (encL_len encSt75 4) hm ?_
       refine RJ.seg 2 [0, 2, 3, 4, 5, 30, 31] (L2 := [(0, lsv (encL encSt75 4) 1 x0), (2, .str ([] : List UInt8)), (3, .str s17716.1), (4, .int .i64 s9657.2), (5, .int .i64 s17716.2), (30, lsv encSt75 4 (nth x0 s9657.2)), (31, .int .i64 s17716.2)]) (H2 := []) (by kernel_rfl) ?_
       obtain ⟨hm, h19046⟩ := asrt h19045
       refine kI 32 encSt75_len hm ?_
       refine kC 3 [0,2,3,4,5,6] ?_
       refine kEN ?_
       obtain ⟨s19051, hy19053, h19055⟩ := bindS h19046
       refine K.cutN (by kernel_rfl) (fun (s19051 : (List UInt8)) => ([(0, lsv (encL encSt75 4) 1 x0), (2, .str ([] : List UInt8)), (3, .str s19051), (4, .int .i64 s9657.2), (5, .int .i64 s17716.2), (6, .ptr 0 0)], [.box [.int .u8 ((nth (nth x0 s9657.2) s17716.2).Op_), .int .i64 ((nth (nth x0 s9657.2) s17716.2).Mod_), .bool ((nth (nth x0 s9657.2) s17716.2).Not_), lsv encSt80 2 ((nth (nth x0 s9657.2) s17716.2).R_)]])) s19051 ?_ ?_
       ·refine kSR ?_
        refine kC 2 [0,2,3,4,5,6,35] ?_
        refine kEN ?_
        refine kBJ 35 hy19053 (fun h19057 => ?_) (fun h19058 => ?_)
        ·refine kT ?_
         refine kR ?_
         refine kC 1 [0,2,3,4,5,6,36] ?_
         obtain ⟨hm, h19059⟩ := asrt h19057
         refine RJ.rel (d := (some 37)) (ef := ⟨.str (s17716.1 ++ ([32, 97, 110, 100, 32] : List UInt8)), [], []⟩) (ef' := ⟨.str (s17716.1 ++ ([32, 97, 110, 100, 32] : List UInt8)), [], []⟩) (c := room (s17716.1.length + ([32, 97, 110, 100, 32] : List UInt8).length)) (tr2 := []) (H2 := [.box [.int .u8 ((nth (nth x0 s9657.2) s17716.2).Op_), .int .i64 ((nth (nth x0 s9657.2) s17716.2).Mod_), .bool ((nth (nth x0 s9657.2) s17716.2).Not_), lsv encSt80 2 ((nth (nth x0 s9657.2) s17716.2).R_)]]) (by kernel_rfl) hm (fun hc => rfl) (by kernel_rfl) ?_
         refine RJ.seg 1 [0, 2, 3, 4, 5, 6] (L2 := [(0, lsv (encL encSt75 4) 1 x0), (2, .str ([] : List UInt8)), (3, .str (s17716.1 ++ ([32, 97, 110, 100, 32] : List UInt8))), (4, .int .i64 s9657.2), (5, .int .i64 s17716.2), (6, .ptr 0 0)]) (H2 := [.box [.int .u8 ((nth (nth x0 s9657.2) s17716.2).Op_), .int .i64 ((nth (nth x0 s9657.2) s17716.2).Mod_), .bool ((nth (nth x0 s9657.2) s17716.2).Not_), lsv encSt80 2 ((nth (nth x0 s9657.2) s17716.2).R_)]]) (by kernel_rfl) ?_
         refine kE ?_
         obtain rfl := oi h19059
         exact kN [0, 2, 3, 4, 5, 6]
        ·refine kF ?_
         refine kK ?_
         obtain rfl := oi h19058
         exact kN [0, 2, 3, 4, 5, 6]
       ·refine kSR ?_
        refine kC 4 [0,2,3,4,5,6,38,41] ?_
        refine RJ.rel (d := (some 42)) (ef := ⟨.str (((([(nth (nth x0 s9657.2) s17716.2).Op_] : List Int)).flatMap (encI .u8)).map Go.Sy.byteOf), [1], []⟩) (ef' := ⟨.str (bytesS (([(nth (nth x0 s9657.2) s17716.2).Op_] : List Int))), [1], []⟩) (c := ((([(nth (nth x0 s9657.2) s17716.2).Op_] : List Int)).flatMap (encI .u8)).all isByte) (tr2 := []) (H2 := [.box [.int .u8 ((nth (nth x0 s9657.2) s17716.2).Op_), .int .i64 ((nth (nth x0 s9657.2) s17716.2).Mod_), .bool ((nth (nth x0 s9657.2) s17716.2).Not_), lsv encSt80 2 ((nth (nth x0 s9657.2) s17716.2).R_)], vecL (encI .u8) 1 5 (([(nth (nth x0 s9657.2) s17716.2).Op_] : List Int))]) (by kernel_rfl) (allByte (([(nth (nth x0 s9657.2) s17716.2).Op_] : List Int))) (fun hc => N.toStr) (by kernel_rfl) ?_
        obtain ⟨hm, h19060⟩ := asrt h19055
        refine RJ.rel (d := (some 43)) (ef := ⟨.str (s19051 ++ ((bytesS (([(nth (nth x0 s9657.2) s17716.2).Op_] : List Int))))), [], []⟩) (ef' := ⟨.str (s19051 ++ ((bytesS (([(nth (nth x0 s9657.2) s17716.2).Op_] : List Int))))), [], []⟩) (c := room (s19051.length + ((bytesS (([(nth (nth x0 s9657.2) s17716.2).Op_] : List Int)))).length)) (tr2 := []) (H2 := [.box [.int .u8 ((nth (nth x0 s9657.2) s17716.2).Op_), .int .i64 ((nth (nth x0 s9657.2) s17716.2).Mod_), .bool ((nth (nth x0 s9657.2) s17716.2).Not_), lsv encSt80 2 ((nth (nth x0 s9657.2) s17716.2).R_)], vecL (encI .u8) 1 5 (([(nth (nth x0 s9657.2) s17716.2).Op_] : List Int))]) (by kernel_rfl) hm (fun hc => rfl) (by kernel_rfl) ?_
        refine kC 1 [0,2,3,4,5,6] ?_
        refine kEN ?_
        obtain ⟨s19069, hy19071, h19073⟩ := bindS h19060
        refine K.cutN (by kernel_rfl) (fun (s19069 : (List UInt8)) => ([(0, lsv (encL encSt75 4) 1 x0), (2, .str ([] : List UInt8)), (3, .str s19069), (4, .int .i64 s9657.2), (5, .int .i64 s17716.2), (6, .ptr 0 0)], [.box [.int .u8 ((nth (nth x0 s9657.2) s17716.2).Op_), .int .i64 ((nth (nth x0 s9657.2) s17716.2).Mod_), .bool ((nth (nth x0 s9657.2) s17716.2).Not_), lsv encSt80 2 ((nth (nth x0 s9657.2) s17716.2).R_)]])) s19069 ?_ ?_
        ·refine kSR ?_
         refine kC 3 [0,2,3,4,5,6,46] ?_
         refine kEN ?_
         refine kBJ 46 hy19071 (fun h19075 => ?_) (fun h19076 => ?_)
         ·refine kT ?_
          refine kR ?_
          refine RJ.seg 1 [0, 2, 3, 4, 5, 6, 47] (L2 := [(0, lsv (encL encSt75 4) 1 x0), (2, .str ([] : List UInt8)), (3, .str ((s19051 ++ ((bytesS (([(nth (nth x0 s9657.2) s17716.2).Op_] : List Int))))))), (4, .int .i64 s9657.2), (5, .int .i64 s17716.2), (6, .ptr 0 0), (47, .str ((s19051 ++ ((bytesS (([(nth (nth x0 s9657.2) s17716.2).Op_] : List Int)))))))]) (H2 := [.box [.int .u8 ((nth (nth x0 s9657.2) s17716.2).Op_), .int .i64 ((nth (nth x0 s9657.2) s17716.2).Mod_), .bool ((nth (nth x0 s9657.2) s17716.2).Not_), lsv encSt80 2 ((nth (nth x0 s9657.2) s17716.2).R_)], vecL (encI .u8) 1 5 (([(nth (nth x0 s9657.2) s17716.2).Op_] : List Int))]) (by kernel_rfl) ?_
          obtain ⟨hm, h19077⟩ := asrt h19075
          refine RJ.rel (d := (some 48)) (ef := ⟨.str (((s19051 ++ ((bytesS (([(nth (nth x0 s9657.2) s17716.2).Op_] : List Int)))))) ++ ([32, 37, 32] : List UInt8)), [], []⟩) (ef' := ⟨.str (((s19051 ++ ((bytesS (([(nth (nth x0 s9657.2) s17716.2).Op_] : List Int)))))) ++ ([32, 37, 32] : List UInt8)), [], []⟩) (c := room (((s19051 ++ ((bytesS (([(nth (nth x0 s9657.2) s17716.2).Op_] : List Int)))))).length + ([32, 37, 32] : List UInt8).length)) (tr2 := []) (H2 := [.box [.int .u8 ((nth (nth x0 s9657.2) s17716.2).Op_), .int .i64 ((nth (nth x0 s9657.2) s17716.2).Mod_), .bool ((nth (nth x0 s9657.2) s17716.2).Not_), lsv encSt80 2 ((nth (nth x0 s9657.2) s17716.2).R_)], vecL (encI .u8) 1 5 (([(nth (nth x0 s9657.2) s17716.2).Op_] : List Int))]) (by kernel_rfl) hm (fun hc => rfl) (by kernel_rfl) ?_
          refine kC 2 [0,2,3,4,5,6,48,50] ?_
          obtain ⟨y19078, hy19079, h19080⟩ := bindS h19077
          refine kA 51 (exergueref05_Number_ok big hy19079) ?_
          obtain ⟨hm, h19081⟩ := asrt h19080
          refine RJ.rel (d := (some 52)) (ef := ⟨.str (((((s19051 ++ ((bytesS (([(nth (nth x0 s9657.2) s17716.2).Op_] : List Int)))))) ++ ([32, 37, 32] : List UInt8))) ++ y19078), [], []⟩) (ef' := ⟨.str (((((s19051 ++ ((bytesS (([(nth (nth x0 s9657.2) s17716.2).Op_] : List Int)))))) ++ ([32, 37, 32] : List UInt8))) ++ y19078), [], []⟩) (c := room (((((s19051 ++ ((bytesS (([(nth (nth x0 s9657.2) s17716.2).Op_] : List Int)))))) ++ ([32, 37, 32] : List UInt8))).length + y19078.length)) (tr2 := []) (H2 := [.box [.int .u8 ((nth (nth x0 s9657.2) s17716.2).Op_), .int .i64 ((nth (nth x0 s9657.2) s17716.2).Mod_), .bool ((nth (nth x0 s9657.2) s17716.2).Not_), lsv encSt80 2 ((nth (nth x0 s9657.2) s17716.2).R_)], vecL (encI .u8) 1 5 (([(nth (nth x0 s9657.2) s17716.2).Op_] : List Int))]) (by kernel_rfl) hm (fun hc => rfl) (by kernel_rfl) ?_
          refine kC 1 [0,2,3,4,5,6] ?_
          refine kE ?_
          obtain rfl := oi h19081
          refine PJ.wk (Wk.sel (L2 := [(0, lsv (encL encSt75 4) 1 x0), (2, .str ([] : List UInt8)), (3, .str ((((((s19051 ++ ((bytesS (([(nth (nth x0 s9657.2) s17716.2).Op_] : List Int)))))) ++ ([32, 37, 32] : List UInt8))) ++ y19078))), (4, .int .i64 s9657.2), (5, .int .i64 s17716.2), (6, .ptr 0 0)]) (H2 := [.box [.int .u8 ((nth (nth x0 s9657.2) s17716.2).Op_), .int .i64 ((nth (nth x0 s9657.2) s17716.2).Mod_), .bool ((nth (nth x0 s9657.2) s17716.2).Not_), lsv encSt80 2 ((nth (nth x0 s9657.2) s17716.2).R_)]]) 0 (by rw [hFH]; rfl) hFD [0] (by kernel_rfl) (by kernel_rfl) (by decide) (by kernel_rfl) (by kernel_rfl) (by kernel_rfl) (by kernel_rfl)) ?_
          exact kN [0, 2, 3, 4, 5, 6]
         ·refine kF ?_
          refine kK ?_
          obtain rfl := oi h19076
          refine PJ.wk (Wk.sel (L2 := [(0, lsv (encL encSt75 4) 1 x0), (2, .str ([] : List UInt8)), (3, .str ((s19051 ++ ((bytesS (([(nth (nth x0 s9657.2) s17716.2).Op_] : List Int))))))), (4, .int .i64 s9657.2), (5, .int .i64 s17716.2), (6, .ptr 0 0)]) (H2 := [.box [.int .u8 ((nth (nth x0 s9657.2) s17716.2).Op_), .int .i64 ((nth (nth x0 s9657.2) s17716.2).Mod_), .bool ((nth (nth x0 s9657.2) s17716.2).Not_), lsv encSt80 2 ((nth (nth x0 s9657.2) s17716.2).R_)]]) 0 (by rw [hFH]; rfl) hFD [0] (by kernel_rfl) (by kernel_rfl) (by decide) (by kernel_rfl) (by kernel_rfl) (by kernel_rfl) (by kernel_rfl)) ?_
          exact kN [0, 2, 3, 4, 5, 6]
        ·obtain ⟨s19087, hy19089, h19091⟩ := bindS h19073
         refine K.cutN (by kernel_rfl) (fun (s19087 : (List UInt8)) => ([(0, lsv (encL encSt75 4) 1 x0), (2, .str ([] : List UInt8)), (3, .str s19087), (4, .int .i64 s9657.2), (5, .int .i64 s17716.2), (6, .ptr 0 0)], [.box [.int .u8 ((nth (nth x0 s9657.2) s17716.2).Op_), .int .i64 ((nth (nth x0 s9657.2) s17716.2).Mod_), .bool ((nth (nth x0 s9657.2) s17716.2).Not_), lsv encSt80 2 ((nth (nth x0 s9657.2) s17716.2).R_)]])) s19087 ?_ ?_
         ·refine kSR ?_
          refine kC 2 [0,2,3,4,5,6,54] ?_
          refine kEN ?_
          refine kBJ 54 hy19089 (fun h19093 => ?_) (fun h19094 => ?_)
          ·refine kT ?_
           refine kR ?_
           refine kC 1 [0,2,3,4,5,6,55] ?_
           obtain ⟨hm, h19095⟩ := asrt h19093
           refine RJ.rel (d := (some 56)) (ef := ⟨.str (s19069 ++ ([32, 33, 61, 32] : List UInt8)), [], []⟩) (ef' := ⟨.str (s19069 ++ ([32, 33, 61, 32] : List UInt8)), [], []⟩) (c := room (s19069.length + ([32, 33, 61, 32] : List UInt8).length)) (tr2 := []) (H2 := [.box [.int .u8 ((nth (nth x0 s9657.2) s17716.2).Op_), .int .i64 ((nth (nth x0 s9657.2) s17716.2).Mod_), .bool ((nth (nth x0 s9657.2) s17716.2).Not_), lsv encSt80 2 ((nth (nth x0 s9657.2) s17716.2).R_)]]) (by kernel_rfl) hm (fun hc => rfl) (by kernel_rfl) ?_
           refine kC 1 [0,2,3,4,5,6] ?_
           refine kE ?_
           obtain rfl := oi h19095
           exact kN [0, 2, 3, 4, 5, 6]
          ·refine kF ?_
           refine kR ?_
           refine kC 1 [0,2,3,4,5,6,57] ?_
           obtain ⟨hm, h19096⟩ := asrt h19094
           refine RJ.rel (d := (some 58)) (ef := ⟨.str (s19069 ++ ([32, 61, 32] : List UInt8)), [], []⟩) (ef' := ⟨.str (s19069 ++ ([32, 61, 32] : List UInt8)), [], []⟩) (c := room (s19069.length + ([32, 61, 32] : List UInt8).length)) (tr2 := []) (H2 := [.box [.int .u8 ((nth (nth x0 s9657.2) s17716.2).Op_), .int .i64 ((nth (nth x0 s9657.2) s17716.2).Mod_), .bool ((nth (nth x0 s9657.2) s17716.2).Not_), lsv encSt80 2 ((nth (nth x0 s9657.2) s17716.2).R_)]]) (by kernel_rfl) hm (fun hc => rfl) (by kernel_rfl) ?_
           refine kC 1 [0,2,3,4,5,6] ?_
           refine kE ?_
           obtain rfl := oi h19096
           exact kN [0, 2, 3, 4, 5, 6]
         ·refine kSR ?_
          refine kC 1 [0,2,3,4,5,6,7] ?_
          refine kEN ?_
          refine K.block 4 (by kernel_rfl) ?_
          refine K.loop (by kernel_rfl) (fun (s19097 : (List UInt8) × Int) => ([(0, lsv (encL encSt75 4) 1 x0), (2, .str ([] : List UInt8)), (3, .str s19097.1), (4, .int .i64 s9657.2), (5, .int .i64 s17716.2), (6, .ptr 0 0), (7, .int .i64 s19097.2)], [.box [.int .u8 ((nth (nth x0 s9657.2) s17716.2).Op_), .int .i64 ((nth (nth x0 s9657.2) s17716.2).Mod_), .bool ((nth (nth x0 s9657.2) s17716.2).Not_), lsv encSt80 2 ((nth (nth x0 s9657.2) s17716.2).R_)]])) h19091 [0, 2, 3, 4, 5, 6, 7] (by kernel_rfl) (by kernel_rfl) (fun s19097 x19235 hs19234 => ?_)
          refine kS ?_
          refine kSR ?_
          refine kC 5 [0,2,3,4,5,6,7,63] ?_
          refine kEN ?_
          refine kBJ 63 hs19234 (fun h19237 => ?_) (fun h19238 => ?_)
          ·refine kT ?_
           refine kK ?_
           refine PJ.next ?_
           obtain ⟨s19268, hy19270, h19272⟩ := bindS h19237
           refine K.cutN (by kernel_rfl) (fun (s19268 : (List UInt8)) => ([(0, lsv (encL encSt75 4) 1 x0), (2, .str ([] : List UInt8)), (3, .str s19268), (4, .int .i64 s9657.2), (5, .int .i64 s17716.2), (6, .ptr 0 0), (7, .int .i64 s19097.2)], [.box [.int .u8 ((nth (nth x0 s9657.2) s17716.2).Op_), .int .i64 ((nth (nth x0 s9657.2) s17716.2).Mod_), .bool ((nth (nth x0 s9657.2) s17716.2).Not_), lsv encSt80 2 ((nth (nth x0 s9657.2) s17716.2).R_)]])) s19268 ?_ ?_
           ·refine K.block 5 (by kernel_rfl) ?_
            obtain ⟨s19277, hy19279, h19281⟩ := bindS hy19270
            refine K.cutN (by kernel_rfl) (fun (s19277 : (List UInt8)) => ([(0, lsv (encL encSt75 4) 1 x0), (2, .str ([] : List UInt8)), (3, .str s19277), (4, .int .i64 s9657.2), (5, .int .i64 s17716.2), (6, .ptr 0 0), (7, .int .i64 s19097.2)], [.box [.int .u8 ((nth (nth x0 s9657.2) s17716.2).Op_), .int .i64 ((nth (nth x0 s9657.2) s17716.2).Mod_), .bool ((nth (nth x0 s9657.2) s17716.2).Not_), lsv encSt80 2 ((nth (nth x0 s9657.2) s17716.2).R_)]])) s19277 ?_ ?_
            ·refine kSR ?_
             refine kC 2 [0,2,3,4,5,6,7,67] ?_
             refine kEN ?_
             refine kBJ 67 hy19279 (fun h19283 => ?_) (fun h19284 => ?_)
             ·refine kT ?_
              refine kR ?_
              refine kC 1 [0,2,3,4,5,6,7,68] ?_
              obtain ⟨hm, h19285⟩ := asrt h19283
              refine RJ.rel (d := (some 69)) (ef := ⟨.str (s19097.1 ++ ([44] : List UInt8)), [], []⟩) (ef' := ⟨.str (s19097.1 ++ ([44] : List UInt8)), [], []⟩) (c := room (s19097.1.length + ([44] : List UInt8).length)) (tr2 := []) (H2 := [.box [.int .u8 ((nth (nth x0 s9657.2) s17716.2).Op_), .int .i64 ((nth (nth x0 s9657.2) s17716.2).Mod_), .bool ((nth (nth x0 s9657.2) s17716.2).Not_), lsv encSt80 2 ((nth (nth x0 s9657.2) s17716.2).R_)]]) (by kernel_rfl) hm (fun hc => rfl) (by kernel_rfl) ?_
              refine RJ.seg 1 [0, 2, 3, 4, 5, 6, 7] (L2 := [(0, lsv (encL encSt75 4) 1 x0), (2, .str ([] : List UInt8)), (3, .str (s19097.1 ++ ([44] : List UInt8))), (4, .int .i64 s9657.2), (5, .int .i64 s17716.2), (6, .ptr 0 0), (7, .int .i64 s19097.2)]) (H2 := [.box [.int .u8 ((nth (nth x0 s9657.2) s17716.2).Op_), .int .i64 ((nth (nth x0 s9657.2) s17716.2).Mod_), .bool ((nth (nth x0 s9657.2) s17716.2).Not_), lsv encSt80 2 ((nth (nth x0 s9657.2) s17716.2).R_)]]) (by kernel_rfl) ?_
              refine kE ?_
              obtain rfl := oi h19285
              exact kN [0, 2, 3, 4, 5, 6, 7]
             ·refine kF ?_
              refine kK ?_
              obtain rfl := oi h19284
              exact kN [0, 2, 3, 4, 5, 6, 7]
            ·refine kSR ?_
             refine kC 4 [0,2,3,4,5,6,7,70,72,73] ?_
             obtain ⟨hm, h19286⟩ := asrt h19281
             refine kI 74 encSt80_len hm ?_
             refine kC 2 [0,2,3,4,5,6,7,70,76] ?_
             obtain ⟨y19287, hy19288, h19289⟩ := bindS h19286
             refine kA 77 (exergueref05_Number_ok big hy19288) ?_
             obtain ⟨hm, h19290⟩ := asrt h19289
             refine RJ.rel (d := (some 78)) (ef := ⟨.str (s19277 ++ y19287), [], []⟩) (ef' := ⟨.str (s19277 ++ y19287), [], []⟩) (c := room (s19277.length + y19287.length)) (tr2 := []) (H2 := [.box [.int .u8 ((nth (nth x0 s9657.2) s17716.2).Op_), .int .i64 ((nth (nth x0 s9657.2) s17716.2).Mod_), .bool ((nth (nth x0 s9657.2) s17716.2).Not_), lsv encSt80 2 ((nth (nth x0 s9657.2) s17716.2).R_)]]) (by kernel_rfl) hm (fun hc => rfl) (by kernel_rfl) ?_
             refine kC 1 [0,2,3,4,5,6,7] ?_
             refine kEN ?_
             refine kS ?_
             refine J.keep [0, 2, 3, 4, 5, 6, 7] (L2 := [(0, lsv (encL encSt75 4) 1 x0), (2, .str ([] : List UInt8)), (3, .str (s19277 ++ y19287)), (4, .int .i64 s9657.2), (5, .int .i64 s17716.2), (6, .ptr 0 0), (7, .int .i64 s19097.2)]) (by kernel_rfl) ?_
             refine K.draw (by kernel_rfl) (by kernel_rfl) (by kernel_rfl) (H2 := [.box [.int .u8 ((nth (nth x0 s9657.2) s17716.2).Op_), .int .i64 ((nth (nth x0 s9657.2) s17716.2).Mod_), .bool ((nth (nth x0 s9657.2) s17716.2).Not_), lsv encSt80 2 ((nth (nth x0 s9657.2) s17716.2).R_)]]) (by kernel_rfl) (n := 1) (by kernel_rfl) ?_
             refine RJ.segD 3 (tr2 := [([], []), ([0, 1], []), ([], [])]) (L2 := [(81, .int .i64 s19097.2), (80, lsv encSt80 2 ((nth (nth x0 s9657.2) s17716.2).R_)), (79, .ptr 0 3), (0, lsv (encL encSt75 4) 1 x0), (2, .str ([] : List UInt8)), (3, .str (s19277 ++ y19287)), (4, .int .i64 s9657.2), (5, .int .i64 s17716.2), (6, .ptr 0 0), (7, .int .i64 s19097.2)]) (H2 := [.box [.int .u8 ((nth (nth x0 s9657.2) s17716.2).Op_), .int .i64 ((nth (nth x0 s9657.2) s17716.2).Mod_), .bool ((nth (nth x0 s9657.2) s17716.2).Not_), lsv encSt80 2 ((nth (nth x0 s9657.2) s17716.2).R_)]]) (by kernel_rfl) ?_
             obtain ⟨hm, h19291⟩ := asrt h19290
             refine RJ.rel (d := (some 82)) (ef := ⟨.ep (((((nth (nth x0 s9657.2) s17716.2).R_).flatMap encSt80).drop ((s19097.2 : Int).toNat * 2)).take 2), [], []⟩) (ef' := ⟨.ep (encSt80 (nth ((nth (nth x0 s9657.2) s17716.2).R_) s19097.2)), [], []⟩) (c := inR s19097.2 ((nth (nth x0 s9657.2) s17716.2).R_).length) (tr2 := [([], []), ([0, 1], []), ([], []), ([], [])]) (H2 := [.box [.int .u8 ((nth (nth x0 s9657.2) s17716.2).Op_), .int .i64 ((nth (nth x0 s9657.2) s17716.2).Mod_), .bool ((nth (nth x0 s9657.2) s17716.2).Not_), lsv encSt80 2 ((nth (nth x0 s9657.2) s17716.2).R_)]]) (by kernel_rfl) hm (fun hc => N.idx encSt80_len hc) (by kernel_rfl) ?_
             refine kD 5 ?_
             obtain ⟨hm, h19292⟩ := asrt h19291
             refine RJ.rel (d := (some 88)) (ef := ⟨.ep (((((nth (nth x0 s9657.2) s17716.2).R_).flatMap encSt80).drop ((s19097.2 : Int).toNat * 2)).take 2), [], []⟩) (ef' := ⟨.ep (encSt80 (nth ((nth (nth x0 s9657.2) s17716.2).R_) s19097.2)), [], []⟩) (c := inR s19097.2 ((nth (nth x0 s9657.2) s17716.2).R_).length) (tr2 := [([], []), ([0, 1], []), ([], []), ([], []), ([], []), ([], []), ([], []), ([0, 1], []), ([], []), ([], [])]) (H2 := [.box [.int .u8 ((nth (nth x0 s9657.2) s17716.2).Op_), .int .i64 ((nth (nth x0 s9657.2) s17716.2).Mod_), .bool ((nth (nth x0 s9657.2) s17716.2).Not_), lsv encSt80 2 ((nth (nth x0 s9657.2) s17716.2).R_)]]) (by kernel_rfl) hm (fun hc => N.idx encSt80_len hc) (by kernel_rfl) ?_
             refine kD 3 ?_
             refine kEN ?_
             refine kBJ 91 h19292 (fun h19294 => ?_) (fun h19295 => ?_)
             ·refine kT ?_
              refine kR ?_
              refine kC 1 [0,2,3,4,5,6,7,92] ?_
              obtain ⟨hm, h19296⟩ := asrt h19294
              refine RJ.rel (d := (some 93)) (ef := ⟨.str ((s19277 ++ y19287) ++ ([46, 46] : List UInt8)), [], []⟩) (ef' := ⟨.str ((s19277 ++ y19287) ++ ([46, 46] : List UInt8)), [], []⟩) (c := room ((s19277 ++ y19287).length + ([46, 46] : List UInt8).length)) (tr2 := []) (H2 := [.box [.int .u8 ((nth (nth x0 s9657.2) s17716.2).Op_), .int .i64 ((nth (nth x0 s9657.2) s17716.2).Mod_), .bool ((nth (nth x0 s9657.2) s17716.2).Not_), lsv encSt80 2 ((nth (nth x0 s9657.2) s17716.2).R_)]]) (by kernel_rfl) hm (fun hc => rfl) (by kernel_rfl) ?_
              refine RJ.seg 3 [0, 2, 3, 4, 5, 6, 7, 93, 95, 96] (L2 := [(0, lsv (encL encSt75 4) 1 x0), (2, .str ([] : List UInt8)), (3, .str (s19277 ++ y19287)), (4, .int .i64 s9657.2), (5, .int .i64 s17716.2), (6, .ptr 0 0), (7, .int .i64 s19097.2), (93, .str ((s19277 ++ y19287) ++ ([46, 46] : List UInt8))), (95, lsv encSt80 2 ((nth (nth x0 s9657.2) s17716.2).R_)), (96, .int .i64 s19097.2)]) (H2 := [.box [.int .u8 ((nth (nth x0 s9657.2) s17716.2).Op_), .int .i64 ((nth (nth x0 s9657.2) s17716.2).Mod_), .bool ((nth (nth x0 s9657.2) s17716.2).Not_), lsv encSt80 2 ((nth (nth x0 s9657.2) s17716.2).R_)]]) (by kernel_rfl) ?_
              obtain ⟨hm, h19297⟩ := asrt h19296
              refine kI 97 encSt80_len hm ?_
              refine kC 2 [0,2,3,4,5,6,7,93,99] ?_
              obtain ⟨y19298, hy19299, h19300⟩ := bindS h19297
              refine kA 100 (exergueref05_Number_ok big hy19299) ?_
              obtain ⟨hm, h19301⟩ := asrt h19300
              refine RJ.rel (d := (some 101)) (ef := ⟨.str (((s19277 ++ y19287) ++ ([46, 46] : List UInt8)) ++ y19298), [], []⟩) (ef' := ⟨.str (((s19277 ++ y19287) ++ ([46, 46] : List UInt8)) ++ y19298), [], []⟩) (c := room (((s19277 ++ y19287) ++ ([46, 46] : List UInt8)).length + y19298.length)) (tr2 := []) (H2 := [.box [.int .u8 ((nth (nth x0 s9657.2) s17716.2).Op_), .int .i64 ((nth (nth x0 s9657.2) s17716.2).Mod_), .bool ((nth (nth x0 s9657.2) s17716.2).Not_), lsv encSt80 2 ((nth (nth x0 s9657.2) s17716.2).R_)]]) (by kernel_rfl) hm (fun hc => rfl) (by kernel_rfl) ?_
              refine kC 1 [0,2,3,4,5,6,7] ?_
              refine kE ?_
              refine PJ.blockNormal ?_
              obtain rfl := oi h19301
              exact kN [0, 2, 3, 4, 5, 6, 7]
             ·refine kF ?_
              refine kK ?_
              refine PJ.blockNormal ?_
              obtain rfl := oi h19295
              exact kN [0, 2, 3, 4, 5, 6, 7]
           ·refine kR ?_
            refine kC 3 [0,2,3,4,5,6,7] ?_
            refine kE ?_
            obtain rfl := oi h19272
            exact PJ.loopNext [0, 2, 3, 4, 5, 6, 7] (by kernel_rfl) (by kernel_rfl)
          ·refine kF ?_
           refine K.exit 4 (by kernel_rfl) ?_
           refine PJ.passExit ?_
           obtain rfl := oi h19238
           refine PJ.loopOut (fun e => nomatch e) (fun he19303 => ?_)
           have h19302 := congrArg some he19303
           refine PJ.blockOut ?_
           refine PJ.blockNormal ?_
           obtain rfl := oi h19302
           refine PJ.wk (Wk.sel (L2 := [(0, lsv (encL encSt75 4) 1 x0), (2, .str ([] : List UInt8)), (3, .str s19097.1), (4, .int .i64 s9657.2), (5, .int .i64 s17716.2)]) (H2 := []) 0 (by rw [hFH]; rfl) hFD [] (by kernel_rfl) (by kernel_rfl) (by decide) (by kernel_rfl) (by kernel_rfl) (by kernel_rfl) (by kernel_rfl)) ?_
           exact kN [0, 2, 3, 4, 5]
      ·refine kR ?_
       refine kC 3 [0,2,3,4,5] ?_
       refine kE ?_
       obtain rfl := oi h19044
       exact PJ.loopNext [0, 2, 3, 4, 5] (by kernel_rfl) (by kernel_rfl)
     ·refine kF ?_
      refine K.exit 2 (by kernel_rfl) ?_
      refine PJ.passExit ?_
      obtain rfl := oi h18780
      refine PJ.loopOut (fun e => nomatch e) (fun he19305 => ?_)
      have h19304 := congrArg some he19305
      refine PJ.blockOut ?_
      refine PJ.blockNormal ?_
      obtain rfl := oi h19304
      exact kN [0, 2, 3, 4]
   ·refine kR ?_
    refine kC 3 [0,2,3,4] ?_
    refine kE ?_
    obtain rfl := oi h17702
    exact PJ.loopNext [0, 2, 3, 4] (by kernel_rfl) (by kernel_rfl)
  ·refine kF ?_
   refine K.exit 0 (by kernel_rfl) ?_
   refine PJ.passExit ?_
   obtain rfl := oi h16094
   refine PJ.loopOut (fun e => nomatch e) (fun he19307 => ?_)
   have h19306 := congrArg some he19307
   refine PJ.blockOut ?_
   obtain rfl := oi h19306
   exact kN [2, 3]
 ·refine kSR ?_
  refine kC 2 [2] ?_
  refine kEN ?_
  refine kX ?_
  obtain rfl := oi h9656
  exact kZ hFn hFH hFD
def exergueref11_Same (x0 : List (List St75)) (x1 : List (List St75)) : Option (Bool) :=
 (bif (decide (¬ (x0.length : Int) = (x1.length : Int))) then (some false) else (Option.bind (loopN (fun (s5244 : Int) => (bif (decide (s5244 < (x0.length : Int))) then (Option.bind (bif inR s5244 x0.length then (bif inR s5244 x1.length then (bif (decide (¬ ((nth x0 s5244).length : Int) = ((nth x1 s5244).length : Int))) then (some (.inr (.inr (.inr false)))) else (loopN (fun (s9619 : Int) => (bif inR s5244 x0.length then (bif (decide (s9619 < ((nth x0 s5244).length : Int))) then (Option.bind (bif inR s5244 x0.length then (bif inR s9619 (nth x0 s5244).length then (bif inR s5244 x1.length then (bif inR s9619 (nth x1 s5244).length then (Option.bind (Option.bind (bif (decide (¬ ((nth (nth x0 s5244) s9619).Op_) = ((nth (nth x1 s5244) s9619).Op_))) then (some true) else (bif (decide (¬ ((nth (nth x0 s5244) s9619).Mod_) = ((nth (nth x1 s5244) s9619).Mod_))) then (some true) else (bif (((nth (nth x0 s5244) s9619).Not_) != ((nth (nth x1 s5244) s9619).Not_)) then (some true) else (some ((decide (¬ ((((nth (nth x0 s5244) s9619).R_).length : Int)) = ((((nth (nth x1 s5244) s9619).R_).length : Int))))))))) fun (s10390 : Bool) => (bif s10390 then (some (.inr (.inr (.inr (.inr (.inr (.inr false))))))) else (some (.inl ())))) (joinX fun (s10376 : Unit) => (loopN (fun (s10415 : Int) => (bif (decide (s10415 < ((((nth (nth x0 s5244) s9619).R_).length : Int)))) then (bif inR s10415 ((nth (nth x0 s5244) s9619).R_).length then (bif inR s10415 ((nth (nth x1 s5244) s9619).R_).length then (bif (!((decide (((nth ((nth (nth x0 s5244) s9619).R_) s10415).a0_) = ((nth ((nth (nth x1 s5244) s9619).R_) s10415).a0_))) && ((decide (((nth ((nth (nth x0 s5244) s9619).R_) s10415).a1_) = ((nth ((nth (nth x1 s5244) s9619).R_) s10415).a1_))) && true))) then (some (.inr (.inr (.inr (.inr (.inr (.inr false))))))) else (some (.inl (IntKind.wrap .i64 (s10415 + 1))))) else none) else none) else (some (.inr (.inl ()))))) big 0))) else none) else none) else none) else none) (joinX fun (s10333 : Unit) => (some (.inl (IntKind.wrap .i64 (s9619 + 1)))))) else (some (.inr (.inl ())))) else none)) big 0)) else none) else none) (joinX fun (s9605 : Unit) => (some (.inl (IntKind.wrap .i64 (s5244 + 1)))))) else (some (.inr (.inl ()))))) big 0) (joinX fun (s5239 : Unit) => (some true))))
theorem exergueref11_Same_ok {x0 : List (List St75)} {x1 : List (List St75)} {r : Bool} (h : exergueref11_Same x0 x1 = some r) : SC Tryz.prog 28 [lsv (encL encSt75 4) 1 x0, lsv (encL encSt75 4) 1 x1] [] (.bool r) [] := by
 refine kFn (fn := Tryz.f28) (fun F hFn hFH hFD => ?_)
 unfold exergueref11_Same at h
 refine kSR ?_
 refine kC 1 [0,1,4] ?_
 refine kEN ?_
 refine kS ?_
 refine kSR ?_
 refine kC 5 [0,1,4,14] ?_
 refine kEN ?_
 refine kBJ 14 h (fun h2 => ?_) (fun h3 => ?_)
 ·refine kT ?_
  refine kSR ?_
  refine kC 1 [0,1,4] ?_
  refine kEN ?_
  refine kX ?_
  refine PJ.passRet ?_
  obtain rfl := oi h2
  exact kZ hFn hFH hFD
 ·refine kF ?_
  refine kK ?_
  refine PJ.next ?_
  obtain ⟨y5240, hy5241, h5242⟩ := bindS h3
  refine K.cutX (by kernel_rfl) (fun (s5239 : Unit) => ([(4, .bool false)], [])) y5240 ?_ (fun s5239 hs => ?_)
  ·refine kSR ?_
   refine kC 1 [0,1,4,5] ?_
   refine kEN ?_
   refine K.block 0 (by kernel_rfl) ?_
   refine K.loop (by kernel_rfl) (fun (s5244 : Int) => ([(0, lsv (encL encSt75 4) 1 x0), (1, lsv (encL encSt75 4) 1 x1), (4, .bool false), (5, .int .i64 s5244)], [])) hy5241 [0, 1, 4, 5] (by kernel_rfl) (by kernel_rfl) (fun s5244 x8734 hs8733 => ?_)
   refine kS ?_
   refine kSR ?_
   refine kC 4 [0,1,4,5,18] ?_
   refine kEN ?_
   refine kBJ 18 hs8733 (fun h8736 => ?_) (fun h8737 => ?_)
   ·refine kT ?_
    refine kK ?_
    refine PJ.next ?_
    obtain ⟨y9606, hy9607, h9608⟩ := bindS h8736
    refine K.cutX (by kernel_rfl) (fun (s9605 : Unit) => ([(0, lsv (encL encSt75 4) 1 x0), (1, lsv (encL encSt75 4) 1 x1), (4, .bool false), (5, .int .i64 s5244)], [])) y9606 ?_ (fun s9605 hs => ?_)
    ·refine K.block 1 (by kernel_rfl) ?_
     refine kS ?_
     refine kS ?_
     refine J.keep [0, 1, 4, 5] (L2 := [(0, lsv (encL encSt75 4) 1 x0), (1, lsv (encL encSt75 4) 1 x1), (4, .bool false), (5, .int .i64 s5244)]) (by kernel_rfl) ?_
     refine K.draw (by kernel_rfl) (by kernel_rfl) (by kernel_rfl) (H2 := []) (by kernel_rfl) (n := 0) (by kernel_rfl) ?_
     refine kD 2 ?_
     obtain ⟨hm, h9610⟩ := asrt hy9607
     refine RJ.rel (d := (some 23)) (ef := ⟨.ep (((x0.flatMap (encL encSt75 4)).drop ((s5244 : Int).toNat * 1)).take 1), [], []⟩) (ef' := ⟨.ep ((encL encSt75 4) (nth x0 s5244)), [], []⟩) (c := inR s5244 x0.length) (tr2 := [([], []), ([], []), ([], [])]) (H2 := []) (by kernel_rfl) hm (fun hc => N.idx (encL_len encSt75 4) hc) (by kernel_rfl) ?_
     refine kD 4 ?_
     obtain ⟨hm, h9611⟩ := asrt h9610
     refine RJ.rel (d := (some 28)) (ef := ⟨.ep (((x1.flatMap (encL encSt75 4)).drop ((s5244 : Int).toNat * 1)).take 1), [], []⟩) (ef' := ⟨.ep ((encL encSt75 4) (nth x1 s5244)), [], []⟩) (c := inR s5244 x1.length) (tr2 := [([], []), ([], []), ([], []), ([], []), ([], []), ([], []), ([], []), ([], [])]) (H2 := []) (by kernel_rfl) hm (fun hc => N.idx (encL_len encSt75 4) hc) (by kernel_rfl) ?_
     refine RJ.segD 3 (tr2 := [([], []), ([], []), ([], []), ([], []), ([], []), ([], []), ([], []), ([], []), ([], []), ([], []), ([], [])]) (L2 := [(31, .bool ((decide (¬ ((nth x0 s5244).length : Int) = ((nth x1 s5244).length : Int))))), (30, .int .i64 ((nth x1 s5244).length : Int)), (29, lsv encSt75 4 (nth x1 s5244)), (28, .ep [lsv encSt75 4 (nth x1 s5244)]), (27, .int .i64 s5244), (26, lsv (encL encSt75 4) 1 x1), (25, .int .i64 ((nth x0 s5244).length : Int)), (24, lsv encSt75 4 (nth x0 s5244)), (23, .ep [lsv encSt75 4 (nth x0 s5244)]), (22, .int .i64 s5244), (21, lsv (encL encSt75 4) 1 x0), (0, lsv (encL encSt75 4) 1 x0), (1, lsv (encL encSt75 4) 1 x1), (4, .bool false), (5, .int .i64 s5244)]) (H2 := []) (by kernel_rfl) ?_
     refine kEN ?_
     refine kBJ 31 h9611 (fun h9613 => ?_) (fun h9614 => ?_)
     ·refine kT ?_
      refine kSR ?_
      refine kC 1 [0,1,4,5] ?_
      refine kEN ?_
      refine kX ?_
      refine PJ.passRet ?_
      refine PJ.blockRet ?_
      obtain rfl := oi h9613
      have h9615 := joinX_inr h9608
      refine PJ.cutXr (fun e => nomatch e) ?_
      obtain rfl := oi h9615
      refine PJ.loopOut (fun e => nomatch e) (fun he9618 => ?_)
      have h9616 := congrArg some he9618
      refine PJ.blockRet ?_
      obtain rfl := oi h9616
      have h9617 := joinX_inr h5242
      refine PJ.cutXr (fun e => nomatch e) ?_
      obtain rfl := oi h9617
      exact kZ hFn hFH hFD
     ·refine kF ?_
      refine kK ?_
      refine PJ.next ?_
      refine kSR ?_
      refine kC 1 [0,1,4,5,6] ?_
      refine kEN ?_
      refine K.block 2 (by kernel_rfl) ?_
      refine K.loop (by kernel_rfl) (fun (s9619 : Int) => ([(0, lsv (encL encSt75 4) 1 x0), (1, lsv (encL encSt75 4) 1 x1), (4, .bool false), (5, .int .i64 s5244), (6, .int .i64 s9619)], [])) h9614 [0, 1, 4, 5, 6] (by kernel_rfl) (by kernel_rfl) (fun s9619 x10191 hs10190 => ?_)
      refine kS ?_
      refine kSR ?_
      refine kC 3 [0,1,4,5,6,32,33,34] ?_
      obtain ⟨hm, h10192⟩ := asrt hs10190
      refine kI 35 (encL_len encSt75 4) hm ?_
      refine kC 3 [0,1,4,5,6,38] ?_
      refine kEN ?_
      refine kBJ 38 h10192 (fun h10194 => ?_) (fun h10195 => ?_)
      ·refine kT ?_
       refine kK ?_
       refine PJ.next ?_
       obtain ⟨y10334, hy10335, h10336⟩ := bindS h10194
       refine K.cutX (by kernel_rfl) (fun (s10333 : Unit) => ([(0, lsv (encL encSt75 4) 1 x0), (1, lsv (encL encSt75 4) 1 x1), (4, .bool false), (5, .int .i64 s5244), (6, .int .i64 s9619)], [])) y10334 ?_ (fun s10333 hs => ?_)
       ·refine K.block 3 (by kernel_rfl) ?_
        refine kSR ?_
        refine kC 2 [0,1,4,5,6,41,42] ?_
        obtain ⟨hm, h10338⟩ := asrt hy10335
        refine kI 43 (encL_len encSt75 4) hm ?_
        refine RJ.seg 2 [0, 1, 4, 5, 6, 44, 45] (L2 := [(0, lsv (encL encSt75 4) 1 x0), (1, lsv (encL encSt75 4) 1 x1), (4, .bool false), (5, .int .i64 s5244), (6, .int .i64 s9619), (44, lsv encSt75 4 (nth x0 s5244)), (45, .int .i64 s9619)]) (H2 := []) (by kernel_rfl) ?_
        obtain ⟨hm, h10339⟩ := asrt h10338
        refine kI 46 encSt75_len hm ?_
        refine kC 3 [0,1,4,5,6,7] ?_
        refine kEN ?_
        refine kSR ?_
        refine kC 2 [0,1,4,5,6,7,48,49] ?_
        obtain ⟨hm, h10340⟩ := asrt h10339
        refine kI 50 (encL_len encSt75 4) hm ?_
        refine kC 2 [0,1,4,5,6,7,51,52] ?_
        obtain ⟨hm, h10341⟩ := asrt h10340
        refine kI 53 encSt75_len hm ?_
        refine RJ.seg 3 [0, 1, 4, 5, 6, 7, 8] (L2 := [(0, lsv (encL encSt75 4) 1 x0), (1, lsv (encL encSt75 4) 1 x1), (4, .bool false), (5, .int .i64 s5244), (6, .int .i64 s9619), (7, .ptr 0 0), (8, .ptr 1 0)]) (H2 := [.box [.int .u8 ((nth (nth x0 s5244) s9619).Op_), .int .i64 ((nth (nth x0 s5244) s9619).Mod_), .bool ((nth (nth x0 s5244) s9619).Not_), lsv encSt80 2 ((nth (nth x0 s5244) s9619).R_)], .box [.int .u8 ((nth (nth x1 s5244) s9619).Op_), .int .i64 ((nth (nth x1 s5244) s9619).Mod_), .bool ((nth (nth x1 s5244) s9619).Not_), lsv encSt80 2 ((nth (nth x1 s5244) s9619).R_)]]) (by kernel_rfl) ?_
        refine kEN ?_
        obtain ⟨y10377, hy10378, h10379⟩ := bindS h10341
        refine K.cutX (by kernel_rfl) (fun (s10376 : Unit) => ([(0, lsv (encL encSt75 4) 1 x0), (1, lsv (encL encSt75 4) 1 x1), (4, .bool false), (5, .int .i64 s5244), (6, .int .i64 s9619), (7, .ptr 0 0), (8, .ptr 1 0)], [.box [.int .u8 ((nth (nth x0 s5244) s9619).Op_), .int .i64 ((nth (nth x0 s5244) s9619).Mod_), .bool ((nth (nth x0 s5244) s9619).Not_), lsv encSt80 2 ((nth (nth x0 s5244) s9619).R_)], .box [.int .u8 ((nth (nth x1 s5244) s9619).Op_), .int .i64 ((nth (nth x1 s5244) s9619).Mod_), .bool ((nth (nth x1 s5244) s9619).Not_), lsv encSt80 2 ((nth (nth x1 s5244) s9619).R_)]])) y10377 ?_ (fun s10376 hs => ?_)
        ·obtain ⟨s10390, hy10392, h10394⟩ := bindS hy10378
         refine K.cutN (by kernel_rfl) (fun (s10390 : Bool) => ([(0, lsv (encL encSt75 4) 1 x0), (1, lsv (encL encSt75 4) 1 x1), (4, .bool false), (5, .int .i64 s5244), (6, .int .i64 s9619), (7, .ptr 0 0), (8, .ptr 1 0), (82, .bool s10390)], [.box [.int .u8 ((nth (nth x0 s5244) s9619).Op_), .int .i64 ((nth (nth x0 s5244) s9619).Mod_), .bool ((nth (nth x0 s5244) s9619).Not_), lsv encSt80 2 ((nth (nth x0 s5244) s9619).R_)], .box [.int .u8 ((nth (nth x1 s5244) s9619).Op_), .int .i64 ((nth (nth x1 s5244) s9619).Mod_), .bool ((nth (nth x1 s5244) s9619).Not_), lsv encSt80 2 ((nth (nth x1 s5244) s9619).R_)]])) s10390 ?_ ?_
         ·refine kR ?_
          refine kC 6 [0,1,4,5,6,7,8,60] ?_
          refine kB 60 hy10392 (fun h10396 => ?_) (fun h10397 => ?_)
          ·refine kC 22 [0,1,4,5,6,7,8,82] ?_
           refine kE ?_
           obtain rfl := oi h10396
           exact kN [0, 1, 4, 5, 6, 7, 8, 82]
          ·refine kC 7 [0,1,4,5,6,7,8,67] ?_
           refine kB 67 h10397 (fun h10399 => ?_) (fun h10400 => ?_)
           ·refine kC 15 [0,1,4,5,6,7,8,82] ?_
            refine kE ?_
            obtain rfl := oi h10399
            exact kN [0, 1, 4, 5, 6, 7, 8, 82]
           ·refine kC 7 [0,1,4,5,6,7,8,74] ?_
            refine kB 74 h10400 (fun h10402 => ?_) (fun h10403 => ?_)
            ·refine RJ.seg 8 [0, 1, 4, 5, 6, 7, 8, 82] (L2 := [(0, lsv (encL encSt75 4) 1 x0), (1, lsv (encL encSt75 4) 1 x1), (4, .bool false), (5, .int .i64 s5244), (6, .int .i64 s9619), (7, .ptr 0 0), (8, .ptr 1 0), (82, .bool true)]) (H2 := [.box [.int .u8 ((nth (nth x0 s5244) s9619).Op_), .int .i64 ((nth (nth x0 s5244) s9619).Mod_), .bool ((nth (nth x0 s5244) s9619).Not_), lsv encSt80 2 ((nth (nth x0 s5244) s9619).R_)], .box [.int .u8 ((nth (nth x1 s5244) s9619).Op_), .int .i64 ((nth (nth x1 s5244) s9619).Mod_), .bool ((nth (nth x1 s5244) s9619).Not_), lsv encSt80 2 ((nth (nth x1 s5244) s9619).R_)]]) (by kernel_rfl) ?_
             refine kE ?_
             obtain rfl := oi h10402
             exact kN [0, 1, 4, 5, 6, 7, 8, 82]
            ·refine RJ.seg 8 [0, 1, 4, 5, 6, 7, 8, 82] (L2 := [(0, lsv (encL encSt75 4) 1 x0), (1, lsv (encL encSt75 4) 1 x1), (4, .bool false), (5, .int .i64 s5244), (6, .int .i64 s9619), (7, .ptr 0 0), (8, .ptr 1 0), (82, .bool ((decide (¬ ((((nth (nth x0 s5244) s9619).R_).length : Int)) = ((((nth (nth x1 s5244) s9619).R_).length : Int))))))]) (H2 := [.box [.int .u8 ((nth (nth x0 s5244) s9619).Op_), .int .i64 ((nth (nth x0 s5244) s9619).Mod_), .bool ((nth (nth x0 s5244) s9619).Not_), lsv encSt80 2 ((nth (nth x0 s5244) s9619).R_)], .box [.int .u8 ((nth (nth x1 s5244) s9619).Op_), .int .i64 ((nth (nth x1 s5244) s9619).Mod_), .bool ((nth (nth x1 s5244) s9619).Not_), lsv encSt80 2 ((nth (nth x1 s5244) s9619).R_)]]) (by kernel_rfl) ?_
             refine kE ?_
             obtain rfl := oi h10403
             exact kN [0, 1, 4, 5, 6, 7, 8, 82]
         ·refine kBJ 82 h10394 (fun h10405 => ?_) (fun h10406 => ?_)
          ·refine kT ?_
           refine kSR ?_
           refine kC 1 [0,1,4,5,6,7,8] ?_
           refine kEN ?_
           refine kX ?_
           obtain rfl := oi h10405
           have h10407 := joinX_inr h10379
           refine PJ.cutXr (fun e => nomatch e) ?_
           refine PJ.blockRet ?_
           obtain rfl := oi h10407
           have h10408 := joinX_inr h10336
           refine PJ.cutXr (fun e => nomatch e) ?_
           obtain rfl := oi h10408
           refine PJ.loopOut (fun e => nomatch e) (fun he10414 => ?_)
           have h10409 := congrArg some he10414
           refine PJ.blockRet ?_
           refine PJ.blockRet ?_
           obtain rfl := oi h10409
           have h10410 := joinX_inr h9608
           refine PJ.cutXr (fun e => nomatch e) ?_
           obtain rfl := oi h10410
           refine PJ.loopOut (fun e => nomatch e) (fun he10413 => ?_)
           have h10411 := congrArg some he10413
           refine PJ.blockRet ?_
           obtain rfl := oi h10411
           have h10412 := joinX_inr h5242
           refine PJ.cutXr (fun e => nomatch e) ?_
           obtain rfl := oi h10412
           exact kZ hFn hFH hFD
          ·refine kF ?_
           refine kK ?_
           obtain rfl := oi h10406
           exact PJ.cutXl [0, 1, 4, 5, 6, 7, 8] (by kernel_rfl) (by kernel_rfl)
        ·subst hs
         have h10380 := joinX_inl h10379
         refine kSR ?_
         refine kC 1 [0,1,4,5,6,7,8,9] ?_
         refine kEN ?_
         refine K.block 4 (by kernel_rfl) ?_
         refine K.loop (by kernel_rfl) (fun (s10415 : Int) => ([(0, lsv (encL encSt75 4) 1 x0), (1, lsv (encL encSt75 4) 1 x1), (4, .bool false), (5, .int .i64 s5244), (6, .int .i64 s9619), (7, .ptr 0 0), (8, .ptr 1 0), (9, .int .i64 s10415)], [.box [.int .u8 ((nth (nth x0 s5244) s9619).Op_), .int .i64 ((nth (nth x0 s5244) s9619).Mod_), .bool ((nth (nth x0 s5244) s9619).Not_), lsv encSt80 2 ((nth (nth x0 s5244) s9619).R_)], .box [.int .u8 ((nth (nth x1 s5244) s9619).Op_), .int .i64 ((nth (nth x1 s5244) s9619).Mod_), .bool ((nth (nth x1 s5244) s9619).Not_), lsv encSt80 2 ((nth (nth x1 s5244) s9619).R_)]])) h10380 [0, 1, 4, 5, 6, 7, 8, 9] (by kernel_rfl) (by kernel_rfl) (fun s10415 x10455 hs10454 => ?_)
         refine kS ?_
         refine kSR ?_
         refine kC 5 [0,1,4,5,6,7,8,9,87] ?_
         refine kEN ?_
         refine kBJ 87 hs10454 (fun h10457 => ?_) (fun h10458 => ?_)
         ·refine kT ?_
          refine kK ?_
          refine PJ.next ?_
          refine kS ?_
          refine K.block 5 (by kernel_rfl) ?_
          refine kS ?_
          refine J.keep [0, 1, 4, 5, 6, 7, 8, 9] (L2 := [(0, lsv (encL encSt75 4) 1 x0), (1, lsv (encL encSt75 4) 1 x1), (4, .bool false), (5, .int .i64 s5244), (6, .int .i64 s9619), (7, .ptr 0 0), (8, .ptr 1 0), (9, .int .i64 s10415)]) (by kernel_rfl) ?_
          refine K.draw (by kernel_rfl) (by kernel_rfl) (by kernel_rfl) (H2 := [.box [.int .u8 ((nth (nth x0 s5244) s9619).Op_), .int .i64 ((nth (nth x0 s5244) s9619).Mod_), .bool ((nth (nth x0 s5244) s9619).Not_), lsv encSt80 2 ((nth (nth x0 s5244) s9619).R_)], .box [.int .u8 ((nth (nth x1 s5244) s9619).Op_), .int .i64 ((nth (nth x1 s5244) s9619).Mod_), .bool ((nth (nth x1 s5244) s9619).Not_), lsv encSt80 2 ((nth (nth x1 s5244) s9619).R_)]]) (by kernel_rfl) (n := 2) (by kernel_rfl) ?_
          refine kD 3 ?_
          obtain ⟨hm, h10459⟩ := asrt h10457
          refine RJ.rel (d := (some 93)) (ef := ⟨.ep (((((nth (nth x0 s5244) s9619).R_).flatMap encSt80).drop ((s10415 : Int).toNat * 2)).take 2), [], []⟩) (ef' := ⟨.ep (encSt80 (nth ((nth (nth x0 s5244) s9619).R_) s10415)), [], []⟩) (c := inR s10415 ((nth (nth x0 s5244) s9619).R_).length) (tr2 := [([], []), ([0, 1], []), ([], []), ([], [])]) (H2 := [.box [.int .u8 ((nth (nth x0 s5244) s9619).Op_), .int .i64 ((nth (nth x0 s5244) s9619).Mod_), .bool ((nth (nth x0 s5244) s9619).Not_), lsv encSt80 2 ((nth (nth x0 s5244) s9619).R_)], .box [.int .u8 ((nth (nth x1 s5244) s9619).Op_), .int .i64 ((nth (nth x1 s5244) s9619).Mod_), .bool ((nth (nth x1 s5244) s9619).Not_), lsv encSt80 2 ((nth (nth x1 s5244) s9619).R_)]]) (by kernel_rfl) hm (fun hc => N.idx encSt80_len hc) (by kernel_rfl) ?_
          refine kD 4 ?_
          obtain ⟨hm, h10460⟩ := asrt h10459
          refine RJ.rel (d := (some 98)) (ef := ⟨.ep (((((nth (nth x1 s5244) s9619).R_).flatMap encSt80).drop ((s10415 : Int).toNat * 2)).take 2), [], []⟩) (ef' := ⟨.ep (encSt80 (nth ((nth (nth x1 s5244) s9619).R_) s10415)), [], []⟩) (c := inR s10415 ((nth (nth x1 s5244) s9619).R_).length) (tr2 := [([], []), ([0, 1], []), ([], []), ([], []), ([], []), ([], []), ([2, 3], []), ([], []), ([], [])]) (H2 := [.box [.int .u8 ((nth (nth x0 s5244) s9619).Op_), .int .i64 ((nth (nth x0 s5244) s9619).Mod_), .bool ((nth (nth x0 s5244) s9619).Not_), lsv encSt80 2 ((nth (nth x0 s5244) s9619).R_)], .box [.int .u8 ((nth (nth x1 s5244) s9619).Op_), .int .i64 ((nth (nth x1 s5244) s9619).Mod_), .bool ((nth (nth x1 s5244) s9619).Not_), lsv encSt80 2 ((nth (nth x1 s5244) s9619).R_)]]) (by kernel_rfl) hm (fun hc => N.idx encSt80_len hc) (by kernel_rfl) ?_
          refine RJ.segD 2 (tr2 := [([], []), ([0, 1], []), ([], []), ([], []), ([], []), ([], []), ([2, 3], []), ([], []), ([], []), ([], []), ([], [])]) (L2 := [(100, .bool ((!((decide (((nth ((nth (nth x0 s5244) s9619).R_) s10415).a0_) = ((nth ((nth (nth x1 s5244) s9619).R_) s10415).a0_))) && ((decide (((nth ((nth (nth x0 s5244) s9619).R_) s10415).a1_) = ((nth ((nth (nth x1 s5244) s9619).R_) s10415).a1_))) && true))))), (99, .agg [.int .i64 ((nth ((nth (nth x1 s5244) s9619).R_) s10415).a0_), .int .i64 ((nth ((nth (nth x1 s5244) s9619).R_) s10415).a1_)]), (98, .ep [.int .i64 ((nth ((nth (nth x1 s5244) s9619).R_) s10415).a0_), .int .i64 ((nth ((nth (nth x1 s5244) s9619).R_) s10415).a1_)]), (97, .int .i64 s10415), (96, lsv encSt80 2 ((nth (nth x1 s5244) s9619).R_)), (95, .ptr 1 3), (94, .agg [.int .i64 ((nth ((nth (nth x0 s5244) s9619).R_) s10415).a0_), .int .i64 ((nth ((nth (nth x0 s5244) s9619).R_) s10415).a1_)]), (93, .ep [.int .i64 ((nth ((nth (nth x0 s5244) s9619).R_) s10415).a0_), .int .i64 ((nth ((nth (nth x0 s5244) s9619).R_) s10415).a1_)]), (92, .int .i64 s10415), (91, lsv encSt80 2 ((nth (nth x0 s5244) s9619).R_)), (90, .ptr 0 3), (0, lsv (encL encSt75 4) 1 x0), (1, lsv (encL encSt75 4) 1 x1), (4, .bool false), (5, .int .i64 s5244), (6, .int .i64 s9619), (7, .ptr 0 0), (8, .ptr 1 0), (9, .int .i64 s10415)]) (H2 := [.box [.int .u8 ((nth (nth x0 s5244) s9619).Op_), .int .i64 ((nth (nth x0 s5244) s9619).Mod_), .bool ((nth (nth x0 s5244) s9619).Not_), lsv encSt80 2 ((nth (nth x0 s5244) s9619).R_)], .box [.int .u8 ((nth (nth x1 s5244) s9619).Op_), .int .i64 ((nth (nth x1 s5244) s9619).Mod_), .bool ((nth (nth x1 s5244) s9619).Not_), lsv encSt80 2 ((nth (nth x1 s5244) s9619).R_)]]) (by kernel_rfl) ?_
          refine kEN ?_
          refine kBJ 100 h10460 (fun h10462 => ?_) (fun h10463 => ?_)
          ·refine kT ?_
           refine kSR ?_
           refine kC 1 [0,1,4,5,6,7,8,9] ?_
           refine kEN ?_
           refine kX ?_
           refine PJ.blockRet ?_
           refine PJ.passRet ?_
           obtain rfl := oi h10462
           refine PJ.loopOut (fun e => nomatch e) (fun he10472 => ?_)
           have h10464 := congrArg some he10472
           refine PJ.blockRet ?_
           refine PJ.blockRet ?_
           obtain rfl := oi h10464
           have h10465 := joinX_inr h10336
           refine PJ.cutXr (fun e => nomatch e) ?_
           obtain rfl := oi h10465
           refine PJ.loopOut (fun e => nomatch e) (fun he10471 => ?_)
           have h10466 := congrArg some he10471
           refine PJ.blockRet ?_
           refine PJ.blockRet ?_
           obtain rfl := oi h10466
           have h10467 := joinX_inr h9608
           refine PJ.cutXr (fun e => nomatch e) ?_
           obtain rfl := oi h10467
           refine PJ.loopOut (fun e => nomatch e) (fun he10470 => ?_)
           have h10468 := congrArg some he10470
           refine PJ.blockRet ?_
           obtain rfl := oi h10468
           have h10469 := joinX_inr h5242
           refine PJ.cutXr (fun e => nomatch e) ?_
           obtain rfl := oi h10469
           exact kZ hFn hFH hFD
          ·refine kF ?_
           refine kK ?_
           refine PJ.blockNormal ?_
           refine PJ.next ?_
           refine kR ?_
           refine kC 3 [0,1,4,5,6,7,8,9] ?_
           refine kE ?_
           obtain rfl := oi h10463
           exact PJ.loopNext [0, 1, 4, 5, 6, 7, 8, 9] (by kernel_rfl) (by kernel_rfl)
         ·refine kF ?_
          refine K.exit 4 (by kernel_rfl) ?_
          refine PJ.passExit ?_
          obtain rfl := oi h10458
          refine PJ.loopOut (fun e => nomatch e) (fun he10474 => ?_)
          have h10473 := congrArg some he10474
          refine PJ.blockOut ?_
          refine PJ.blockNormal ?_
          obtain rfl := oi h10473
          refine PJ.wk (Wk.sel (L2 := [(0, lsv (encL encSt75 4) 1 x0), (1, lsv (encL encSt75 4) 1 x1), (4, .bool false), (5, .int .i64 s5244), (6, .int .i64 s9619)]) (H2 := []) 0 (by rw [hFH]; rfl) hFD [] (by kernel_rfl) (by kernel_rfl) (by decide) (by kernel_rfl) (by kernel_rfl) (by kernel_rfl) (by kernel_rfl)) ?_
          exact PJ.cutXl [0, 1, 4, 5, 6] (by kernel_rfl) (by kernel_rfl)
       ·subst hs
        have h10337 := joinX_inl h10336
        refine kR ?_
        refine kC 3 [0,1,4,5,6] ?_
        refine kE ?_
        obtain rfl := oi h10337
        exact PJ.loopNext [0, 1, 4, 5, 6] (by kernel_rfl) (by kernel_rfl)
      ·refine kF ?_
       refine K.exit 2 (by kernel_rfl) ?_
       refine PJ.passExit ?_
       obtain rfl := oi h10195
       refine PJ.loopOut (fun e => nomatch e) (fun he10476 => ?_)
       have h10475 := congrArg some he10476
       refine PJ.blockOut ?_
       refine PJ.blockNormal ?_
       obtain rfl := oi h10475
       exact PJ.cutXl [0, 1, 4, 5] (by kernel_rfl) (by kernel_rfl)
    ·subst hs
     have h9609 := joinX_inl h9608
     refine kR ?_
     refine kC 3 [0,1,4,5] ?_
     refine kE ?_
     obtain rfl := oi h9609
     exact PJ.loopNext [0, 1, 4, 5] (by kernel_rfl) (by kernel_rfl)
   ·refine kF ?_
    refine K.exit 0 (by kernel_rfl) ?_
    refine PJ.passExit ?_
    obtain rfl := oi h8737
    refine PJ.loopOut (fun e => nomatch e) (fun he10478 => ?_)
    have h10477 := congrArg some he10478
    refine PJ.blockOut ?_
    obtain rfl := oi h10477
    exact PJ.cutXl [4] (by kernel_rfl) (by kernel_rfl)
  ·subst hs
   have h5243 := joinX_inl h5242
   refine kSR ?_
   refine kC 1 [4] ?_
   refine kEN ?_
   refine kX ?_
   obtain rfl := oi h5243
   exact kZ hFn hFH hFD
def exergueref11_Right (x0 : List (List St75)) : Option (Bool) :=
 (Option.bind (exergueref11_Text x0) fun y1 => (Option.bind (exergueref11_Parse y1) fun y4 => (Option.bind (bif (decide (y4.2.2 = 0)) then (Option.bind (exergueref11_Same x0 y4.1) fun y21 => (some y21)) else (some false)) fun (s13 : Bool) => (some s13))))
theorem exergueref11_Right_ok {x0 : List (List St75)} {r : Bool} (h : exergueref11_Right x0 = some r) : SC Tryz.prog 27 [lsv (encL encSt75 4) 1 x0] [] (.bool r) [] := by
 refine kFn (fn := Tryz.f27) (fun F hFn hFH hFD => ?_)
 unfold exergueref11_Right at h
 refine kSR ?_
 refine kC 1 [0,2] ?_
 refine kEN ?_
 refine kSR ?_
 refine kC 1 [0,2,7] ?_
 obtain ⟨y1, hy2, h3⟩ := bindS h
 refine kA 8 (exergueref11_Text_ok hy2) ?_
 obtain ⟨y4, hy5, h6⟩ := bindS h3
 refine kA 9 (exergueref11_Parse_ok hy5) ?_
 refine kC 7 [0,2,3,5] ?_
 refine kEN ?_
 obtain ⟨s13, hy15, h17⟩ := bindS h6
 refine K.cutN (by kernel_rfl) (fun (s13 : Bool) => ([(2, .bool s13)], [])) s13 ?_ ?_
 ·refine kR ?_
  refine RJ.seg 3 [0, 2, 3, 15] (L2 := [(0, lsv (encL encSt75 4) 1 x0), (2, .bool false), (3, lsv (encL encSt75 4) 1 y4.1), (15, .bool (decide (y4.2.2 = 0)))]) (H2 := []) (by kernel_rfl) ?_
  refine kB 15 hy15 (fun h19 => ?_) (fun h20 => ?_)
  ·refine kC 2 [2,15,16,17] ?_
   obtain ⟨y21, hy22, h23⟩ := bindS h19
   refine kA 18 (exergueref11_Same_ok hy22) ?_
   refine kC 2 [2] ?_
   refine kE ?_
   obtain rfl := oi h23
   exact kN [2]
  ·refine kC 5 [2] ?_
   refine kE ?_
   obtain rfl := oi h20
   exact kN [2]
 ·refine kX ?_
  obtain rfl := oi h17
  exact kZ hFn hFH hFD
def exergueref12_Read (x0 : List St49) : Option ((List St46) × Int × Int) :=
 (Option.bind (loopN (fun (s849 : Int × (List St46)) => (bif (decide (s849.1 < (x0.length : Int))) then (Option.bind (Option.bind (Option.bind (bif inR s849.1 x0.length then (bif (decide (((nth x0 s849.1).Cat_) < 1)) then (some true) else (bif inR s849.1 x0.length then (bif (decide (((nth x0 s849.1).Cat_) > 5)) then (some true) else (bif (decide (s849.1 > 0)) then (bif inR s849.1 x0.length then (bif inR (IntKind.wrap .i64 (s849.1 - 1)) x0.length then (some ((decide (((nth x0 s849.1).Cat_) ≤ ((nth x0 (IntKind.wrap .i64 (s849.1 - 1))).Cat_))))) else none) else none) else (some false))) else none)) else none) fun (s1612 : Bool) => (bif s1612 then (some (.inr (.inr (.inr (.inr (([] : List St46), s849.1, 1)))))) else (some (.inl ())))) (joinX fun (s1594 : Unit) => (bif inR s849.1 x0.length then (Option.bind (exergueref11_Parse ((nth x0 s849.1).Text_)) fun y1639 => (Option.bind (exergueref11_Right y1639.1) fun y1642 => (Option.bind (Option.bind (bif (decide (¬ y1639.2.2 = 0)) then (some true) else (some (!y1642))) fun (s1672 : Bool) => (bif s1672 then (some (.inr (.inr (.inr (.inr (([] : List St46), s849.1, 2)))))) else (some (.inl ())))) (joinX fun (s1664 : Unit) => (bif inR s849.1 x0.length then (bif room (s849.2.length + (([(⟨(nth x0 s849.1).Cat_, y1639.1⟩ : St46)] : List St46)).length) then (some (.inl ((s849.2 ++ (([(⟨(nth x0 s849.1).Cat_, y1639.1⟩ : St46)] : List St46)))))) else none) else none))))) else none))) (joinX fun (s1550 : (List St46)) => (some (.inl ((IntKind.wrap .i64 (s849.1 + 1)), s1550))))) else (some (.inr (.inl s849.2))))) big (0, ([] : List St46))) (joinX fun (s844 : (List St46)) => (some (s844, 0, 0))))
theorem exergueref12_Read_ok {x0 : List St49} {r : (List St46) × Int × Int} (h : exergueref12_Read x0 = some r) : SC Tryz.prog 10 [lsv encSt49 2 x0] [] (.tup [lsv encSt46 2 r.1, .int .i64 r.2.1, .int .i64 r.2.2]) [] := by
 refine kFn (fn := Tryz.f10) (fun F hFn hFH hFD => ?_)
 unfold exergueref12_Read at h
 refine kSR ?_
 refine kC 3 [0,2,3,4] ?_
 refine kEN ?_
 refine kSR ?_
 refine kC 1 [0,2,3,4,5] ?_
 refine kEN ?_
 obtain ⟨y845, hy846, h847⟩ := bindS h
 refine K.cutX (by kernel_rfl) (fun (s844 : (List St46)) => ([(2, .nl), (3, .int .i64 0), (4, .int .i64 0), (5, .vc 0)], [vecL encSt46 2 47 s844])) y845 ?_ (fun s844 hs => ?_)
 ·refine kSR ?_
  refine kC 1 [0,2,3,4,5,6] ?_
  refine kEN ?_
  refine K.block 0 (by kernel_rfl) ?_
  refine J.wk (Wk.viv 5 2 47 (by kernel_rfl)) ?_
  refine K.loop (by kernel_rfl) (fun (s849 : Int × (List St46)) => ([(0, lsv encSt49 2 x0), (2, .nl), (3, .int .i64 0), (4, .int .i64 0), (5, .vc 0), (6, .int .i64 s849.1)], [vecL encSt46 2 47 s849.2])) hy846 [0, 2, 3, 4, 5, 6] (by kernel_rfl) (by kernel_rfl) (fun s849 x1411 hs1410 => ?_)
  refine kS ?_
  refine kSR ?_
  refine kC 4 [0,2,3,4,5,6,14] ?_
  refine kEN ?_
  refine kBJ 14 hs1410 (fun h1413 => ?_) (fun h1414 => ?_)
  ·refine kT ?_
   refine kK ?_
   refine PJ.next ?_
   obtain ⟨y1551, hy1552, h1553⟩ := bindS h1413
   refine K.cutX (by kernel_rfl) (fun (s1550 : (List St46)) => ([(0, lsv encSt49 2 x0), (2, .nl), (3, .int .i64 0), (4, .int .i64 0), (5, .vc 0), (6, .int .i64 s849.1)], [vecL encSt46 2 47 s1550])) y1551 ?_ (fun s1550 hs => ?_)
   ·refine K.block 1 (by kernel_rfl) ?_
    obtain ⟨y1595, hy1596, h1597⟩ := bindS hy1552
    refine K.cutX (by kernel_rfl) (fun (s1594 : Unit) => ([(0, lsv encSt49 2 x0), (2, .nl), (3, .int .i64 0), (4, .int .i64 0), (5, .vc 0), (6, .int .i64 s849.1)], [vecL encSt46 2 47 s849.2])) y1595 ?_ (fun s1594 hs => ?_)
    ·obtain ⟨s1612, hy1614, h1616⟩ := bindS hy1596
     refine K.cutN (by kernel_rfl) (fun (s1612 : Bool) => ([(0, lsv encSt49 2 x0), (2, .nl), (3, .int .i64 0), (4, .int .i64 0), (5, .vc 0), (6, .int .i64 s849.1), (48, .bool s1612)], [vecL encSt46 2 47 s849.2])) s1612 ?_ ?_
     ·refine J.keep [0, 2, 3, 4, 5, 6] (L2 := [(0, lsv encSt49 2 x0), (2, .nl), (3, .int .i64 0), (4, .int .i64 0), (5, .vc 0), (6, .int .i64 s849.1)]) (by kernel_rfl) ?_
      refine K.draw (by kernel_rfl) (by kernel_rfl) (by kernel_rfl) (H2 := [vecL encSt46 2 47 s849.2]) (by kernel_rfl) (n := 1) (by kernel_rfl) ?_
      refine kD 2 ?_
      obtain ⟨hm, h1617⟩ := asrt hy1614
      refine RJ.rel (d := (some 19)) (ef := ⟨.ep (((x0.flatMap encSt49).drop ((s849.1 : Int).toNat * 2)).take 2), [], []⟩) (ef' := ⟨.ep (encSt49 (nth x0 s849.1)), [], []⟩) (c := inR s849.1 x0.length) (tr2 := [([], []), ([], []), ([], [])]) (H2 := [vecL encSt46 2 47 s849.2]) (by kernel_rfl) hm (fun hc => N.idx encSt49_len hc) (by kernel_rfl) ?_
      refine kD 4 ?_
      refine kB 23 h1617 (fun h1619 => ?_) (fun h1620 => ?_)
      ·refine RJ.segD 25 (tr2 := [([], []), ([], []), ([], []), ([], []), ([], []), ([], []), ([], []), ([], []), ([], []), ([], []), ([], []), ([], []), ([], []), ([], []), ([], []), ([], []), ([], []), ([], []), ([], []), ([], []), ([], []), ([], []), ([], []), ([], []), ([], []), ([], []), ([], []), ([], []), ([], []), ([], []), ([], []), ([], [])]) (L2 := [(48, .bool true), (47, .tup []), (46, .tup []), (45, .tup []), (44, .tup []), (43, .tup []), (42, .tup []), (41, .tup []), (40, .tup []), (39, .tup []), (38, .tup []), (37, .tup []), (36, .tup []), (35, .tup []), (34, .tup []), (33, .tup []), (32, .tup []), (31, .bool true), (30, .bool true), (29, .tup []), (28, .tup []), (27, .tup []), (26, .tup []), (25, .tup []), (24, .tup []), (23, .bool true), (23, .bool ((decide (((nth x0 s849.1).Cat_) < 1)))), (22, .bool ((decide (((nth x0 s849.1).Cat_) < 1)))), (21, .int .i64 ((nth x0 s849.1).Cat_)), (20, .ep [.int .i64 ((nth x0 s849.1).Cat_), .str ((nth x0 s849.1).Text_)]), (19, .ep [.int .i64 ((nth x0 s849.1).Cat_), .str ((nth x0 s849.1).Text_)]), (18, .int .i64 s849.1), (17, lsv encSt49 2 x0), (0, lsv encSt49 2 x0), (2, .nl), (3, .int .i64 0), (4, .int .i64 0), (5, .vc 0), (6, .int .i64 s849.1)]) (H2 := [vecL encSt46 2 47 s849.2]) (by kernel_rfl) ?_
       refine kE ?_
       obtain rfl := oi h1619
       exact kN [0, 2, 3, 4, 5, 6, 48]
      ·refine RJ.segD 2 (tr2 := [([], []), ([], []), ([], []), ([], []), ([], []), ([], []), ([], []), ([], []), ([], [])]) (L2 := [(25, .int .i64 s849.1), (24, lsv encSt49 2 x0), (23, .bool false), (23, .bool ((decide (((nth x0 s849.1).Cat_) < 1)))), (22, .bool ((decide (((nth x0 s849.1).Cat_) < 1)))), (21, .int .i64 ((nth x0 s849.1).Cat_)), (20, .ep [.int .i64 ((nth x0 s849.1).Cat_), .str ((nth x0 s849.1).Text_)]), (19, .ep [.int .i64 ((nth x0 s849.1).Cat_), .str ((nth x0 s849.1).Text_)]), (18, .int .i64 s849.1), (17, lsv encSt49 2 x0), (0, lsv encSt49 2 x0), (2, .nl), (3, .int .i64 0), (4, .int .i64 0), (5, .vc 0), (6, .int .i64 s849.1)]) (H2 := [vecL encSt46 2 47 s849.2]) (by kernel_rfl) ?_
       obtain ⟨hm, h1621⟩ := asrt h1620
       refine RJ.rel (d := (some 26)) (ef := ⟨.ep (((x0.flatMap encSt49).drop ((s849.1 : Int).toNat * 2)).take 2), [], []⟩) (ef' := ⟨.ep (encSt49 (nth x0 s849.1)), [], []⟩) (c := inR s849.1 x0.length) (tr2 := [([], []), ([], []), ([], []), ([], []), ([], []), ([], []), ([], []), ([], []), ([], []), ([], [])]) (H2 := [vecL encSt46 2 47 s849.2]) (by kernel_rfl) hm (fun hc => N.idx encSt49_len hc) (by kernel_rfl) ?_
       refine kD 5 ?_
       refine kB 31 h1621 (fun h1623 => ?_) (fun h1624 => ?_)
       ·refine kD 17 ?_
        refine kE ?_
        obtain rfl := oi h1623
        exact kN [0, 2, 3, 4, 5, 6, 48]
       ·refine kD 3 ?_
        refine kB 34 h1624 (fun h1626 => ?_) (fun h1627 => ?_)
        ·refine kD 2 ?_
         obtain ⟨hm, h1628⟩ := asrt h1626
         refine RJ.rel (d := (some 37)) (ef := ⟨.ep (((x0.flatMap encSt49).drop ((s849.1 : Int).toNat * 2)).take 2), [], []⟩) (ef' := ⟨.ep (encSt49 (nth x0 s849.1)), [], []⟩) (c := inR s849.1 x0.length) (tr2 := [([], []), ([], []), ([], []), ([], []), ([], []), ([], []), ([], []), ([], []), ([], []), ([], []), ([], []), ([], []), ([], []), ([], []), ([], []), ([], []), ([], []), ([], []), ([], []), ([], []), ([], [])]) (H2 := [vecL encSt46 2 47 s849.2]) (by kernel_rfl) hm (fun hc => N.idx encSt49_len hc) (by kernel_rfl) ?_
         refine RJ.segD 5 (tr2 := [([], []), ([], []), ([], []), ([], []), ([], []), ([], []), ([], []), ([], []), ([], []), ([], []), ([], []), ([], []), ([], []), ([], []), ([], []), ([], []), ([], []), ([], []), ([], []), ([], []), ([], []), ([], []), ([], []), ([], []), ([], []), ([], [])]) (L2 := [(42, .int .i64 (IntKind.wrap .i64 (s849.1 - 1))), (41, .int .i64 s849.1), (40, lsv encSt49 2 x0), (39, .int .i64 ((nth x0 s849.1).Cat_)), (38, .ep [.int .i64 ((nth x0 s849.1).Cat_), .str ((nth x0 s849.1).Text_)]), (37, .ep [.int .i64 ((nth x0 s849.1).Cat_), .str ((nth x0 s849.1).Text_)]), (36, .int .i64 s849.1), (35, lsv encSt49 2 x0), (34, .bool true), (34, .bool (decide (s849.1 > 0))), (33, .bool (decide (s849.1 > 0))), (32, .int .i64 s849.1), (31, .bool false), (31, .bool ((decide (((nth x0 s849.1).Cat_) > 5)))), (30, .bool ((decide (((nth x0 s849.1).Cat_) > 5)))), (29, .bool ((decide (((nth x0 s849.1).Cat_) > 5)))), (28, .int .i64 ((nth x0 s849.1).Cat_)), (27, .ep [.int .i64 ((nth x0 s849.1).Cat_), .str ((nth x0 s849.1).Text_)]), (26, .ep [.int .i64 ((nth x0 s849.1).Cat_), .str ((nth x0 s849.1).Text_)]), (25, .int .i64 s849.1), (24, lsv encSt49 2 x0), (23, .bool false), (23, .bool ((decide (((nth x0 s849.1).Cat_) < 1)))), (22, .bool ((decide (((nth x0 s849.1).Cat_) < 1)))), (21, .int .i64 ((nth x0 s849.1).Cat_)), (20, .ep [.int .i64 ((nth x0 s849.1).Cat_), .str ((nth x0 s849.1).Text_)]), (19, .ep [.int .i64 ((nth x0 s849.1).Cat_), .str ((nth x0 s849.1).Text_)]), (18, .int .i64 s849.1), (17, lsv encSt49 2 x0), (0, lsv encSt49 2 x0), (2, .nl), (3, .int .i64 0), (4, .int .i64 0), (5, .vc 0), (6, .int .i64 s849.1)]) (H2 := [vecL encSt46 2 47 s849.2]) (by kernel_rfl) ?_
         obtain ⟨hm, h1629⟩ := asrt h1628
         refine RJ.rel (d := (some 43)) (ef := ⟨.ep (((x0.flatMap encSt49).drop (((IntKind.wrap .i64 (s849.1 - 1)) : Int).toNat * 2)).take 2), [], []⟩) (ef' := ⟨.ep (encSt49 (nth x0 (IntKind.wrap .i64 (s849.1 - 1)))), [], []⟩) (c := inR (IntKind.wrap .i64 (s849.1 - 1)) x0.length) (tr2 := [([], []), ([], []), ([], []), ([], []), ([], []), ([], []), ([], []), ([], []), ([], []), ([], []), ([], []), ([], []), ([], []), ([], []), ([], []), ([], []), ([], []), ([], []), ([], []), ([], []), ([], []), ([], []), ([], []), ([], []), ([], []), ([], []), ([], [])]) (H2 := [vecL encSt46 2 47 s849.2]) (by kernel_rfl) hm (fun hc => N.idx encSt49_len hc) (by kernel_rfl) ?_
         refine kD 5 ?_
         refine kE ?_
         obtain rfl := oi h1629
         exact kN [0, 2, 3, 4, 5, 6, 48]
        ·refine kD 14 ?_
         refine kE ?_
         obtain rfl := oi h1627
         exact kN [0, 2, 3, 4, 5, 6, 48]
     ·refine kBJ 48 h1616 (fun h1631 => ?_) (fun h1632 => ?_)
      ·refine kT ?_
       refine kSR ?_
       refine kC 4 [0,2,3,4,5,6] ?_
       refine kEN ?_
       refine kX ?_
       obtain rfl := oi h1631
       have h1633 := joinX_inr h1597
       refine PJ.cutXr (fun e => nomatch e) ?_
       refine PJ.blockRet ?_
       obtain rfl := oi h1633
       have h1634 := joinX_inr h1553
       refine PJ.cutXr (fun e => nomatch e) ?_
       obtain rfl := oi h1634
       refine PJ.loopOut (fun e => nomatch e) (fun he1637 => ?_)
       have h1635 := congrArg some he1637
       refine PJ.blockRet ?_
       obtain rfl := oi h1635
       have h1636 := joinX_inr h847
       refine PJ.cutXr (fun e => nomatch e) ?_
       obtain rfl := oi h1636
       refine PJ.res (v1 := .tup [.nl, .int .i64 s849.1, .int .i64 1]) (Le.tup (.cons (Le.nl _) (.cons (Le.refl _) (.cons (Le.refl _) .nil)))) ?_
       exact kZ hFn hFH hFD
      ·refine kF ?_
       refine kK ?_
       obtain rfl := oi h1632
       exact PJ.cutXl [0, 2, 3, 4, 5, 6] (by kernel_rfl) (by kernel_rfl)
    ·subst hs
     have h1598 := joinX_inl h1597
     refine kSR ?_
     refine kC 2 [0,2,3,4,5,6,51,52] ?_
     obtain ⟨hm, h1638⟩ := asrt h1598
     refine kI 53 encSt49_len hm ?_
     refine kC 2 [0,2,3,4,5,6,55] ?_
     obtain ⟨y1639, hy1640, h1641⟩ := bindS h1638
     refine kA 56 (exergueref11_Parse_ok hy1640) ?_
     refine kC 7 [0,2,3,4,5,6,7,9] ?_
     refine kEN ?_
     refine kSR ?_
     refine RJ.seg 1 [0, 2, 3, 4, 5, 6, 7, 9, 60] (L2 := [(0, lsv encSt49 2 x0), (2, .nl), (3, .int .i64 0), (4, .int .i64 0), (5, .vc 0), (6, .int .i64 s849.1), (7, lsv (encL encSt75 4) 1 y1639.1), (9, .int .i64 y1639.2.2), (60, lsv (encL encSt75 4) 1 y1639.1)]) (H2 := [vecL encSt46 2 47 s849.2]) (by kernel_rfl) ?_
     obtain ⟨y1642, hy1643, h1644⟩ := bindS h1641
     refine kA 61 (exergueref11_Right_ok hy1643) ?_
     refine kC 1 [0,2,3,4,5,6,7,9,10] ?_
     refine kEN ?_
     obtain ⟨y1665, hy1666, h1667⟩ := bindS h1644
     refine K.cutX (by kernel_rfl) (fun (s1664 : Unit) => ([(0, lsv encSt49 2 x0), (2, .nl), (3, .int .i64 0), (4, .int .i64 0), (5, .vc 0), (6, .int .i64 s849.1), (7, lsv (encL encSt75 4) 1 y1639.1)], [vecL encSt46 2 47 s849.2])) y1665 ?_ (fun s1664 hs => ?_)
     ·obtain ⟨s1672, hy1674, h1676⟩ := bindS hy1666
      refine K.cutN (by kernel_rfl) (fun (s1672 : Bool) => ([(0, lsv encSt49 2 x0), (2, .nl), (3, .int .i64 0), (4, .int .i64 0), (5, .vc 0), (6, .int .i64 s849.1), (7, lsv (encL encSt75 4) 1 y1639.1), (67, .bool s1672)], [vecL encSt46 2 47 s849.2])) s1672 ?_ ?_
      ·refine kR ?_
       refine kC 3 [0,2,3,4,5,6,7,10,64] ?_
       refine kB 64 hy1674 (fun h1678 => ?_) (fun h1679 => ?_)
       ·refine kC 3 [0,2,3,4,5,6,7,67] ?_
        refine kE ?_
        obtain rfl := oi h1678
        exact kN [0, 2, 3, 4, 5, 6, 7, 67]
       ·refine kC 3 [0,2,3,4,5,6,7,67] ?_
        refine kE ?_
        obtain rfl := oi h1679
        exact kN [0, 2, 3, 4, 5, 6, 7, 67]
      ·refine kBJ 67 h1676 (fun h1681 => ?_) (fun h1682 => ?_)
       ·refine kT ?_
        refine kSR ?_
        refine kC 4 [0,2,3,4,5,6,7] ?_
        refine kEN ?_
        refine kX ?_
        obtain rfl := oi h1681
        have h1683 := joinX_inr h1667
        refine PJ.cutXr (fun e => nomatch e) ?_
        refine PJ.blockRet ?_
        obtain rfl := oi h1683
        have h1684 := joinX_inr h1553
        refine PJ.cutXr (fun e => nomatch e) ?_
        obtain rfl := oi h1684
        refine PJ.loopOut (fun e => nomatch e) (fun he1687 => ?_)
        have h1685 := congrArg some he1687
        refine PJ.blockRet ?_
        obtain rfl := oi h1685
        have h1686 := joinX_inr h847
        refine PJ.cutXr (fun e => nomatch e) ?_
        obtain rfl := oi h1686
        refine PJ.res (v1 := .tup [.nl, .int .i64 s849.1, .int .i64 2]) (Le.tup (.cons (Le.nl _) (.cons (Le.refl _) (.cons (Le.refl _) .nil)))) ?_
        exact kZ hFn hFH hFD
       ·refine kF ?_
        refine kK ?_
        obtain rfl := oi h1682
        exact PJ.cutXl [0, 2, 3, 4, 5, 6, 7] (by kernel_rfl) (by kernel_rfl)
     ·subst hs
      have h1668 := joinX_inl h1667
      refine kR ?_
      refine kC 3 [0,2,3,4,5,6,7,69,70,71] ?_
      obtain ⟨hm, h1688⟩ := asrt h1668
      refine kI 72 encSt49_len hm ?_
      refine kC 5 [0,2,3,4,5,6,69,77] ?_
      obtain ⟨hm, h1689⟩ := asrt h1688
      refine RJ.rel (d := (some 78)) (ef := ⟨.vc 2, [0, 1], [(0, .gone), (2, .vec (s849.2.length + (([(⟨(nth x0 s849.1).Cat_, y1639.1⟩ : St46)] : List St46)).length) 2 47 (s849.2.flatMap encSt46 ++ (([(⟨(nth x0 s849.1).Cat_, y1639.1⟩ : St46)] : List St46)).flatMap encSt46))]⟩) (ef' := ⟨.vc 2, [0, 1], [(0, .gone), (2, vecL encSt46 2 47 (s849.2 ++ (([(⟨(nth x0 s849.1).Cat_, y1639.1⟩ : St46)] : List St46))))]⟩) (c := room (s849.2.length + (([(⟨(nth x0 s849.1).Cat_, y1639.1⟩ : St46)] : List St46)).length)) (tr2 := []) (H2 := [.gone, vecL encSt46 2 47 (([(⟨(nth x0 s849.1).Cat_, y1639.1⟩ : St46)] : List St46)), vecL encSt46 2 47 ((s849.2 ++ (([(⟨(nth x0 s849.1).Cat_, y1639.1⟩ : St46)] : List St46))))]) (by kernel_rfl) hm (fun hc => N.app) (by kernel_rfl) ?_
      refine kC 1 [0,2,3,4,5,6] ?_
      refine kE ?_
      refine PJ.blockNormal ?_
      obtain rfl := oi h1689
      refine PJ.wk (Wk.sel (L2 := [(0, lsv encSt49 2 x0), (2, .nl), (3, .int .i64 0), (4, .int .i64 0), (5, .vc 0), (6, .int .i64 s849.1)]) (H2 := [vecL encSt46 2 47 ((s849.2 ++ (([(⟨(nth x0 s849.1).Cat_, y1639.1⟩ : St46)] : List St46))))]) 0 (by rw [hFH]; rfl) hFD [2] (by kernel_rfl) (by kernel_rfl) (by decide) (by kernel_rfl) (by kernel_rfl) (by kernel_rfl) (by kernel_rfl)) ?_
      exact PJ.cutXl [0, 2, 3, 4, 5, 6] (by kernel_rfl) (by kernel_rfl)
   ·subst hs
    have h1554 := joinX_inl h1553
    refine kR ?_
    refine kC 3 [0,2,3,4,5,6] ?_
    refine kE ?_
    obtain rfl := oi h1554
    exact PJ.loopNext [0, 2, 3, 4, 5, 6] (by kernel_rfl) (by kernel_rfl)
  ·refine kF ?_
   refine K.exit 0 (by kernel_rfl) ?_
   refine PJ.passExit ?_
   obtain rfl := oi h1414
   refine PJ.loopOut (fun e => nomatch e) (fun he1691 => ?_)
   have h1690 := congrArg some he1691
   refine PJ.blockOut ?_
   obtain rfl := oi h1690
   exact PJ.cutXl [2, 3, 4, 5] (by kernel_rfl) (by kernel_rfl)
 ·subst hs
  have h848 := joinX_inl h847
  refine kSR ?_
  refine kC 4 [2,3,4] ?_
  refine kEN ?_
  refine kX ?_
  obtain rfl := oi h848
  refine PJ.wk (Wk.freeze 0 (n := s844.length) (k := 2) (e := 47) (cs := s844.flatMap encSt46) (by kernel_rfl)) ?_
  exact kZ hFn hFH hFD
def exergueref12_Same (x0 : List St46) (x1 : List St46) : Option (Bool) :=
 (bif (decide (¬ (x0.length : Int) = (x1.length : Int))) then (some false) else (Option.bind (loopN (fun (s204 : Int) => (bif (decide (s204 < (x0.length : Int))) then (Option.bind (bif inR s204 x0.length then (bif inR s204 x1.length then (Option.bind (exergueref11_Same ((nth x0 s204).C_) ((nth x1 s204).C_)) fun y372 => (Option.bind (bif (!y372) then (some true) else (bif inR s204 x0.length then (bif inR s204 x1.length then (some ((decide (¬ ((nth x0 s204).Cat_) = ((nth x1 s204).Cat_))))) else none) else none)) fun (s380 : Bool) => (bif s380 then (some (.inr (.inr (.inr false)))) else (some (.inl ()))))) else none) else none) (joinX fun (s365 : Unit) => (some (.inl (IntKind.wrap .i64 (s204 + 1)))))) else (some (.inr (.inl ()))))) big 0) (joinX fun (s199 : Unit) => (some true))))
theorem exergueref12_Same_ok {x0 : List St46} {x1 : List St46} {r : Bool} (h : exergueref12_Same x0 x1 = some r) : SC Tryz.prog 11 [lsv encSt46 2 x0, lsv encSt46 2 x1] [] (.bool r) [] := by
 refine kFn (fn := Tryz.f11) (fun F hFn hFH hFD => ?_)
 unfold exergueref12_Same at h
 refine kSR ?_
 refine kC 1 [0,1,4] ?_
 refine kEN ?_
 refine kS ?_
 refine kSR ?_
 refine kC 5 [0,1,4,11] ?_
 refine kEN ?_
 refine kBJ 11 h (fun h2 => ?_) (fun h3 => ?_)
 ·refine kT ?_
  refine kSR ?_
  refine kC 1 [0,1,4] ?_
  refine kEN ?_
  refine kX ?_
  refine PJ.passRet ?_
  obtain rfl := oi h2
  exact kZ hFn hFH hFD
 ·refine kF ?_
  refine kK ?_
  refine PJ.next ?_
  obtain ⟨y200, hy201, h202⟩ := bindS h3
  refine K.cutX (by kernel_rfl) (fun (s199 : Unit) => ([(4, .bool false)], [])) y200 ?_ (fun s199 hs => ?_)
  ·refine kSR ?_
   refine kC 1 [0,1,4,5] ?_
   refine kEN ?_
   refine K.block 0 (by kernel_rfl) ?_
   refine K.loop (by kernel_rfl) (fun (s204 : Int) => ([(0, lsv encSt46 2 x0), (1, lsv encSt46 2 x1), (4, .bool false), (5, .int .i64 s204)], [])) hy201 [0, 1, 4, 5] (by kernel_rfl) (by kernel_rfl) (fun s204 x334 hs333 => ?_)
   refine kS ?_
   refine kSR ?_
   refine kC 4 [0,1,4,5,15] ?_
   refine kEN ?_
   refine kBJ 15 hs333 (fun h336 => ?_) (fun h337 => ?_)
   ·refine kT ?_
    refine kK ?_
    refine PJ.next ?_
    obtain ⟨y366, hy367, h368⟩ := bindS h336
    refine K.cutX (by kernel_rfl) (fun (s365 : Unit) => ([(0, lsv encSt46 2 x0), (1, lsv encSt46 2 x1), (4, .bool false), (5, .int .i64 s204)], [])) y366 ?_ (fun s365 hs => ?_)
    ·refine K.block 1 (by kernel_rfl) ?_
     refine kS ?_
     refine J.keep [0, 1, 4, 5] (L2 := [(0, lsv encSt46 2 x0), (1, lsv encSt46 2 x1), (4, .bool false), (5, .int .i64 s204)]) (by kernel_rfl) ?_
     refine K.draw (by kernel_rfl) (by kernel_rfl) (by kernel_rfl) (H2 := [.res]) (by kernel_rfl) (n := 0) (by kernel_rfl) ?_
     refine kD 2 ?_
     obtain ⟨hm, h370⟩ := asrt hy367
     refine RJ.rel (d := (some 20)) (ef := ⟨.ep (((x0.flatMap encSt46).drop ((s204 : Int).toNat * 2)).take 2), [], []⟩) (ef' := ⟨.ep (encSt46 (nth x0 s204)), [], []⟩) (c := inR s204 x0.length) (tr2 := [([], []), ([], []), ([], [])]) (H2 := [.res]) (by kernel_rfl) hm (fun hc => N.idx encSt46_len hc) (by kernel_rfl) ?_
     refine kD 4 ?_
     obtain ⟨hm, h371⟩ := asrt h370
     refine RJ.rel (d := (some 25)) (ef := ⟨.ep (((x1.flatMap encSt46).drop ((s204 : Int).toNat * 2)).take 2), [], []⟩) (ef' := ⟨.ep (encSt46 (nth x1 s204)), [], []⟩) (c := inR s204 x1.length) (tr2 := [([], []), ([], []), ([], []), ([], []), ([], []), ([], []), ([], []), ([], [])]) (H2 := [.res]) (by kernel_rfl) hm (fun hc => N.idx encSt46_len hc) (by kernel_rfl) ?_
     refine RJ.segD 2 (tr2 := [([], []), ([], []), ([], []), ([], []), ([], []), ([], []), ([], []), ([], []), ([], []), ([], [])]) (L2 := [(27, lsv (encL encSt75 4) 1 ((nth x1 s204).C_)), (26, .ep [lsv (encL encSt75 4) 1 ((nth x1 s204).C_)]), (25, .ep [.int .i64 ((nth x1 s204).Cat_), lsv (encL encSt75 4) 1 ((nth x1 s204).C_)]), (24, .int .i64 s204), (23, lsv encSt46 2 x1), (22, lsv (encL encSt75 4) 1 ((nth x0 s204).C_)), (21, .ep [lsv (encL encSt75 4) 1 ((nth x0 s204).C_)]), (20, .ep [.int .i64 ((nth x0 s204).Cat_), lsv (encL encSt75 4) 1 ((nth x0 s204).C_)]), (19, .int .i64 s204), (18, lsv encSt46 2 x0), (0, lsv encSt46 2 x0), (1, lsv encSt46 2 x1), (4, .bool false), (5, .int .i64 s204)]) (H2 := [.res]) (by kernel_rfl) ?_
     obtain ⟨y372, hy373, h374⟩ := bindS h371
     refine RJ.call0 (d := (some 28)) (f := 28) (args := [lsv (encL encSt75 4) 1 ((nth x0 s204).C_), lsv (encL encSt75 4) 1 ((nth x1 s204).C_)]) (v := .bool y372) (tr2 := [([], []), ([], []), ([], []), ([], []), ([], []), ([], []), ([], []), ([], []), ([], []), ([], []), ([], [0, 1])]) (by kernel_rfl) (by kernel_rfl) (.cons (Le.refl _) (.cons (Le.refl _) .nil)) (exergueref11_Same_ok hy373) (by kernel_rfl) ?_
     refine kD 1 ?_
     refine kEN ?_
     obtain ⟨s380, hy382, h384⟩ := bindS h374
     refine K.cutN (by kernel_rfl) (fun (s380 : Bool) => ([(0, lsv encSt46 2 x0), (1, lsv encSt46 2 x1), (4, .bool false), (5, .int .i64 s204), (43, .bool s380)], [])) s380 ?_ ?_
     ·refine J.keep [0, 1, 4, 5, 6] (L2 := [(0, lsv encSt46 2 x0), (1, lsv encSt46 2 x1), (4, .bool false), (5, .int .i64 s204), (6, .bool y372)]) (by kernel_rfl) ?_
      refine K.draw (by kernel_rfl) (by kernel_rfl) (by kernel_rfl) (H2 := [.res]) (by kernel_rfl) (n := 1) (by kernel_rfl) ?_
      refine kD 3 ?_
      refine kB 31 hy382 (fun h386 => ?_) (fun h387 => ?_)
      ·refine kD 12 ?_
       refine kE ?_
       obtain rfl := oi h386
       refine PJ.wk (Wk.sel (L2 := [(0, lsv encSt46 2 x0), (1, lsv encSt46 2 x1), (4, .bool false), (5, .int .i64 s204), (43, .bool true)]) (H2 := []) 0 (by rw [hFH]; rfl) hFD [] (by kernel_rfl) (by kernel_rfl) (by decide) (by kernel_rfl) (by kernel_rfl) (by kernel_rfl) (by kernel_rfl)) ?_
       exact kN [0, 1, 4, 5, 43]
      ·refine kD 2 ?_
       obtain ⟨hm, h388⟩ := asrt h387
       refine RJ.rel (d := (some 34)) (ef := ⟨.ep (((x0.flatMap encSt46).drop ((s204 : Int).toNat * 2)).take 2), [], []⟩) (ef' := ⟨.ep (encSt46 (nth x0 s204)), [], []⟩) (c := inR s204 x0.length) (tr2 := [([], []), ([], []), ([], []), ([], []), ([], []), ([], [])]) (H2 := [.res]) (by kernel_rfl) hm (fun hc => N.idx encSt46_len hc) (by kernel_rfl) ?_
       refine RJ.segD 4 (tr2 := [([], []), ([], []), ([], []), ([], []), ([], []), ([], []), ([], []), ([], []), ([], []), ([], [])]) (L2 := [(38, .int .i64 s204), (37, lsv encSt46 2 x1), (36, .int .i64 ((nth x0 s204).Cat_)), (35, .ep [.int .i64 ((nth x0 s204).Cat_), lsv (encL encSt75 4) 1 ((nth x0 s204).C_)]), (34, .ep [.int .i64 ((nth x0 s204).Cat_), lsv (encL encSt75 4) 1 ((nth x0 s204).C_)]), (33, .int .i64 s204), (32, lsv encSt46 2 x0), (31, .bool false), (31, .bool (!y372)), (30, .bool (!y372)), (29, .bool y372), (0, lsv encSt46 2 x0), (1, lsv encSt46 2 x1), (4, .bool false), (5, .int .i64 s204), (6, .bool y372)]) (H2 := [.res]) (by kernel_rfl) ?_
       obtain ⟨hm, h389⟩ := asrt h388
       refine RJ.rel (d := (some 39)) (ef := ⟨.ep (((x1.flatMap encSt46).drop ((s204 : Int).toNat * 2)).take 2), [], []⟩) (ef' := ⟨.ep (encSt46 (nth x1 s204)), [], []⟩) (c := inR s204 x1.length) (tr2 := [([], []), ([], []), ([], []), ([], []), ([], []), ([], []), ([], []), ([], []), ([], []), ([], []), ([], [])]) (H2 := [.res]) (by kernel_rfl) hm (fun hc => N.idx encSt46_len hc) (by kernel_rfl) ?_
       refine kD 4 ?_
       refine kE ?_
       obtain rfl := oi h389
       refine PJ.wk (Wk.sel (L2 := [(0, lsv encSt46 2 x0), (1, lsv encSt46 2 x1), (4, .bool false), (5, .int .i64 s204), (43, .bool ((decide (¬ ((nth x0 s204).Cat_) = ((nth x1 s204).Cat_)))))]) (H2 := []) 0 (by rw [hFH]; rfl) hFD [] (by kernel_rfl) (by kernel_rfl) (by decide) (by kernel_rfl) (by kernel_rfl) (by kernel_rfl) (by kernel_rfl)) ?_
       exact kN [0, 1, 4, 5, 43]
     ·refine kBJ 43 h384 (fun h391 => ?_) (fun h392 => ?_)
      ·refine kT ?_
       refine kSR ?_
       refine kC 1 [0,1,4,5] ?_
       refine kEN ?_
       refine kX ?_
       refine PJ.blockRet ?_
       obtain rfl := oi h391
       have h393 := joinX_inr h368
       refine PJ.cutXr (fun e => nomatch e) ?_
       obtain rfl := oi h393
       refine PJ.loopOut (fun e => nomatch e) (fun he396 => ?_)
       have h394 := congrArg some he396
       refine PJ.blockRet ?_
       obtain rfl := oi h394
       have h395 := joinX_inr h202
       refine PJ.cutXr (fun e => nomatch e) ?_
       obtain rfl := oi h395
       exact kZ hFn hFH hFD
      ·refine kF ?_
       refine kK ?_
       refine PJ.blockNormal ?_
       obtain rfl := oi h392
       exact PJ.cutXl [0, 1, 4, 5] (by kernel_rfl) (by kernel_rfl)
    ·subst hs
     have h369 := joinX_inl h368
     refine kR ?_
     refine kC 3 [0,1,4,5] ?_
     refine kE ?_
     obtain rfl := oi h369
     exact PJ.loopNext [0, 1, 4, 5] (by kernel_rfl) (by kernel_rfl)
   ·refine kF ?_
    refine K.exit 0 (by kernel_rfl) ?_
    refine PJ.passExit ?_
    obtain rfl := oi h337
    refine PJ.loopOut (fun e => nomatch e) (fun he398 => ?_)
    have h397 := congrArg some he398
    refine PJ.blockOut ?_
    obtain rfl := oi h397
    exact PJ.cutXl [4] (by kernel_rfl) (by kernel_rfl)
  ·subst hs
   have h203 := joinX_inl h202
   refine kSR ?_
   refine kC 1 [4] ?_
   refine kEN ?_
   refine kX ?_
   obtain rfl := oi h203
   exact kZ hFn hFH hFD
def plur_Same_1 (x0 : St46) (x1 : St46) : Option (Bool) :=
 (Option.bind (bif (decide (x0.Cat_ = x1.Cat_)) then (Option.bind (rule_Same x0.C_ x1.C_) fun y15 => (some y15)) else (some false)) fun (s7 : Bool) => (some s7))
theorem plur_Same_1_ok {x0 : St46} {x1 : St46} {r : Bool} (h : plur_Same_1 x0 x1 = some r) : SC Tryz.prog 30 [.agg (encSt46 x0), .agg (encSt46 x1)] [] (.bool r) [] := by
 refine kFn (fn := Tryz.f30) (fun F hFn hFH hFD => ?_)
 unfold plur_Same_1 at h
 refine kSR ?_
 refine kC 3 [2,3,4] ?_
 refine kEN ?_
 obtain ⟨s7, hy9, h11⟩ := bindS h
 refine K.cutN (by kernel_rfl) (fun (s7 : Bool) => ([(4, .bool s7)], [])) s7 ?_ ?_
 ·refine kR ?_
  refine kC 6 [2,3,4,10] ?_
  refine kB 10 hy9 (fun h13 => ?_) (fun h14 => ?_)
  ·refine kC 4 [4,10,12,14] ?_
   obtain ⟨y15, hy16, h17⟩ := bindS h13
   refine kA 15 (rule_Same_ok hy16) ?_
   refine RJ.seg 2 [4] (L2 := [(4, .bool y15)]) (H2 := [.box (encSt46 x0), .box (encSt46 x1)]) (by kernel_rfl) ?_
   refine kE ?_
   obtain rfl := oi h17
   refine PJ.wk (Wk.sel (L2 := [(4, .bool y15)]) (H2 := []) 0 (by rw [hFH]; rfl) hFD [] (by kernel_rfl) (by kernel_rfl) (by decide) (by kernel_rfl) (by kernel_rfl) (by kernel_rfl) (by kernel_rfl)) ?_
   exact kN [4]
  ·refine kC 7 [4] ?_
   refine kE ?_
   obtain rfl := oi h14
   refine PJ.wk (Wk.sel (L2 := [(4, .bool false)]) (H2 := []) 0 (by rw [hFH]; rfl) hFD [] (by kernel_rfl) (by kernel_rfl) (by decide) (by kernel_rfl) (by kernel_rfl) (by kernel_rfl) (by kernel_rfl)) ?_
   exact kN [4]
 ·refine kX ?_
  obtain rfl := oi h11
  exact kZ hFn hFH hFD
def api_Ruled__s0 (x0 : List St46) (x1 : List St46) : Option (Bool) :=
 (bif (decide (¬ (x0.length : Int) = (x1.length : Int))) then (some false) else (Option.bind (loopN (fun (s60 : Int) => (bif (decide (s60 < (x0.length : Int))) then (bif inR s60 x0.length then (bif inR s60 x1.length then (Option.bind (plur_Same_1 (nth x0 s60) (nth x1 s60)) fun y100 => (bif (!y100) then (some (.inr (.inr false))) else (some (.inl (IntKind.wrap .i64 (s60 + 1)))))) else none) else none) else (some (.inr (.inl ()))))) big 0) (joinX fun (s55 : Unit) => (some true))))
theorem api_Ruled__s0_ok {x0 : List St46} {x1 : List St46} {r : Bool} (h : api_Ruled__s0 x0 x1 = some r) : SC Tryz.prog 29 [lsv encSt46 2 x0, lsv encSt46 2 x1, .fn (.func 30) [] []] [] (.bool r) [] := by
 refine kFn (fn := Tryz.f29) (fun F hFn hFH hFD => ?_)
 unfold api_Ruled__s0 at h
 refine kSR ?_
 refine kC 1 [0,1,2,6] ?_
 refine kEN ?_
 refine kS ?_
 refine kSR ?_
 refine kC 5 [0,1,2,6,14] ?_
 refine kEN ?_
 refine kBJ 14 h (fun h2 => ?_) (fun h3 => ?_)
 ·refine kT ?_
  refine kSR ?_
  refine kC 1 [0,1,2,6] ?_
  refine kEN ?_
  refine kX ?_
  refine PJ.passRet ?_
  obtain rfl := oi h2
  exact K.retV (H0 := []) [] (.inr rfl) hFn hFH hFD (by kernel_rfl) (v1 := .bool false) (by kernel_rfl) (by kernel_rfl) (by kernel_rfl) (by decide) (by kernel_rfl) (by kernel_rfl) (by kernel_rfl) (by kernel_rfl) (by kernel_rfl)
 ·refine kF ?_
  refine kK ?_
  refine PJ.next ?_
  obtain ⟨y56, hy57, h58⟩ := bindS h3
  refine K.cutX (by kernel_rfl) (fun (s55 : Unit) => ([(6, .bool false)], [])) y56 ?_ (fun s55 hs => ?_)
  ·refine kSR ?_
   refine kC 3 [1,2,6,15,16,17] ?_
   refine kEN ?_
   refine K.block 0 (by kernel_rfl) ?_
   refine K.loop (by kernel_rfl) (fun (s60 : Int) => ([(1, lsv encSt46 2 x1), (2, .fn (.func 30) [] []), (6, .bool false), (15, lsv encSt46 2 x0), (16, .int .i64 (x0.length : Int)), (17, .int .i64 s60)], [])) hy57 [1, 2, 6, 15, 16, 17] (by kernel_rfl) (by kernel_rfl) (fun s60 x94 hs93 => ?_)
   refine kSR ?_
   refine kC 1 [1,2,6,15,16,17,18] ?_
   refine kEN ?_
   refine kS ?_
   refine kBJ 18 hs93 (fun h96 => ?_) (fun h97 => ?_)
   ·refine kT ?_
    refine kK ?_
    refine PJ.next ?_
    refine kS ?_
    refine K.block 1 (by kernel_rfl) ?_
    refine kSR ?_
    refine kC 1 [1,2,6,15,16,17,19] ?_
    obtain ⟨hm, h98⟩ := asrt h96
    refine kI 20 encSt46_len hm ?_
    refine kC 4 [1,2,6,7,8,15,16,17] ?_
    refine kEN ?_
    refine kSR ?_
    refine RJ.seg 2 [1, 2, 6, 8, 15, 16, 17, 22, 23] (L2 := [(1, lsv encSt46 2 x1), (2, .fn (.func 30) [] []), (6, .bool false), (8, .ptr 0 0), (15, lsv encSt46 2 x0), (16, .int .i64 (x0.length : Int)), (17, .int .i64 s60), (22, lsv encSt46 2 x1), (23, .int .i64 s60)]) (H2 := [.box [.int .i64 ((nth x0 s60).Cat_), lsv (encL encSt75 4) 1 ((nth x0 s60).C_)]]) (by kernel_rfl) ?_
    obtain ⟨hm, h99⟩ := asrt h98
    refine kI 24 encSt46_len hm ?_
    refine kC 3 [1,2,6,8,9,15,16,17] ?_
    refine kEN ?_
    refine kSR ?_
    refine kC 3 [1,2,6,15,16,17,26,27,28] ?_
    obtain ⟨y100, hy101, h102⟩ := bindS h99
    refine kA 29 (plur_Same_1_ok hy101) ?_
    refine kC 1 [1,2,6,15,16,17,30] ?_
    refine kEN ?_
    refine kBJ 30 h102 (fun h104 => ?_) (fun h105 => ?_)
    ·refine kT ?_
     refine kSR ?_
     refine RJ.seg 1 [1, 2, 6, 15, 16, 17] (L2 := [(1, lsv encSt46 2 x1), (2, .fn (.func 30) [] []), (6, .bool false), (15, lsv encSt46 2 x0), (16, .int .i64 (x0.length : Int)), (17, .int .i64 s60)]) (H2 := [.box [.int .i64 ((nth x0 s60).Cat_), lsv (encL encSt75 4) 1 ((nth x0 s60).C_)], .box [.int .i64 ((nth x1 s60).Cat_), lsv (encL encSt75 4) 1 ((nth x1 s60).C_)]]) (by kernel_rfl) ?_
     refine kEN ?_
     refine kX ?_
     refine PJ.blockRet ?_
     refine PJ.passRet ?_
     obtain rfl := oi h104
     refine PJ.loopOut (fun e => nomatch e) (fun he108 => ?_)
     have h106 := congrArg some he108
     refine PJ.blockRet ?_
     obtain rfl := oi h106
     have h107 := joinX_inr h58
     refine PJ.cutXr (fun e => nomatch e) ?_
     obtain rfl := oi h107
     exact K.retV (H0 := []) [] (.inr rfl) hFn hFH hFD (by kernel_rfl) (v1 := .bool false) (by kernel_rfl) (by kernel_rfl) (by kernel_rfl) (by decide) (by kernel_rfl) (by kernel_rfl) (by kernel_rfl) (by kernel_rfl) (by kernel_rfl)
    ·refine kF ?_
     refine kK ?_
     refine PJ.blockNormal ?_
     refine PJ.next ?_
     refine kR ?_
     refine RJ.seg 2 [1, 2, 6, 15, 16, 17] (L2 := [(1, lsv encSt46 2 x1), (2, .fn (.func 30) [] []), (6, .bool false), (15, lsv encSt46 2 x0), (16, .int .i64 (x0.length : Int)), (17, .int .i64 (IntKind.wrap .i64 (s60 + 1)))]) (H2 := [.box [.int .i64 ((nth x0 s60).Cat_), lsv (encL encSt75 4) 1 ((nth x0 s60).C_)], .box [.int .i64 ((nth x1 s60).Cat_), lsv (encL encSt75 4) 1 ((nth x1 s60).C_)]]) (by kernel_rfl) ?_
     refine kE ?_
     obtain rfl := oi h105
     refine PJ.wk (Wk.sel (L2 := [(1, lsv encSt46 2 x1), (2, .fn (.func 30) [] []), (6, .bool false), (15, lsv encSt46 2 x0), (16, .int .i64 (x0.length : Int)), (17, .int .i64 (IntKind.wrap .i64 (s60 + 1)))]) (H2 := []) 0 (by rw [hFH]; rfl) hFD [] (by kernel_rfl) (by kernel_rfl) (by decide) (by kernel_rfl) (by kernel_rfl) (by kernel_rfl) (by kernel_rfl)) ?_
     exact PJ.loopNext [1, 2, 6, 15, 16, 17] (by kernel_rfl) (by kernel_rfl)
   ·refine kF ?_
    refine K.exit 0 (by kernel_rfl) ?_
    refine PJ.passExit ?_
    obtain rfl := oi h97
    refine PJ.loopOut (fun e => nomatch e) (fun he110 => ?_)
    have h109 := congrArg some he110
    refine PJ.blockOut ?_
    obtain rfl := oi h109
    exact PJ.cutXl [6] (by kernel_rfl) (by kernel_rfl)
  ·subst hs
   have h59 := joinX_inl h58
   refine kSR ?_
   refine kC 1 [6] ?_
   refine kEN ?_
   refine kX ?_
   obtain rfl := oi h59
   exact K.retV (H0 := []) [] (.inr rfl) hFn hFH hFD (by kernel_rfl) (v1 := .bool true) (by kernel_rfl) (by kernel_rfl) (by kernel_rfl) (by decide) (by kernel_rfl) (by kernel_rfl) (by kernel_rfl) (by kernel_rfl) (by kernel_rfl)
def plur_Same (x0 : List St46) (x1 : List St46) : Option (Bool) :=
 (Option.bind (api_Ruled__s0 x0 x1) fun y1 => (some y1))
theorem plur_Same_ok {x0 : List St46} {x1 : List St46} {r : Bool} (h : plur_Same x0 x1 = some r) : SC Tryz.prog 12 [lsv encSt46 2 x0, lsv encSt46 2 x1] [] (.bool r) [] := by
 refine kFn (fn := Tryz.f12) (fun F hFn hFH hFD => ?_)
 unfold plur_Same at h
 refine kSR ?_
 refine kC 1 [0,1,4] ?_
 refine kEN ?_
 refine kSR ?_
 refine kC 2 [4,5,6] ?_
 obtain ⟨y1, hy2, h3⟩ := bindS h
 refine RJ.callG (d := (some 7)) (f := 29) (args := [lsv encSt46 2 x0, lsv encSt46 2 x1, .fn (.func 30) [] []]) (args0 := [lsv encSt46 2 x0, lsv encSt46 2 x1, .fn (.func 30) [] []]) (v0 := .bool y1) (v := .bool y1) (tr2 := []) (H0 := []) (H0' := []) (H2 := []) [] (by kernel_rfl) (by kernel_rfl) (by kernel_rfl) (by kernel_rfl) (by decide) (by kernel_rfl) (by kernel_rfl) (by kernel_rfl) (.cons (Le.refl _) (.cons (Le.refl _) (.cons (Le.refl _) .nil))) (api_Ruled__s0_ok hy2) (by kernel_rfl) (by kernel_rfl) (by kernel_rfl) ?_
 refine kC 1 [4] ?_
 refine kEN ?_
 refine kX ?_
 obtain rfl := oi h3
 exact kZ hFn hFH hFD
def exerguelaw12_PlurReads (x0 : List St49) : Option (Bool) :=
 (Option.bind exerguelaw12_shown fun y1 => (Option.bind (exerguelaw12_short x0) fun y4 => (bif (!y4) then (some y1) else (Option.bind (plur_Read x0) fun y10 => (Option.bind (exergueref12_Read x0) fun y13 => (Option.bind (bif y1 then (Option.bind (exergueref12_Same y10.1 y13.1) fun y42 => (bif y42 then (bif (decide (y10.2.1 = y13.2.1)) then (bif (decide (y10.2.2 = y13.2.2)) then (Option.bind (plur_Same y10.1 y10.1) fun y54 => (some y54)) else (some false)) else (some false)) else (some false))) else (some false)) fun (s34 : Bool) => (some s34)))))))
theorem exerguelaw12_PlurReads_ok {x0 : List St49} {r : Bool} (h : exerguelaw12_PlurReads x0 = some r) : SC Tryz.prog 3 [lsv encSt49 2 x0] [] (.bool r) [] := by
 refine kFn (fn := Tryz.f3) (fun F hFn hFH hFD => ?_)
 unfold exerguelaw12_PlurReads at h
 refine kSR ?_
 refine kC 1 [0,2] ?_
 refine kEN ?_
 refine kSR ?_
 obtain ⟨y1, hy2, h3⟩ := bindS h
 refine kA 10 (exerguelaw12_shown_ok hy2) ?_
 refine kC 1 [0,2,3] ?_
 refine kEN ?_
 refine kS ?_
 refine kSR ?_
 refine kC 1 [0,2,3,11] ?_
 obtain ⟨y4, hy5, h6⟩ := bindS h3
 refine kA 12 (exerguelaw12_short_ok hy5) ?_
 refine RJ.seg 1 [0, 2, 3, 13] (L2 := [(0, lsv encSt49 2 x0), (2, .bool false), (3, .bool y1), (13, .bool (!y4))]) (H2 := []) (by kernel_rfl) ?_
 refine kEN ?_
 refine kBJ 13 h6 (fun h8 => ?_) (fun h9 => ?_)
 ·refine kT ?_
  refine kSR ?_
  refine kC 2 [0,2,3] ?_
  refine kEN ?_
  refine kX ?_
  refine PJ.passRet ?_
  obtain rfl := oi h8
  exact kZ hFn hFH hFD
 ·refine kF ?_
  refine kK ?_
  refine PJ.next ?_
  refine kSR ?_
  refine kC 1 [0,2,3,16] ?_
  obtain ⟨y10, hy11, h12⟩ := bindS h9
  refine kA 17 (plur_Read_ok hy11) ?_
  refine kC 7 [0,2,3,4,5,6] ?_
  refine kEN ?_
  refine kSR ?_
  refine kC 1 [2,3,4,5,6,22] ?_
  obtain ⟨y13, hy14, h15⟩ := bindS h12
  refine kA 23 (exergueref12_Read_ok hy14) ?_
  refine RJ.seg 7 [2, 3, 4, 5, 6, 7, 8, 9] (L2 := [(2, .bool false), (3, .bool y1), (4, lsv encSt46 2 y10.1), (5, .int .i64 y10.2.1), (6, .int .i64 y10.2.2), (7, lsv encSt46 2 y13.1), (8, .int .i64 y13.2.1), (9, .int .i64 y13.2.2)]) (H2 := []) (by kernel_rfl) ?_
  refine kEN ?_
  obtain ⟨s34, hy36, h38⟩ := bindS h15
  refine K.cutN (by kernel_rfl) (fun (s34 : Bool) => ([(2, .bool s34)], [])) s34 ?_ ?_
  ·refine kR ?_
   refine kC 2 [2,4,5,6,7,8,9,28] ?_
   refine kB 28 hy36 (fun h40 => ?_) (fun h41 => ?_)
   ·refine kC 2 [2,4,5,6,8,9,28,29,30] ?_
    obtain ⟨y42, hy43, h44⟩ := bindS h40
    refine kA 31 (exergueref12_Same_ok hy43) ?_
    refine kC 2 [2,4,5,6,8,9,33] ?_
    refine kB 33 h44 (fun h46 => ?_) (fun h47 => ?_)
    ·refine RJ.seg 5 [2, 4, 6, 9, 38] (L2 := [(2, .bool false), (4, lsv encSt46 2 y10.1), (6, .int .i64 y10.2.2), (9, .int .i64 y13.2.2), (38, .bool (decide (y10.2.1 = y13.2.1)))]) (H2 := []) (by kernel_rfl) ?_
     refine kB 38 h46 (fun h49 => ?_) (fun h50 => ?_)
     ·refine kC 5 [2,4,43] ?_
      refine kB 43 h49 (fun h52 => ?_) (fun h53 => ?_)
      ·refine kC 2 [2,43,44,45] ?_
       obtain ⟨y54, hy55, h56⟩ := bindS h52
       refine kA 46 (plur_Same_ok hy55) ?_
       refine kC 2 [2] ?_
       refine kE ?_
       obtain rfl := oi h56
       exact kN [2]
      ·refine kC 5 [2] ?_
       refine kE ?_
       obtain rfl := oi h53
       exact kN [2]
     ·refine kC 10 [2] ?_
      refine kE ?_
      obtain rfl := oi h50
      exact kN [2]
    ·refine RJ.seg 15 [2] (L2 := [(2, .bool false)]) (H2 := []) (by kernel_rfl) ?_
     refine kE ?_
     obtain rfl := oi h47
     exact kN [2]
   ·refine kC 20 [2] ?_
    refine kE ?_
    obtain rfl := oi h41
    exact kN [2]
  ·refine kX ?_
   obtain rfl := oi h38
   exact kZ hFn hFH hFD
end Go.Proofs.YteaokhdkocddcaaGreatDoor
