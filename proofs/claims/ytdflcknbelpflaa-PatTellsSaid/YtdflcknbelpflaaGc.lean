/-
  What the functions of this program come to, as functions of natives, each with the proof that it does. No conditions.
-/
import Derived.Test.YtdflcknbelpflaaProg
import Derived.Test.YtdflcknbelpflaaSySL
import Derived.Test.YtdflcknbelpflaaGb
namespace Go.Proofs.Ytdflcknbelpflaa
open Go Go.Sy Go.RowKit
set_option linter.unusedVariables false
set_option linter.unusedSimpArgs false
set_option maxRecDepth 100000
set_option maxHeartbeats 4000000
def exerguelaw10_shown  : Option (Bool) :=
 (Option.bind (pat_Parse ([35, 44, 35, 35, 48, 46, 48, 48, 59, 40, 35, 44, 35, 35, 48, 46, 48, 48, 41] : List UInt8)) fun y1 => (Option.bind (bif (decide (y1.2.2 = 0)) then (bif (decide (y1.2.1 = 0)) then (bif (decide (y1.1.Hash_ = 3)) then (bif (decide (y1.1.MinInt_ = 1)) then (bif (decide (y1.1.G1_ = 3)) then (bif (decide (y1.1.G2_ = 3)) then (bif (decide (y1.1.MinFrac_ = 2)) then (bif (decide (y1.1.MaxFrac_ = 2)) then (bif y1.1.Neg_ then (bif (decide ((y1.1.NPre_.length : Int) = 1)) then (bif inR 0 y1.1.NPre_.length then (bif (decide (((nth y1.1.NPre_ 0).R_) = 40)) then (Option.bind (pat_Text y1.1) fun y98 => (bif (y98 == ([35, 44, 35, 35, 48, 46, 48, 48, 59, 40, 35, 44, 35, 35, 48, 46, 48, 48, 41] : List UInt8)) then (Option.bind (pat_Right y1.1) fun y104 => (bif y104 then (Option.bind (pat_Width y1.1) fun y110 => (bif (decide (y110 = 8)) then (Option.bind (pat_Number y1.1) fun y116 => (some (y116 == ([35, 44, 35, 35, 48, 46, 48, 48] : List UInt8)))) else (some false))) else (some false))) else (some false))) else (some false)) else none) else (some false)) else (some false)) else (some false)) else (some false)) else (some false)) else (some false)) else (some false)) else (some false)) else (some false)) else (some false)) fun (s59 : Bool) => (some s59)))
theorem exerguelaw10_shown_ok  {r : Bool} (h : exerguelaw10_shown = some r) : SC Try.prog 7 [] [] (.bool r) [] := by
 refine kFn (fn := Try.f7) (fun F hFn hFH hFD => ?_)
 unfold exerguelaw10_shown at h
 refine kSR ?_
 refine kC 1 [0] ?_
 refine kEN ?_
 refine kSR ?_
 obtain ⟨y1, hy2, h3⟩ := bindS h
 refine kA 5 (pat_Parse_ok hy2) ?_
 refine kC 8 [0,1,2,3] ?_
 refine kEN ?_
 obtain ⟨s59, hy61, h63⟩ := bindS h3
 refine K.cutN (by kernel_rfl) (fun (s59 : Bool) => ([(0, .bool s59)], [])) s59 ?_ ?_
 ·refine kR ?_
  refine kC 3 [0,1,2,11] ?_
  refine kB 11 hy61 (fun h65 => ?_) (fun h66 => ?_)
  ·refine kC 4 [0,1,15] ?_
   refine kB 15 h65 (fun h68 => ?_) (fun h69 => ?_)
   ·refine kC 5 [0,1,20] ?_
    refine kB 20 h68 (fun h71 => ?_) (fun h72 => ?_)
    ·refine kC 5 [0,1,25] ?_
     refine kB 25 h71 (fun h74 => ?_) (fun h75 => ?_)
     ·refine kC 5 [0,1,30] ?_
      refine kB 30 h74 (fun h77 => ?_) (fun h78 => ?_)
      ·refine kC 5 [0,1,35] ?_
       refine kB 35 h77 (fun h80 => ?_) (fun h81 => ?_)
       ·refine kC 5 [0,1,40] ?_
        refine kB 40 h80 (fun h83 => ?_) (fun h84 => ?_)
        ·refine kC 5 [0,1,45] ?_
         refine kB 45 h83 (fun h86 => ?_) (fun h87 => ?_)
         ·refine kC 4 [0,1,49] ?_
          refine kB 49 h86 (fun h89 => ?_) (fun h90 => ?_)
          ·refine kC 6 [0,1,55] ?_
           refine kB 55 h89 (fun h92 => ?_) (fun h93 => ?_)
           ·refine kC 2 [0,1,55,57] ?_
            obtain ⟨hm, h94⟩ := asrt h92
            refine kI 58 encSt33_len hm ?_
            refine kC 5 [0,1,63] ?_
            refine kB 63 h94 (fun h96 => ?_) (fun h97 => ?_)
            ·refine kC 1 [0,1,63,64] ?_
             obtain ⟨y98, hy99, h100⟩ := bindS h96
             refine kA 65 (pat_Text_ok hy99) ?_
             refine kC 3 [0,1,68] ?_
             refine kB 68 h100 (fun h102 => ?_) (fun h103 => ?_)
             ·refine RJ.seg 1 [0, 1, 68, 69] (L2 := [(0, .bool false), (1, .ptr 0 0), (68, .bool true), (69, .agg (encSt23 y1.1))]) (H2 := [.box (encSt23 y1.1)]) (by kernel_rfl) ?_
              obtain ⟨y104, hy105, h106⟩ := bindS h102
              refine kA 70 (pat_Right_ok hy105) ?_
              refine kC 2 [0,1,72] ?_
              refine kB 72 h106 (fun h108 => ?_) (fun h109 => ?_)
              ·refine kC 1 [0,1,72,73] ?_
               obtain ⟨y110, hy111, h112⟩ := bindS h108
               refine kA 74 (pat_Width_ok hy111) ?_
               refine kC 3 [0,1,77] ?_
               refine kB 77 h112 (fun h114 => ?_) (fun h115 => ?_)
               ·refine kC 1 [0,77,78] ?_
                obtain ⟨y116, hy117, h118⟩ := bindS h114
                refine kA 79 (pat_Number_ok hy117) ?_
                refine kC 3 [0] ?_
                refine kE ?_
                obtain rfl := oi h118
                refine kW (L2 := [(0, .bool (y116 == ([35, 44, 35, 35, 48, 46, 48, 48] : List UInt8)))]) (H2 := []) hFH hFD [] ?_
                exact kN [0]
               ·refine kC 5 [0] ?_
                refine kE ?_
                obtain rfl := oi h115
                refine kW (L2 := [(0, .bool false)]) (H2 := []) hFH hFD [] ?_
                exact kN [0]
              ·refine kC 10 [0] ?_
               refine kE ?_
               obtain rfl := oi h109
               refine kW (L2 := [(0, .bool false)]) (H2 := []) hFH hFD [] ?_
               exact kN [0]
             ·refine RJ.seg 14 [0] (L2 := [(0, .bool false)]) (H2 := [.box (encSt23 y1.1)]) (by kernel_rfl) ?_
              refine kE ?_
              obtain rfl := oi h103
              refine kW (L2 := [(0, .bool false)]) (H2 := []) hFH hFD [] ?_
              exact kN [0]
            ·refine kC 19 [0] ?_
             refine kE ?_
             obtain rfl := oi h97
             refine kW (L2 := [(0, .bool false)]) (H2 := []) hFH hFD [] ?_
             exact kN [0]
           ·refine kC 27 [0] ?_
            refine kE ?_
            obtain rfl := oi h93
            refine kW (L2 := [(0, .bool false)]) (H2 := []) hFH hFD [] ?_
            exact kN [0]
          ·refine kC 33 [0] ?_
           refine kE ?_
           obtain rfl := oi h90
           refine kW (L2 := [(0, .bool false)]) (H2 := []) hFH hFD [] ?_
           exact kN [0]
         ·refine kC 37 [0] ?_
          refine kE ?_
          obtain rfl := oi h87
          refine kW (L2 := [(0, .bool false)]) (H2 := []) hFH hFD [] ?_
          exact kN [0]
        ·refine kC 42 [0] ?_
         refine kE ?_
         obtain rfl := oi h84
         refine kW (L2 := [(0, .bool false)]) (H2 := []) hFH hFD [] ?_
         exact kN [0]
       ·refine kC 47 [0] ?_
        refine kE ?_
        obtain rfl := oi h81
        refine kW (L2 := [(0, .bool false)]) (H2 := []) hFH hFD [] ?_
        exact kN [0]
      ·refine kC 52 [0] ?_
       refine kE ?_
       obtain rfl := oi h78
       refine kW (L2 := [(0, .bool false)]) (H2 := []) hFH hFD [] ?_
       exact kN [0]
     ·refine kC 57 [0] ?_
      refine kE ?_
      obtain rfl := oi h75
      refine kW (L2 := [(0, .bool false)]) (H2 := []) hFH hFD [] ?_
      exact kN [0]
    ·refine kC 62 [0] ?_
     refine kE ?_
     obtain rfl := oi h72
     refine kW (L2 := [(0, .bool false)]) (H2 := []) hFH hFD [] ?_
     exact kN [0]
   ·refine kC 67 [0] ?_
    refine kE ?_
    obtain rfl := oi h69
    refine kW (L2 := [(0, .bool false)]) (H2 := []) hFH hFD [] ?_
    exact kN [0]
  ·refine kC 71 [0] ?_
   refine kE ?_
   obtain rfl := oi h66
   refine kW (L2 := [(0, .bool false)]) (H2 := []) hFH hFD [] ?_
   exact kN [0]
 ·refine kX ?_
  obtain rfl := oi h63
  exact kZ hFn hFH hFD
def exergueref10_Few (x0 : St23) : Option (Bool) :=
 (some (decide (((IntKind.wrap .i64 (((IntKind.wrap .i64 (((IntKind.wrap .i64 ((x0.Pre_.length : Int) + (x0.Suf_.length : Int)))) + (x0.NPre_.length : Int)))) + (x0.NSuf_.length : Int)))) ≤ 300)))
theorem exergueref10_Few_ok {x0 : St23} {r : Bool} (h : exergueref10_Few x0 = some r) : SC Try.prog 8 [.agg (encSt23 x0)] [] (.bool r) [] := by
 refine kFn (fn := Try.f8) (fun F hFn hFH hFD => ?_)
 unfold exergueref10_Few at h
 refine kSR ?_
 refine kC 2 [1,2] ?_
 refine kEN ?_
 refine kSR ?_
 refine kC 17 [2] ?_
 refine kEN ?_
 refine kX ?_
 obtain rfl := oi h
 exact kZ hFn hFH hFD
def exergueref01_Is (x0 : Int) : Option (Bool) :=
 (Option.bind (bif (decide ((IntKind.wrap .i64 x0) ≥ 0)) then (bif (decide ((IntKind.wrap .i64 x0) < 55296)) then (some true) else (bif (decide ((IntKind.wrap .i64 x0) > 57343)) then (some ((decide ((IntKind.wrap .i64 x0) ≤ 1114111)))) else (some false))) else (bif (decide ((IntKind.wrap .i64 x0) > 57343)) then (some ((decide ((IntKind.wrap .i64 x0) ≤ 1114111)))) else (some false))) fun (s13 : Bool) => (some s13))
theorem exergueref01_Is_ok {x0 : Int} {r : Bool} (h : exergueref01_Is x0 = some r) : SC Try.prog 20 [.int .i32 x0] [] (.bool r) [] := by
 refine kFn (fn := Try.f20) (fun F hFn hFH hFD => ?_)
 unfold exergueref01_Is at h
 refine kSR ?_
 refine kC 1 [0,2] ?_
 refine kEN ?_
 refine kSR ?_
 refine kC 3 [2,3] ?_
 refine kEN ?_
 obtain ⟨s13, hy15, h17⟩ := bindS h
 refine K.cutN (by kernel_rfl) (fun (s13 : Bool) => ([(2, .bool s13)], [])) s13 ?_ ?_
 ·refine kR ?_
  refine kC 3 [2,3,8] ?_
  refine kB 8 hy15 (fun h19 => ?_) (fun h20 => ?_)
  ·refine kC 4 [2,3,12] ?_
   refine kB 12 h19 (fun h22 => ?_) (fun h23 => ?_)
   ·refine kC 8 [2] ?_
    refine kE ?_
    obtain rfl := oi h22
    exact kN [2]
   ·refine kC 3 [2,3,12,15] ?_
    refine kB 15 h23 (fun h25 => ?_) (fun h26 => ?_)
    ·refine kC 5 [2] ?_
     refine kE ?_
     obtain rfl := oi h25
     exact kN [2]
    ·refine kC 5 [2] ?_
     refine kE ?_
     obtain rfl := oi h26
     exact kN [2]
  ·refine kC 7 [2,3,12,15] ?_
   refine kB 15 h20 (fun h28 => ?_) (fun h29 => ?_)
   ·refine kC 5 [2] ?_
    refine kE ?_
    obtain rfl := oi h28
    exact kN [2]
   ·refine kC 5 [2] ?_
    refine kE ?_
    obtain rfl := oi h29
    exact kN [2]
 ·refine kX ?_
  obtain rfl := oi h17
  exact kZ hFn hFH hFD
def exergueref10_runes (x0 : List St33) : Option (Bool) :=
 (Option.bind (loopN (fun (s54 : Int) => (bif (decide (s54 < (x0.length : Int))) then (bif inR s54 x0.length then (Option.bind (exergueref01_Is ((nth x0 s54).R_)) fun y91 => (bif (!y91) then (some (.inr (.inr false))) else (some (.inl (IntKind.wrap .i64 (s54 + 1)))))) else none) else (some (.inr (.inl ()))))) big 0) (joinX fun (s49 : Unit) => (some true)))
theorem exergueref10_runes_ok {x0 : List St33} {r : Bool} (h : exergueref10_runes x0 = some r) : SC Try.prog 21 [lsv encSt33 2 x0] [] (.bool r) [] := by
 refine kFn (fn := Try.f21) (fun F hFn hFH hFD => ?_)
 unfold exergueref10_runes at h
 refine kSR ?_
 refine kC 1 [0,2] ?_
 refine kEN ?_
 obtain ⟨y50, hy51, h52⟩ := bindS h
 refine K.cutX (by kernel_rfl) (fun (s49 : Unit) => ([(2, .bool false)], [])) y50 ?_ (fun s49 hs => ?_)
 ·refine kSR ?_
  refine kC 1 [0,2,3] ?_
  refine kEN ?_
  refine kb 0 ?_
  refine kl (fun (s54 : Int) => ([(0, lsv encSt33 2 x0), (2, .bool false), (3, .int .i64 s54)], [])) hy51 [0, 2, 3] (fun s54 x86 hs85 => ?_)
  refine kS ?_
  refine kSR ?_
  refine kC 4 [0,2,3,8] ?_
  refine kEN ?_
  refine kBJ 8 hs85 (fun h88 => ?_) (fun h89 => ?_)
  ·refine kT ?_
   refine kK ?_
   refine PJ.next ?_
   refine kS ?_
   refine kb 1 ?_
   refine kSR ?_
   refine kC 2 [0,2,3,11,12] ?_
   obtain ⟨hm, h90⟩ := asrt h88
   refine kI 13 encSt33_len hm ?_
   refine kC 2 [0,2,3,15] ?_
   obtain ⟨y91, hy92, h93⟩ := bindS h90
   refine kA 16 (exergueref01_Is_ok hy92) ?_
   refine kC 1 [0,2,3,4] ?_
   refine kEN ?_
   refine kSR ?_
   refine kC 2 [0,2,3,18] ?_
   refine kEN ?_
   refine kBJ 18 h93 (fun h95 => ?_) (fun h96 => ?_)
   ·refine kT ?_
    refine kSR ?_
    refine kC 1 [0,2,3] ?_
    refine kEN ?_
    refine kX ?_
    refine PJ.blockRet ?_
    refine PJ.passRet ?_
    obtain rfl := oi h95
    refine PJ.loopOut (fun e => nomatch e) (fun he99 => ?_)
    have h97 := congrArg some he99
    refine PJ.blockRet ?_
    obtain rfl := oi h97
    have h98 := joinX_inr h52
    refine PJ.cutXr (fun e => nomatch e) ?_
    obtain rfl := oi h98
    exact kZ hFn hFH hFD
   ·refine kF ?_
    refine kK ?_
    refine PJ.blockNormal ?_
    refine PJ.next ?_
    refine kR ?_
    refine kC 3 [0,2,3] ?_
    refine kE ?_
    obtain rfl := oi h96
    exact kLN [0, 2, 3]
  ·refine kF ?_
   refine K.exit 0 (by kernel_rfl) ?_
   refine PJ.passExit ?_
   obtain rfl := oi h89
   refine PJ.loopOut (fun e => nomatch e) (fun he101 => ?_)
   have h100 := congrArg some he101
   refine PJ.blockOut ?_
   obtain rfl := oi h100
   exact kXl [2]
 ·subst hs
  have h53 := joinX_inl h52
  refine kSR ?_
  refine kC 1 [2] ?_
  refine kEN ?_
  refine kX ?_
  obtain rfl := oi h53
  exact kZ hFn hFH hFD
def exergueref01_Size (x0 : Int) : Option (Int) :=
 (Option.bind (exergueref01_Is x0) fun y1 => (bif (!y1) then (some 0) else (bif (decide (x0 < 128)) then (some 1) else (bif (decide (x0 < 2048)) then (some 2) else (bif (decide (x0 < 65536)) then (some 3) else (some 4))))))
theorem exergueref01_Size_ok {x0 : Int} {r : Int} (h : exergueref01_Size x0 = some r) : SC Try.prog 49 [.int .i32 x0] [] (.int .i64 r) [] := by
 refine kFn (fn := Try.f49) (fun F hFn hFH hFD => ?_)
 unfold exergueref01_Size at h
 refine kSR ?_
 refine kC 1 [0,2] ?_
 refine kEN ?_
 refine kSR ?_
 refine kC 1 [0,2,4] ?_
 obtain ⟨y1, hy2, h3⟩ := bindS h
 refine kA 5 (exergueref01_Is_ok hy2) ?_
 refine kC 1 [0,2,3] ?_
 refine kEN ?_
 refine kS ?_
 refine kSR ?_
 refine kC 2 [0,2,7] ?_
 refine kEN ?_
 refine kBJ 7 h3 (fun h5 => ?_) (fun h6 => ?_)
 ·refine kT ?_
  refine kSR ?_
  refine kC 1 [0,2] ?_
  refine kEN ?_
  refine kX ?_
  refine PJ.passRet ?_
  obtain rfl := oi h5
  exact kZ hFn hFH hFD
 ·refine kF ?_
  refine kK ?_
  refine PJ.next ?_
  refine kS ?_
  refine kSR ?_
  refine kC 2 [0,2,9] ?_
  refine kEN ?_
  refine kBJ 9 h6 (fun h8 => ?_) (fun h9 => ?_)
  ·refine kT ?_
   refine kSR ?_
   refine kC 1 [0,2] ?_
   refine kEN ?_
   refine kX ?_
   refine PJ.passRet ?_
   obtain rfl := oi h8
   exact kZ hFn hFH hFD
  ·refine kF ?_
   refine kK ?_
   refine PJ.next ?_
   refine kS ?_
   refine kSR ?_
   refine kC 2 [0,2,11] ?_
   refine kEN ?_
   refine kBJ 11 h9 (fun h11 => ?_) (fun h12 => ?_)
   ·refine kT ?_
    refine kSR ?_
    refine kC 1 [0,2] ?_
    refine kEN ?_
    refine kX ?_
    refine PJ.passRet ?_
    obtain rfl := oi h11
    exact kZ hFn hFH hFD
   ·refine kF ?_
    refine kK ?_
    refine PJ.next ?_
    refine kS ?_
    refine kSR ?_
    refine kC 2 [2,13] ?_
    refine kEN ?_
    refine kBJ 13 h12 (fun h14 => ?_) (fun h15 => ?_)
    ·refine kT ?_
     refine kSR ?_
     refine kC 1 [2] ?_
     refine kEN ?_
     refine kX ?_
     refine PJ.passRet ?_
     obtain rfl := oi h14
     exact kZ hFn hFH hFD
    ·refine kF ?_
     refine kK ?_
     refine PJ.next ?_
     refine kSR ?_
     refine kC 1 [2] ?_
     refine kEN ?_
     refine kX ?_
     obtain rfl := oi h15
     exact kZ hFn hFH hFD
def exergueref01_Bytes (x0 : Int) : Option (List Int) :=
 (Option.bind (exergueref01_Size x0) fun y1 => (bif (decide (y1 = 1)) then (some ([(IntKind.wrap .u8 (IntKind.wrap .i64 x0))] : List Int)) else (bif (decide (y1 = 2)) then (some ([(IntKind.wrap .u8 ((IntKind.wrap .i64 (192 + ((IntKind.wrap .i64 (Int.tdiv (IntKind.wrap .i64 x0) 64))))))), (IntKind.wrap .u8 ((IntKind.wrap .i64 (128 + (Int.tmod (IntKind.wrap .i64 x0) 64)))))] : List Int)) else (bif (decide (y1 = 3)) then (some ([(IntKind.wrap .u8 ((IntKind.wrap .i64 (224 + ((IntKind.wrap .i64 (Int.tdiv (IntKind.wrap .i64 x0) 4096))))))), (IntKind.wrap .u8 ((IntKind.wrap .i64 (128 + ((Int.tmod ((IntKind.wrap .i64 (Int.tdiv (IntKind.wrap .i64 x0) 64))) 64)))))), (IntKind.wrap .u8 ((IntKind.wrap .i64 (128 + (Int.tmod (IntKind.wrap .i64 x0) 64)))))] : List Int)) else (bif (decide (y1 = 4)) then (some ([(IntKind.wrap .u8 ((IntKind.wrap .i64 (240 + ((IntKind.wrap .i64 (Int.tdiv (IntKind.wrap .i64 x0) 262144))))))), (IntKind.wrap .u8 ((IntKind.wrap .i64 (128 + ((Int.tmod ((IntKind.wrap .i64 (Int.tdiv (IntKind.wrap .i64 x0) 4096))) 64)))))), (IntKind.wrap .u8 ((IntKind.wrap .i64 (128 + ((Int.tmod ((IntKind.wrap .i64 (Int.tdiv (IntKind.wrap .i64 x0) 64))) 64)))))), (IntKind.wrap .u8 ((IntKind.wrap .i64 (128 + (Int.tmod (IntKind.wrap .i64 x0) 64)))))] : List Int)) else (some ([] : List Int)))))))
theorem exergueref01_Bytes_ok {x0 : Int} {r : List Int} (h : exergueref01_Bytes x0 = some r) : SC Try.prog 55 [.int .i32 x0] [] (lsv (encI .u8) 1 r) [] := by
 refine kFn (fn := Try.f55) (fun F hFn hFH hFD => ?_)
 unfold exergueref01_Bytes at h
 refine kSR ?_
 refine kC 1 [0,2] ?_
 refine kEN ?_
 refine kSR ?_
 refine kC 3 [0,2,3] ?_
 refine kEN ?_
 refine kS ?_
 refine kSR ?_
 refine kC 1 [2,3,6] ?_
 obtain ⟨y1, hy2, h3⟩ := bindS h
 refine kA 7 (exergueref01_Size_ok hy2) ?_
 refine kEN ?_
 refine kb 0 ?_
 refine kSR ?_
 refine kC 2 [2,3,7,8] ?_
 refine kEN ?_
 refine kBJ 8 h3 (fun h5 => ?_) (fun h6 => ?_)
 ·refine kT ?_
  refine kSR ?_
  refine kC 4 [2] ?_
  refine kEN ?_
  refine kX ?_
  refine PJ.blockRet ?_
  refine PJ.passRet ?_
  obtain rfl := oi h5
  refine PJ.wk (Wk.freeze 0 (n := (([(IntKind.wrap .u8 (IntKind.wrap .i64 x0))] : List Int)).length) (k := 1) (e := 5) (cs := (([(IntKind.wrap .u8 (IntKind.wrap .i64 x0))] : List Int)).flatMap (encI .u8)) (by kernel_rfl)) ?_
  exact kZ hFn hFH hFD
 ·refine kF ?_
  refine kSR ?_
  refine kC 2 [2,3,7,13] ?_
  refine kEN ?_
  refine kBJ 13 h6 (fun h8 => ?_) (fun h9 => ?_)
  ·refine kT ?_
   refine kSR ?_
   refine kC 10 [2] ?_
   refine kEN ?_
   refine kX ?_
   refine PJ.blockRet ?_
   refine PJ.passRet ?_
   obtain rfl := oi h8
   refine PJ.wk (Wk.freeze 0 (n := (([(IntKind.wrap .u8 ((IntKind.wrap .i64 (192 + ((IntKind.wrap .i64 (Int.tdiv (IntKind.wrap .i64 x0) 64))))))), (IntKind.wrap .u8 ((IntKind.wrap .i64 (128 + (Int.tmod (IntKind.wrap .i64 x0) 64)))))] : List Int)).length) (k := 1) (e := 5) (cs := (([(IntKind.wrap .u8 ((IntKind.wrap .i64 (192 + ((IntKind.wrap .i64 (Int.tdiv (IntKind.wrap .i64 x0) 64))))))), (IntKind.wrap .u8 ((IntKind.wrap .i64 (128 + (Int.tmod (IntKind.wrap .i64 x0) 64)))))] : List Int)).flatMap (encI .u8)) (by kernel_rfl)) ?_
   exact kZ hFn hFH hFD
  ·refine kF ?_
   refine kSR ?_
   refine kC 2 [2,3,7,24] ?_
   refine kEN ?_
   refine kBJ 24 h9 (fun h11 => ?_) (fun h12 => ?_)
   ·refine kT ?_
    refine kSR ?_
    refine kC 15 [2] ?_
    refine kEN ?_
    refine kX ?_
    refine PJ.blockRet ?_
    refine PJ.passRet ?_
    obtain rfl := oi h11
    refine PJ.wk (Wk.freeze 0 (n := (([(IntKind.wrap .u8 ((IntKind.wrap .i64 (224 + ((IntKind.wrap .i64 (Int.tdiv (IntKind.wrap .i64 x0) 4096))))))), (IntKind.wrap .u8 ((IntKind.wrap .i64 (128 + ((Int.tmod ((IntKind.wrap .i64 (Int.tdiv (IntKind.wrap .i64 x0) 64))) 64)))))), (IntKind.wrap .u8 ((IntKind.wrap .i64 (128 + (Int.tmod (IntKind.wrap .i64 x0) 64)))))] : List Int)).length) (k := 1) (e := 5) (cs := (([(IntKind.wrap .u8 ((IntKind.wrap .i64 (224 + ((IntKind.wrap .i64 (Int.tdiv (IntKind.wrap .i64 x0) 4096))))))), (IntKind.wrap .u8 ((IntKind.wrap .i64 (128 + ((Int.tmod ((IntKind.wrap .i64 (Int.tdiv (IntKind.wrap .i64 x0) 64))) 64)))))), (IntKind.wrap .u8 ((IntKind.wrap .i64 (128 + (Int.tmod (IntKind.wrap .i64 x0) 64)))))] : List Int)).flatMap (encI .u8)) (by kernel_rfl)) ?_
    exact kZ hFn hFH hFD
   ·refine kF ?_
    refine kSR ?_
    refine kC 2 [2,3,40] ?_
    refine kEN ?_
    refine kBJ 40 h12 (fun h14 => ?_) (fun h15 => ?_)
    ·refine kT ?_
     refine kSR ?_
     refine kC 20 [2] ?_
     refine kEN ?_
     refine kX ?_
     refine PJ.blockRet ?_
     refine PJ.passRet ?_
     obtain rfl := oi h14
     refine PJ.wk (Wk.freeze 0 (n := (([(IntKind.wrap .u8 ((IntKind.wrap .i64 (240 + ((IntKind.wrap .i64 (Int.tdiv (IntKind.wrap .i64 x0) 262144))))))), (IntKind.wrap .u8 ((IntKind.wrap .i64 (128 + ((Int.tmod ((IntKind.wrap .i64 (Int.tdiv (IntKind.wrap .i64 x0) 4096))) 64)))))), (IntKind.wrap .u8 ((IntKind.wrap .i64 (128 + ((Int.tmod ((IntKind.wrap .i64 (Int.tdiv (IntKind.wrap .i64 x0) 64))) 64)))))), (IntKind.wrap .u8 ((IntKind.wrap .i64 (128 + (Int.tmod (IntKind.wrap .i64 x0) 64)))))] : List Int)).length) (k := 1) (e := 5) (cs := (([(IntKind.wrap .u8 ((IntKind.wrap .i64 (240 + ((IntKind.wrap .i64 (Int.tdiv (IntKind.wrap .i64 x0) 262144))))))), (IntKind.wrap .u8 ((IntKind.wrap .i64 (128 + ((Int.tmod ((IntKind.wrap .i64 (Int.tdiv (IntKind.wrap .i64 x0) 4096))) 64)))))), (IntKind.wrap .u8 ((IntKind.wrap .i64 (128 + ((Int.tmod ((IntKind.wrap .i64 (Int.tdiv (IntKind.wrap .i64 x0) 64))) 64)))))), (IntKind.wrap .u8 ((IntKind.wrap .i64 (128 + (Int.tmod (IntKind.wrap .i64 x0) 64)))))] : List Int)).flatMap (encI .u8)) (by kernel_rfl)) ?_
     exact kZ hFn hFH hFD
    ·refine kF ?_
     refine kK ?_
     refine PJ.blockNormal ?_
     refine PJ.next ?_
     refine kSR ?_
     refine kC 1 [2] ?_
     refine kEN ?_
     refine kX ?_
     obtain rfl := oi h15
     refine PJ.res (v1 := .nl) (Le.nl _) ?_
     exact kZ hFn hFH hFD
def exergueref10_text (x0 : Int) : Option (List UInt8) :=
 (Option.bind (exergueref01_Bytes x0) fun y1 => (some (bytesS y1)))
theorem exergueref10_text_ok {x0 : Int} {r : List UInt8} (h : exergueref10_text x0 = some r) : SC Try.prog 39 [.int .i32 x0] [] (.str r) [] := by
 refine kFn (fn := Try.f39) (fun F hFn hFH hFD => ?_)
 unfold exergueref10_text at h
 refine kSR ?_
 refine kC 1 [0,2] ?_
 refine kEN ?_
 refine kSR ?_
 refine kC 1 [2,3] ?_
 obtain ⟨y1, hy2, h3⟩ := bindS h
 refine kA 4 (exergueref01_Bytes_ok hy2) ?_
 refine RJ.rel (d := (some 5)) (ef := ⟨.str ((y1.flatMap (encI .u8)).map Go.Sy.byteOf), [], []⟩) (ef' := ⟨.str (bytesS y1), [], []⟩) (c := (y1.flatMap (encI .u8)).all isByte) (tr2 := []) (H2 := []) (by kernel_rfl) (allByte y1) (fun hc => N.toStr) (by kernel_rfl) ?_
 refine kC 1 [2] ?_
 refine kEN ?_
 refine kX ?_
 obtain rfl := oi h3
 exact kZ hFn hFH hFD
def exergueref10_padded (x0 : St23) (x1 : Int) : Option (List UInt8) :=
 (bif (decide (x0.PadAt_ = x1)) then (Option.bind (exergueref10_text x0.Pad_) fun y4 => (bif room (([42] : List UInt8).length + y4.length) then (some (([42] : List UInt8) ++ y4)) else none)) else (some ([] : List UInt8)))
theorem exergueref10_padded_ok {x0 : St23} {x1 : Int} {r : List UInt8} (h : exergueref10_padded x0 x1 = some r) : SC Try.prog 27 [.agg (encSt23 x0), .int .i64 x1] [] (.str r) [] := by
 refine kFn (fn := Try.f27) (fun F hFn hFH hFD => ?_)
 unfold exergueref10_padded at h
 refine kSR ?_
 refine kC 2 [1,2,4] ?_
 refine kEN ?_
 refine kS ?_
 refine kSR ?_
 refine kC 4 [2,4,8] ?_
 refine kEN ?_
 refine kBJ 8 h (fun h2 => ?_) (fun h3 => ?_)
 ·refine kT ?_
  refine kSR ?_
  refine kC 2 [4,10] ?_
  obtain ⟨y4, hy5, h6⟩ := bindS h2
  refine kA 11 (exergueref10_text_ok hy5) ?_
  obtain ⟨hm, h7⟩ := asrt h6
  refine kQ 12 (.str (([42] : List UInt8) ++ y4)) [] (tr2 := []) hm ?_
  refine kC 1 [4] ?_
  refine kEN ?_
  refine kX ?_
  refine PJ.passRet ?_
  obtain rfl := oi h7
  exact kZ hFn hFH hFD
 ·refine kF ?_
  refine kK ?_
  refine PJ.next ?_
  refine kSR ?_
  refine kC 1 [4] ?_
  refine kEN ?_
  refine kX ?_
  obtain rfl := oi h3
  exact kZ hFn hFH hFD
def exergueref10_Special (x0 : Int) : Option (Bool) :=
 (Option.bind (Option.bind (bif (decide (x0 ≥ 48)) then (bif (decide (x0 ≤ 57)) then (some true) else (some (decide (x0 = 164)))) else (some (decide (x0 = 164)))) fun (s33 : Bool) => (bif s33 then (some (.inr true)) else (some (.inl ())))) (joinX fun (s22 : Unit) => (Option.bind (loopN (fun (s92 : Int) => (bif (decide (s92 < 11)) then (bif inR s92 ([35, 64, 44, 46, 59, 42, 37, 45, 43, 39, 69] : List UInt8).length then (bif (decide (((IntKind.wrap .i32 ((((([35, 64, 44, 46, 59, 42, 37, 45, 43, 39, 69] : List UInt8).getD (s92 : Int).toNat 0).toNat : Nat) : Int)))) = x0)) then (some (.inr (.inr true))) else (some (.inl (IntKind.wrap .i64 (s92 + 1))))) else none) else (some (.inr (.inl ()))))) big 0) (joinX fun (s87 : Unit) => (some false)))))
theorem exergueref10_Special_ok {x0 : Int} {r : Bool} (h : exergueref10_Special x0 = some r) : SC Try.prog 40 [.int .i32 x0] [] (.bool r) [] := by
 refine kFn (fn := Try.f40) (fun F hFn hFH hFD => ?_)
 unfold exergueref10_Special at h
 refine kSR ?_
 refine kC 1 [0,2] ?_
 refine kEN ?_
 obtain ⟨y23, hy24, h25⟩ := bindS h
 refine K.cutX (by kernel_rfl) (fun (s22 : Unit) => ([(0, .int .i32 x0), (2, .bool false)], [])) y23 ?_ (fun s22 hs => ?_)
 ·obtain ⟨s33, hy35, h37⟩ := bindS hy24
  refine K.cutN (by kernel_rfl) (fun (s33 : Bool) => ([(0, .int .i32 x0), (2, .bool false), (13, .bool s33)], [])) s33 ?_ ?_
  ·refine kR ?_
   refine kC 3 [0,2,6] ?_
   refine kB 6 hy35 (fun h39 => ?_) (fun h40 => ?_)
   ·refine kC 4 [0,2,10] ?_
    refine kB 10 h39 (fun h42 => ?_) (fun h43 => ?_)
    ·refine kC 3 [0,2,13] ?_
     refine kE ?_
     obtain rfl := oi h42
     exact kN [0, 2, 13]
    ·refine kC 3 [0,2,13] ?_
     refine kE ?_
     obtain rfl := oi h43
     exact kN [0, 2, 13]
   ·refine kC 7 [0,2,13] ?_
    refine kE ?_
    obtain rfl := oi h40
    exact kN [0, 2, 13]
  ·refine kBJ 13 h37 (fun h45 => ?_) (fun h46 => ?_)
   ·refine kT ?_
    refine kSR ?_
    refine kC 1 [0,2] ?_
    refine kEN ?_
    refine kX ?_
    obtain rfl := oi h45
    have h47 := joinX_inr h25
    refine PJ.cutXr (fun e => nomatch e) ?_
    obtain rfl := oi h47
    exact kZ hFn hFH hFD
   ·refine kF ?_
    refine kK ?_
    obtain rfl := oi h46
    exact kXl [0, 2]
 ·subst hs
  have h26 := joinX_inl h25
  obtain ⟨y88, hy89, h90⟩ := bindS h26
  refine K.cutX (by kernel_rfl) (fun (s87 : Unit) => ([(2, .bool false)], [])) y88 ?_ (fun s87 hs => ?_)
  ·refine kSR ?_
   refine kC 1 [0,2,3] ?_
   refine kEN ?_
   refine kb 0 ?_
   refine kl (fun (s92 : Int) => ([(0, .int .i32 x0), (2, .bool false), (3, .int .i64 s92)], [])) hy89 [0, 2, 3] (fun s92 x118 hs117 => ?_)
   refine kS ?_
   refine kSR ?_
   refine kC 2 [0,2,3,15] ?_
   refine kEN ?_
   refine kBJ 15 hs117 (fun h120 => ?_) (fun h121 => ?_)
   ·refine kT ?_
    refine kK ?_
    refine PJ.next ?_
    refine kS ?_
    refine kb 1 ?_
    refine kSR ?_
    refine kC 1 [0,2,3,18] ?_
    obtain ⟨hm, h122⟩ := asrt h120
    refine kG 19 hm ?_
    refine kC 3 [0,2,3,22] ?_
    refine kEN ?_
    refine kBJ 22 h122 (fun h124 => ?_) (fun h125 => ?_)
    ·refine kT ?_
     refine kSR ?_
     refine kC 1 [0,2,3] ?_
     refine kEN ?_
     refine kX ?_
     refine PJ.blockRet ?_
     refine PJ.passRet ?_
     obtain rfl := oi h124
     refine PJ.loopOut (fun e => nomatch e) (fun he128 => ?_)
     have h126 := congrArg some he128
     refine PJ.blockRet ?_
     obtain rfl := oi h126
     have h127 := joinX_inr h90
     refine PJ.cutXr (fun e => nomatch e) ?_
     obtain rfl := oi h127
     exact kZ hFn hFH hFD
    ·refine kF ?_
     refine kK ?_
     refine PJ.blockNormal ?_
     refine PJ.next ?_
     refine kR ?_
     refine kC 3 [0,2,3] ?_
     refine kE ?_
     obtain rfl := oi h125
     exact kLN [0, 2, 3]
   ·refine kF ?_
    refine K.exit 0 (by kernel_rfl) ?_
    refine PJ.passExit ?_
    obtain rfl := oi h121
    refine PJ.loopOut (fun e => nomatch e) (fun he130 => ?_)
    have h129 := congrArg some he130
    refine PJ.blockOut ?_
    obtain rfl := oi h129
    exact kXl [2]
  ·subst hs
   have h91 := joinX_inl h90
   refine kSR ?_
   refine kC 1 [2] ?_
   refine kEN ?_
   refine kX ?_
   obtain rfl := oi h91
   exact kZ hFn hFH hFD
def exergueref10_written (x0 : List St33) : Option (List UInt8) :=
 (Option.bind (loopN (fun (s633 : (List UInt8) × Bool × Int) => (bif (decide (s633.2.2 < (x0.length : Int))) then (Option.bind (bif inR s633.2.2 x0.length then (Option.bind (exergueref10_Special ((nth x0 s633.2.2).R_)) fun y1160 => (Option.bind (bif inR s633.2.2 x0.length then (bif (decide (((nth x0 s633.2.2).Kind_) = 0)) then (bif inR s633.2.2 x0.length then (some ((decide (((nth x0 s633.2.2).R_) = 39)))) else none) else (some false)) else none) fun (s1168 : Bool) => (Option.bind (bif inR s633.2.2 x0.length then (bif (decide (((nth x0 s633.2.2).Kind_) = 0)) then (some y1160) else (some false)) else none) fun (s1182 : Bool) => (Option.bind (Option.bind (bif (!s1168) then (some (s1182 != s633.2.1)) else (some false)) fun (s1214 : Bool) => (bif s1214 then (bif room (s633.1.length + ([39] : List UInt8).length) then (some ((s633.1 ++ ([39] : List UInt8)), s1182)) else none) else (some (s633.1, s633.2.1)))) fun (s1206 : (List UInt8) × Bool) => (bif inR s633.2.2 x0.length then (bif (decide (((nth x0 s633.2.2).Kind_) = 0)) then (bif inR s633.2.2 x0.length then (Option.bind (exergueref10_text ((nth x0 s633.2.2).R_)) fun y1231 => (bif room (s1206.1.length + y1231.length) then (bif s1168 then (bif room ((s1206.1 ++ y1231).length + ([39] : List UInt8).length) then (some (((s1206.1 ++ y1231) ++ ([39] : List UInt8)), s1206.2)) else none) else (some ((s1206.1 ++ y1231), s1206.2))) else none)) else none) else (bif (decide (((nth x0 s633.2.2).Kind_) = 1)) then (bif room (s1206.1.length + ([45] : List UInt8).length) then (some ((s1206.1 ++ ([45] : List UInt8)), s1206.2)) else none) else (bif (decide (((nth x0 s633.2.2).Kind_) = 2)) then (bif room (s1206.1.length + ([43] : List UInt8).length) then (some ((s1206.1 ++ ([43] : List UInt8)), s1206.2)) else none) else (bif (decide (((nth x0 s633.2.2).Kind_) = 3)) then (bif room (s1206.1.length + ([37] : List UInt8).length) then (some ((s1206.1 ++ ([37] : List UInt8)), s1206.2)) else none) else (bif (decide (((nth x0 s633.2.2).Kind_) = 4)) then (Option.bind (exergueref10_text 164) fun y1254 => (bif room (s1206.1.length + y1254.length) then (some ((s1206.1 ++ y1254), s1206.2)) else none)) else (some (s1206.1, s1206.2))))))) else none))))) else none) fun (s1154 : (List UInt8) × Bool) => (some (.inl (s1154.1, s1154.2, (IntKind.wrap .i64 (s633.2.2 + 1)))))) else (some (.inr (s633.1, s633.2.1))))) big (([] : List UInt8), false, 0)) fun (s628 : (List UInt8) × Bool) => (Option.bind (bif s628.2 then (bif room (s628.1.length + ([39] : List UInt8).length) then (some (s628.1 ++ ([39] : List UInt8))) else none) else (some s628.1)) fun (s1264 : (List UInt8)) => (some s1264)))
theorem exergueref10_written_ok {x0 : List St33} {r : List UInt8} (h : exergueref10_written x0 = some r) : SC Try.prog 28 [lsv encSt33 2 x0] [] (.str r) [] := by
 refine kFn (fn := Try.f28) (fun F hFn hFH hFD => ?_)
 unfold exergueref10_written at h
 refine kSR ?_
 refine kC 1 [0,2] ?_
 refine kEN ?_
 refine kSR ?_
 refine kC 1 [0,2,3] ?_
 refine kEN ?_
 refine kSR ?_
 refine kC 1 [0,2,3,4] ?_
 refine kEN ?_
 obtain ⟨s628, hy630, h632⟩ := bindS h
 refine K.cutN (by kernel_rfl) (fun (s628 : (List UInt8) × Bool) => ([(2, .str ([] : List UInt8)), (3, .str s628.1), (4, .bool s628.2)], [])) s628 ?_ ?_
 ·refine kSR ?_
  refine kC 1 [0,2,3,4,5] ?_
  refine kEN ?_
  refine kb 0 ?_
  refine kl (fun (s633 : (List UInt8) × Bool × Int) => ([(0, lsv encSt33 2 x0), (2, .str ([] : List UInt8)), (3, .str s633.1), (4, .bool s633.2.1), (5, .int .i64 s633.2.2)], [])) hy630 [0, 2, 3, 4, 5] (fun s633 x1051 hs1050 => ?_)
  refine kS ?_
  refine kSR ?_
  refine kC 4 [0,2,3,4,5,12] ?_
  refine kEN ?_
  refine kBJ 12 hs1050 (fun h1053 => ?_) (fun h1054 => ?_)
  ·refine kT ?_
   refine kK ?_
   refine PJ.next ?_
   obtain ⟨s1154, hy1156, h1158⟩ := bindS h1053
   refine K.cutN (by kernel_rfl) (fun (s1154 : (List UInt8) × Bool) => ([(0, lsv encSt33 2 x0), (2, .str ([] : List UInt8)), (3, .str s1154.1), (4, .bool s1154.2), (5, .int .i64 s633.2.2)], [])) s1154 ?_ ?_
   ·refine kb 1 ?_
    refine kSR ?_
    refine kC 2 [0,2,3,4,5,15,16] ?_
    obtain ⟨hm, h1159⟩ := asrt hy1156
    refine kI 17 encSt33_len hm ?_
    refine kC 2 [0,2,3,4,5,19] ?_
    obtain ⟨y1160, hy1161, h1162⟩ := bindS h1159
    refine kA 20 (exergueref10_Special_ok hy1161) ?_
    refine kC 1 [0,2,3,4,5,6] ?_
    refine kEN ?_
    obtain ⟨s1168, hy1170, h1172⟩ := bindS h1162
    refine K.cutN (by kernel_rfl) (fun (s1168 : Bool) => ([(0, lsv encSt33 2 x0), (2, .str ([] : List UInt8)), (3, .str s633.1), (4, .bool s633.2.1), (5, .int .i64 s633.2.2), (6, .bool y1160), (7, .bool s1168)], [])) s1168 ?_ ?_
    ·refine kR ?_
     refine kC 2 [0,2,3,4,5,6,21,22] ?_
     obtain ⟨hm, h1173⟩ := asrt hy1170
     refine kI 23 encSt33_len hm ?_
     refine kC 4 [0,2,3,4,5,6,27] ?_
     refine kB 27 h1173 (fun h1175 => ?_) (fun h1176 => ?_)
     ·refine kC 2 [0,2,3,4,5,6,27,28,29] ?_
      obtain ⟨hm, h1177⟩ := asrt h1175
      refine kI 30 encSt33_len hm ?_
      refine kC 5 [0,2,3,4,5,6,7] ?_
      refine kE ?_
      obtain rfl := oi h1177
      exact kN [0, 2, 3, 4, 5, 6, 7]
     ·refine kC 8 [0,2,3,4,5,6,7] ?_
      refine kE ?_
      obtain rfl := oi h1176
      exact kN [0, 2, 3, 4, 5, 6, 7]
    ·obtain ⟨s1182, hy1184, h1186⟩ := bindS h1172
     refine K.cutN (by kernel_rfl) (fun (s1182 : Bool) => ([(0, lsv encSt33 2 x0), (2, .str ([] : List UInt8)), (3, .str s633.1), (4, .bool s633.2.1), (5, .int .i64 s633.2.2), (7, .bool s1168), (8, .bool s1182)], [])) s1182 ?_ ?_
     ·refine kR ?_
      refine kC 2 [0,2,3,4,5,6,7,35,36] ?_
      obtain ⟨hm, h1187⟩ := asrt hy1184
      refine kI 37 encSt33_len hm ?_
      refine kC 4 [0,2,3,4,5,6,7,41] ?_
      refine kB 41 h1187 (fun h1189 => ?_) (fun h1190 => ?_)
      ·refine kC 3 [0,2,3,4,5,7,8] ?_
       refine kE ?_
       obtain rfl := oi h1189
       exact kN [0, 2, 3, 4, 5, 7, 8]
      ·refine kC 3 [0,2,3,4,5,7,8] ?_
       refine kE ?_
       obtain rfl := oi h1190
       exact kN [0, 2, 3, 4, 5, 7, 8]
     ·obtain ⟨s1206, hy1208, h1210⟩ := bindS h1186
      refine K.cutN (by kernel_rfl) (fun (s1206 : (List UInt8) × Bool) => ([(0, lsv encSt33 2 x0), (2, .str ([] : List UInt8)), (3, .str s1206.1), (4, .bool s1206.2), (5, .int .i64 s633.2.2), (7, .bool s1168)], [])) s1206 ?_ ?_
      ·obtain ⟨s1214, hy1216, h1218⟩ := bindS hy1208
       refine K.cutN (by kernel_rfl) (fun (s1214 : Bool) => ([(0, lsv encSt33 2 x0), (2, .str ([] : List UInt8)), (3, .str s633.1), (4, .bool s633.2.1), (5, .int .i64 s633.2.2), (7, .bool s1168), (8, .bool s1182), (50, .bool s1214)], [])) s1214 ?_ ?_
       ·refine kR ?_
        refine kC 3 [0,2,3,4,5,7,8,46] ?_
        refine kB 46 hy1216 (fun h1220 => ?_) (fun h1221 => ?_)
        ·refine kC 4 [0,2,3,4,5,7,8,50] ?_
         refine kE ?_
         obtain rfl := oi h1220
         exact kN [0, 2, 3, 4, 5, 7, 8, 50]
        ·refine kC 4 [0,2,3,4,5,7,8,50] ?_
         refine kE ?_
         obtain rfl := oi h1221
         exact kN [0, 2, 3, 4, 5, 7, 8, 50]
       ·refine kBJ 50 h1218 (fun h1223 => ?_) (fun h1224 => ?_)
        ·refine kT ?_
         refine kSR ?_
         refine kC 1 [0,2,3,4,5,7,8,51] ?_
         obtain ⟨hm, h1225⟩ := asrt h1223
         refine kQ 52 (.str (s633.1 ++ ([39] : List UInt8))) [] (tr2 := []) hm ?_
         refine kC 1 [0,2,3,4,5,7,8] ?_
         refine kEN ?_
         refine kR ?_
         refine kC 2 [0,2,3,4,5,7] ?_
         refine kE ?_
         obtain rfl := oi h1225
         exact kN [0, 2, 3, 4, 5, 7]
        ·refine kF ?_
         refine kK ?_
         obtain rfl := oi h1224
         exact kN [0, 2, 3, 4, 5, 7]
      ·refine kSR ?_
       refine kC 2 [0,2,3,4,5,7,54,55] ?_
       obtain ⟨hm, h1226⟩ := asrt h1210
       refine kI 56 encSt33_len hm ?_
       refine kC 2 [0,2,3,4,5,7,58] ?_
       refine kEN ?_
       refine kb 2 ?_
       refine kSR ?_
       refine kC 2 [0,2,3,4,5,7,58,59] ?_
       refine kEN ?_
       refine kBJ 59 h1226 (fun h1228 => ?_) (fun h1229 => ?_)
       ·refine kT ?_
        refine kSR ?_
        refine kC 3 [0,2,3,4,5,7,61,62,63] ?_
        obtain ⟨hm, h1230⟩ := asrt h1228
        refine kI 64 encSt33_len hm ?_
        refine kC 2 [0,2,3,4,5,7,61,66] ?_
        obtain ⟨y1231, hy1232, h1233⟩ := bindS h1230
        refine kA 67 (exergueref10_text_ok hy1232) ?_
        obtain ⟨hm, h1234⟩ := asrt h1233
        refine kQ 68 (.str (s1206.1 ++ y1231)) [] (tr2 := []) hm ?_
        refine kC 1 [0,2,3,4,5,7] ?_
        refine kEN ?_
        refine kSR ?_
        refine kC 1 [0,2,3,4,5,69] ?_
        refine kEN ?_
        refine kBJ 69 h1234 (fun h1236 => ?_) (fun h1237 => ?_)
        ·refine kT ?_
         refine kR ?_
         refine kC 1 [0,2,3,4,5,70] ?_
         obtain ⟨hm, h1238⟩ := asrt h1236
         refine kQ 71 (.str ((s1206.1 ++ y1231) ++ ([39] : List UInt8))) [] (tr2 := []) hm ?_
         refine kC 1 [0,2,3,4,5] ?_
         refine kE ?_
         refine PJ.blockNormal ?_
         refine PJ.blockNormal ?_
         obtain rfl := oi h1238
         exact kN [0, 2, 3, 4, 5]
        ·refine kF ?_
         refine kK ?_
         refine PJ.blockNormal ?_
         refine PJ.blockNormal ?_
         obtain rfl := oi h1237
         exact kN [0, 2, 3, 4, 5]
       ·refine kF ?_
        refine kSR ?_
        refine kC 2 [0,2,3,4,5,58,72] ?_
        refine kEN ?_
        refine kBJ 72 h1229 (fun h1240 => ?_) (fun h1241 => ?_)
        ·refine kT ?_
         refine kR ?_
         refine kC 1 [0,2,3,4,5,74] ?_
         obtain ⟨hm, h1242⟩ := asrt h1240
         refine kQ 75 (.str (s1206.1 ++ ([45] : List UInt8))) [] (tr2 := []) hm ?_
         refine kC 1 [0,2,3,4,5] ?_
         refine kE ?_
         refine PJ.blockNormal ?_
         refine PJ.blockNormal ?_
         obtain rfl := oi h1242
         exact kN [0, 2, 3, 4, 5]
        ·refine kF ?_
         refine kSR ?_
         refine kC 2 [0,2,3,4,5,58,76] ?_
         refine kEN ?_
         refine kBJ 76 h1241 (fun h1244 => ?_) (fun h1245 => ?_)
         ·refine kT ?_
          refine kR ?_
          refine kC 1 [0,2,3,4,5,78] ?_
          obtain ⟨hm, h1246⟩ := asrt h1244
          refine kQ 79 (.str (s1206.1 ++ ([43] : List UInt8))) [] (tr2 := []) hm ?_
          refine kC 1 [0,2,3,4,5] ?_
          refine kE ?_
          refine PJ.blockNormal ?_
          refine PJ.blockNormal ?_
          obtain rfl := oi h1246
          exact kN [0, 2, 3, 4, 5]
         ·refine kF ?_
          refine kSR ?_
          refine kC 2 [0,2,3,4,5,58,80] ?_
          refine kEN ?_
          refine kBJ 80 h1245 (fun h1248 => ?_) (fun h1249 => ?_)
          ·refine kT ?_
           refine kR ?_
           refine kC 1 [0,2,3,4,5,82] ?_
           obtain ⟨hm, h1250⟩ := asrt h1248
           refine kQ 83 (.str (s1206.1 ++ ([37] : List UInt8))) [] (tr2 := []) hm ?_
           refine kC 1 [0,2,3,4,5] ?_
           refine kE ?_
           refine PJ.blockNormal ?_
           refine PJ.blockNormal ?_
           obtain rfl := oi h1250
           exact kN [0, 2, 3, 4, 5]
          ·refine kF ?_
           refine kSR ?_
           refine kC 2 [0,2,3,4,5,84] ?_
           refine kEN ?_
           refine kBJ 84 h1249 (fun h1252 => ?_) (fun h1253 => ?_)
           ·refine kT ?_
            refine kR ?_
            refine kC 1 [0,2,3,4,5,86] ?_
            obtain ⟨y1254, hy1255, h1256⟩ := bindS h1252
            refine kA 87 (exergueref10_text_ok hy1255) ?_
            obtain ⟨hm, h1257⟩ := asrt h1256
            refine kQ 88 (.str (s1206.1 ++ y1254)) [] (tr2 := []) hm ?_
            refine kC 1 [0,2,3,4,5] ?_
            refine kE ?_
            refine PJ.blockNormal ?_
            refine PJ.blockNormal ?_
            obtain rfl := oi h1257
            exact kN [0, 2, 3, 4, 5]
           ·refine kF ?_
            refine kK ?_
            refine PJ.blockNormal ?_
            refine PJ.blockNormal ?_
            obtain rfl := oi h1253
            exact kN [0, 2, 3, 4, 5]
   ·refine kR ?_
    refine kC 3 [0,2,3,4,5] ?_
    refine kE ?_
    obtain rfl := oi h1158
    exact kLN [0, 2, 3, 4, 5]
  ·refine kF ?_
   refine K.exit 0 (by kernel_rfl) ?_
   refine PJ.passExit ?_
   obtain rfl := oi h1054
   refine PJ.loopOut (fun e => nomatch e) (fun he1259 => ?_)
   have h1258 := congrArg some he1259
   refine PJ.blockOut ?_
   obtain rfl := oi h1258
   exact kN [2, 3, 4]
 ·obtain ⟨s1264, hy1266, h1268⟩ := bindS h632
  refine K.cutN (by kernel_rfl) (fun (s1264 : (List UInt8)) => ([(2, .str ([] : List UInt8)), (3, .str s1264)], [])) s1264 ?_ ?_
  ·refine kSR ?_
   refine kC 1 [2,3,89] ?_
   refine kEN ?_
   refine kBJ 89 hy1266 (fun h1270 => ?_) (fun h1271 => ?_)
   ·refine kT ?_
    refine kR ?_
    refine kC 1 [2,3,90] ?_
    obtain ⟨hm, h1272⟩ := asrt h1270
    refine kQ 91 (.str (s628.1 ++ ([39] : List UInt8))) [] (tr2 := []) hm ?_
    refine kC 1 [2,3] ?_
    refine kE ?_
    obtain rfl := oi h1272
    exact kN [2, 3]
   ·refine kF ?_
    refine kK ?_
    obtain rfl := oi h1271
    exact kN [2, 3]
  ·refine kSR ?_
   refine kC 2 [2] ?_
   refine kEN ?_
   refine kX ?_
   obtain rfl := oi h1268
   exact kZ hFn hFH hFD
def exergueref10_times (x0 : List UInt8) (x1 : Int) : Option (List UInt8) :=
 (Option.bind (loopN (fun (s27 : (List UInt8) × Int) => (bif (decide (s27.2 < x1)) then (bif room (s27.1.length + x0.length) then (some (.inl ((s27.1 ++ x0), (IntKind.wrap .i64 (s27.2 + 1))))) else none) else (some (.inr s27.1)))) big (([] : List UInt8), 0)) fun (s22 : (List UInt8)) => (some s22))
theorem exergueref10_times_ok {x0 : List UInt8} {x1 : Int} {r : List UInt8} (h : exergueref10_times x0 x1 = some r) : SC Try.prog 30 [.str x0, .int .i64 x1] [] (.str r) [] := by
 refine kFn (fn := Try.f30) (fun F hFn hFH hFD => ?_)
 unfold exergueref10_times at h
 refine kSR ?_
 refine kC 1 [0,1,4] ?_
 refine kEN ?_
 refine kSR ?_
 refine kC 1 [0,1,4,5] ?_
 refine kEN ?_
 obtain ⟨s22, hy24, h26⟩ := bindS h
 refine K.cutN (by kernel_rfl) (fun (s22 : (List UInt8)) => ([(4, .str ([] : List UInt8)), (5, .str s22)], [])) s22 ?_ ?_
 ·refine kSR ?_
  refine kC 1 [0,1,4,5,6] ?_
  refine kEN ?_
  refine kb 0 ?_
  refine kl (fun (s27 : (List UInt8) × Int) => ([(0, .str x0), (1, .int .i64 x1), (4, .str ([] : List UInt8)), (5, .str s27.1), (6, .int .i64 s27.2)], [])) hy24 [0, 1, 4, 5, 6] (fun s27 x41 hs40 => ?_)
  refine kS ?_
  refine kSR ?_
  refine kC 3 [0,1,4,5,6,9] ?_
  refine kEN ?_
  refine kBJ 9 hs40 (fun h43 => ?_) (fun h44 => ?_)
  ·refine kT ?_
   refine kK ?_
   refine PJ.next ?_
   refine kS ?_
   refine kb 1 ?_
   refine kR ?_
   refine kC 2 [0,1,4,5,6,12,13] ?_
   obtain ⟨hm, h45⟩ := asrt h43
   refine kQ 14 (.str (s27.1 ++ x0)) [] (tr2 := []) hm ?_
   refine kC 1 [0,1,4,5,6] ?_
   refine kE ?_
   refine PJ.blockNormal ?_
   refine PJ.next ?_
   refine kR ?_
   refine kC 3 [0,1,4,5,6] ?_
   refine kE ?_
   obtain rfl := oi h45
   exact kLN [0, 1, 4, 5, 6]
  ·refine kF ?_
   refine K.exit 0 (by kernel_rfl) ?_
   refine PJ.passExit ?_
   obtain rfl := oi h44
   refine PJ.loopOut (fun e => nomatch e) (fun he47 => ?_)
   have h46 := congrArg some he47
   refine PJ.blockOut ?_
   obtain rfl := oi h46
   exact kN [4, 5]
 ·refine kSR ?_
  refine kC 2 [4] ?_
  refine kEN ?_
  refine kX ?_
  obtain rfl := oi h26
  exact kZ hFn hFH hFD
def exergueref10_Number (x0 : St23) : Option (List UInt8) :=
 (Option.bind (loopN (fun (s519 : (List UInt8) × Int) => (bif (decide (s519.2 < (IntKind.wrap .i64 (x0.Hash_ + x0.MinInt_)))) then (Option.bind (Option.bind (Option.bind (bif (decide (x0.G1_ > 0)) then (bif (decide (s519.2 = x0.G1_)) then (some true) else (bif (decide (s519.2 > x0.G1_)) then (bif (decide (x0.G2_ > 0)) then (bif nz x0.G2_ then (some ((decide (((Int.tmod (IntKind.wrap .i64 (s519.2 - x0.G1_)) x0.G2_)) = 0)))) else none) else (some false)) else (some false))) else (some false)) fun (s1003 : Bool) => (bif s1003 then (bif room (([44] : List UInt8).length + s519.1.length) then (some (([44] : List UInt8) ++ s519.1)) else none) else (some s519.1))) fun (s985 : (List UInt8)) => (bif (decide (s519.2 < x0.MinInt_)) then (bif room (([48] : List UInt8).length + s985.length) then (some (([48] : List UInt8) ++ s985)) else none) else (bif room (([35] : List UInt8).length + s985.length) then (some (([35] : List UInt8) ++ s985)) else none))) fun (s945 : (List UInt8)) => (some (.inl (s945, (IntKind.wrap .i64 (s519.2 + 1)))))) else (some (.inr s519.1)))) big (([] : List UInt8), 0)) fun (s514 : (List UInt8)) => (Option.bind (exergueref10_times ([64] : List UInt8) x0.MinSig_) fun y1032 => (Option.bind (exergueref10_times ([35] : List UInt8) (IntKind.wrap .i64 (x0.MaxSig_ - x0.MinSig_))) fun y1035 => (bif room (y1032.length + y1035.length) then (bif room ((y1032 ++ y1035).length + s514.length) then (Option.bind (bif (decide (x0.MaxFrac_ > 0)) then (bif room (((y1032 ++ y1035) ++ s514).length + ([46] : List UInt8).length) then (Option.bind (exergueref10_times ([48] : List UInt8) x0.MinFrac_) fun y1061 => (bif room (((((y1032 ++ y1035) ++ s514) ++ ([46] : List UInt8))).length + y1061.length) then (Option.bind (exergueref10_times ([35] : List UInt8) (IntKind.wrap .i64 (x0.MaxFrac_ - x0.MinFrac_))) fun y1065 => (bif room (((((((y1032 ++ y1035) ++ s514) ++ ([46] : List UInt8))) ++ y1061)).length + y1065.length) then (some ((((((((y1032 ++ y1035) ++ s514) ++ ([46] : List UInt8))) ++ y1061)) ++ y1065))) else none)) else none)) else none) else (some ((y1032 ++ y1035) ++ s514))) fun (s1052 : (List UInt8)) => (Option.bind (bif (decide (x0.Exp_ > 0)) then (bif room (s1052.length + ([69] : List UInt8).length) then (Option.bind (bif x0.ExpPlus_ then (bif room ((s1052 ++ ([69] : List UInt8)).length + ([43] : List UInt8).length) then (some (((s1052 ++ ([69] : List UInt8)) ++ ([43] : List UInt8)))) else none) else (some (s1052 ++ ([69] : List UInt8)))) fun (s1103 : (List UInt8)) => (Option.bind (exergueref10_times ([48] : List UInt8) x0.Exp_) fun y1112 => (bif room (s1103.length + y1112.length) then (some (s1103 ++ y1112)) else none))) else none) else (some s1052)) fun (s1090 : (List UInt8)) => (some s1090))) else none) else none))))
theorem exergueref10_Number_ok {x0 : St23} {r : List UInt8} (h : exergueref10_Number x0 = some r) : SC Try.prog 16 [.agg (encSt23 x0)] [] (.str r) [] := by
 refine kFn (fn := Try.f16) (fun F hFn hFH hFD => ?_)
 unfold exergueref10_Number at h
 refine kSR ?_
 refine kC 2 [1,2] ?_
 refine kEN ?_
 refine kSR ?_
 refine kC 1 [1,2,3] ?_
 refine kEN ?_
 obtain ⟨s514, hy516, h518⟩ := bindS h
 refine K.cutN (by kernel_rfl) (fun (s514 : (List UInt8)) => ([(1, .ptr 0 0), (2, .str ([] : List UInt8)), (3, .str s514)], [.box (encSt23 x0)])) s514 ?_ ?_
 ·refine kSR ?_
  refine kC 1 [1,2,3,4] ?_
  refine kEN ?_
  refine kb 0 ?_
  refine kl (fun (s519 : (List UInt8) × Int) => ([(1, .ptr 0 0), (2, .str ([] : List UInt8)), (3, .str s519.1), (4, .int .i64 s519.2)], [.box (encSt23 x0)])) hy516 [1, 2, 3, 4] (fun s519 x861 hs860 => ?_)
  refine kS ?_
  refine kSR ?_
  refine kC 7 [1,2,3,4,11] ?_
  refine kEN ?_
  refine kBJ 11 hs860 (fun h863 => ?_) (fun h864 => ?_)
  ·refine kT ?_
   refine kK ?_
   refine PJ.next ?_
   obtain ⟨s945, hy947, h949⟩ := bindS h863
   refine K.cutN (by kernel_rfl) (fun (s945 : (List UInt8)) => ([(1, .ptr 0 0), (2, .str ([] : List UInt8)), (3, .str s945), (4, .int .i64 s519.2)], [.box (encSt23 x0)])) s945 ?_ ?_
   ·refine kb 1 ?_
    obtain ⟨s985, hy987, h989⟩ := bindS hy947
    refine K.cutN (by kernel_rfl) (fun (s985 : (List UInt8)) => ([(1, .ptr 0 0), (2, .str ([] : List UInt8)), (3, .str s985), (4, .int .i64 s519.2)], [.box (encSt23 x0)])) s985 ?_ ?_
    ·obtain ⟨s1003, hy1005, h1007⟩ := bindS hy987
     refine K.cutN (by kernel_rfl) (fun (s1003 : Bool) => ([(1, .ptr 0 0), (2, .str ([] : List UInt8)), (3, .str s519.1), (4, .int .i64 s519.2), (43, .bool s1003)], [.box (encSt23 x0)])) s1003 ?_ ?_
     ·refine kR ?_
      refine kC 4 [1,2,3,4,17] ?_
      refine kB 17 hy1005 (fun h1009 => ?_) (fun h1010 => ?_)
      ·refine kC 5 [1,2,3,4,17,22] ?_
       refine kB 22 h1009 (fun h1012 => ?_) (fun h1013 => ?_)
       ·refine kC 21 [1,2,3,4,43] ?_
        refine kE ?_
        obtain rfl := oi h1012
        exact kN [1, 2, 3, 4, 43]
       ·refine kC 5 [1,2,3,4,17,22,27] ?_
        refine kB 27 h1013 (fun h1015 => ?_) (fun h1016 => ?_)
        ·refine kC 5 [1,2,3,4,17,22,32] ?_
         refine kB 32 h1015 (fun h1018 => ?_) (fun h1019 => ?_)
         ·refine kC 6 [1,2,3,4,17,22,32,36,38] ?_
          obtain ⟨hm, h1020⟩ := asrt h1018
          refine kQ 39 (.int .i64 (Int.tmod (IntKind.wrap .i64 (s519.2 - x0.G1_)) x0.G2_)) [] (tr2 := []) hm ?_
          refine kC 4 [1,2,3,4,43] ?_
          refine kE ?_
          obtain rfl := oi h1020
          exact kN [1, 2, 3, 4, 43]
         ·refine kC 11 [1,2,3,4,43] ?_
          refine kE ?_
          obtain rfl := oi h1019
          exact kN [1, 2, 3, 4, 43]
        ·refine kC 16 [1,2,3,4,43] ?_
         refine kE ?_
         obtain rfl := oi h1016
         exact kN [1, 2, 3, 4, 43]
      ·refine kC 26 [1,2,3,4,43] ?_
       refine kE ?_
       obtain rfl := oi h1010
       exact kN [1, 2, 3, 4, 43]
     ·refine kBJ 43 h1007 (fun h1022 => ?_) (fun h1023 => ?_)
      ·refine kT ?_
       refine kR ?_
       refine kC 1 [1,2,3,4,44] ?_
       obtain ⟨hm, h1024⟩ := asrt h1022
       refine kQ 45 (.str (([44] : List UInt8) ++ s519.1)) [] (tr2 := []) hm ?_
       refine kC 1 [1,2,3,4] ?_
       refine kE ?_
       obtain rfl := oi h1024
       exact kN [1, 2, 3, 4]
      ·refine kF ?_
       refine kK ?_
       obtain rfl := oi h1023
       exact kN [1, 2, 3, 4]
    ·refine kSR ?_
     refine kC 4 [1,2,3,4,49] ?_
     refine kEN ?_
     refine kBJ 49 h989 (fun h1026 => ?_) (fun h1027 => ?_)
     ·refine kT ?_
      refine kR ?_
      refine kC 1 [1,2,3,4,50] ?_
      obtain ⟨hm, h1028⟩ := asrt h1026
      refine kQ 51 (.str (([48] : List UInt8) ++ s985)) [] (tr2 := []) hm ?_
      refine kC 1 [1,2,3,4] ?_
      refine kE ?_
      refine PJ.blockNormal ?_
      obtain rfl := oi h1028
      exact kN [1, 2, 3, 4]
     ·refine kF ?_
      refine kR ?_
      refine kC 1 [1,2,3,4,52] ?_
      obtain ⟨hm, h1029⟩ := asrt h1027
      refine kQ 53 (.str (([35] : List UInt8) ++ s985)) [] (tr2 := []) hm ?_
      refine kC 1 [1,2,3,4] ?_
      refine kE ?_
      refine PJ.blockNormal ?_
      obtain rfl := oi h1029
      exact kN [1, 2, 3, 4]
   ·refine kR ?_
    refine kC 3 [1,2,3,4] ?_
    refine kE ?_
    obtain rfl := oi h949
    exact kLN [1, 2, 3, 4]
  ·refine kF ?_
   refine K.exit 0 (by kernel_rfl) ?_
   refine PJ.passExit ?_
   obtain rfl := oi h864
   refine PJ.loopOut (fun e => nomatch e) (fun he1031 => ?_)
   have h1030 := congrArg some he1031
   refine PJ.blockOut ?_
   obtain rfl := oi h1030
   exact kN [1, 2, 3]
 ·refine kS ?_
  refine J.keep [1, 2, 3] (L2 := [(1, .ptr 0 0), (2, .str ([] : List UInt8)), (3, .str s514)]) (by kernel_rfl) ?_
  refine K.draw (by kernel_rfl) (by kernel_rfl) (by kernel_rfl) (H2 := [.box (encSt23 x0), .res, .res]) (by kernel_rfl) (n := 1) (by kernel_rfl) ?_
  refine kD 2 ?_
  obtain ⟨y1032, hy1033, h1034⟩ := bindS h518
  refine RJ.call0 (d := (some 56)) (f := 30) (args := [.str ([64] : List UInt8), .int .i64 x0.MinSig_]) (v := .str y1032) (tr2 := [([], []), ([0, 1], []), ([], [2, 3])]) (by kernel_rfl) (by kernel_rfl) (.cons (Le.refl _) (.cons (Le.refl _) .nil)) (exergueref10_times_ok hy1033) (by kernel_rfl) ?_
  refine kD 5 ?_
  obtain ⟨y1035, hy1036, h1037⟩ := bindS h1034
  refine RJ.call0 (d := (some 62)) (f := 30) (args := [.str ([35] : List UInt8), .int .i64 (IntKind.wrap .i64 (x0.MaxSig_ - x0.MinSig_))]) (v := .str y1035) (tr2 := [([], []), ([0, 1], []), ([], [2, 3]), ([], []), ([0, 1], []), ([], []), ([0, 1], []), ([], []), ([], [4, 5])]) (by kernel_rfl) (by kernel_rfl) (.cons (Le.refl _) (.cons (Le.refl _) .nil)) (exergueref10_times_ok hy1036) (by kernel_rfl) ?_
  obtain ⟨hm, h1038⟩ := asrt h1037
  refine kQ 63 (.str (y1032 ++ y1035)) [] (tr2 := [([], []), ([0, 1], []), ([], [2, 3]), ([], []), ([0, 1], []), ([], []), ([0, 1], []), ([], []), ([], [4, 5]), ([], [])]) hm ?_
  refine kD 1 ?_
  obtain ⟨hm, h1039⟩ := asrt h1038
  refine kQ 65 (.str ((y1032 ++ y1035) ++ s514)) [] (tr2 := [([], []), ([0, 1], []), ([], [2, 3]), ([], []), ([0, 1], []), ([], []), ([0, 1], []), ([], []), ([], [4, 5]), ([], []), ([], []), ([], [])]) hm ?_
  refine kD 1 ?_
  refine kEN ?_
  obtain ⟨s1052, hy1054, h1056⟩ := bindS h1039
  refine K.cutN (by kernel_rfl) (fun (s1052 : (List UInt8)) => ([(1, .ptr 0 0), (2, .str ([] : List UInt8)), (3, .str s1052)], [.box (encSt23 x0)])) s1052 ?_ ?_
  ·refine kSR ?_
   refine kC 3 [1,2,3,68] ?_
   refine kEN ?_
   refine kBJ 68 hy1054 (fun h1058 => ?_) (fun h1059 => ?_)
   ·refine kT ?_
    refine J.keep [1, 2, 3] (L2 := [(1, .ptr 0 0), (2, .str ([] : List UInt8)), (3, .str ((y1032 ++ y1035) ++ s514))]) (by kernel_rfl) ?_
    refine K.draw (by kernel_rfl) (by kernel_rfl) (by kernel_rfl) (H2 := [.box (encSt23 x0), .res, .res, .res, .res]) (by kernel_rfl) (n := 3) (by kernel_rfl) ?_
    refine kD 1 ?_
    obtain ⟨hm, h1060⟩ := asrt h1058
    refine kQ 70 (.str (((y1032 ++ y1035) ++ s514) ++ ([46] : List UInt8))) [] (tr2 := [([], []), ([], [])]) hm ?_
    refine kD 2 ?_
    obtain ⟨y1061, hy1062, h1063⟩ := bindS h1060
    refine RJ.call0 (d := (some 73)) (f := 30) (args := [.str ([48] : List UInt8), .int .i64 x0.MinFrac_]) (v := .str y1061) (tr2 := [([], []), ([], []), ([], []), ([0, 1], []), ([], [6, 7])]) (by kernel_rfl) (by kernel_rfl) (.cons (Le.refl _) (.cons (Le.refl _) .nil)) (exergueref10_times_ok hy1062) (by kernel_rfl) ?_
    obtain ⟨hm, h1064⟩ := asrt h1063
    refine kQ 74 (.str (((((y1032 ++ y1035) ++ s514) ++ ([46] : List UInt8))) ++ y1061)) [] (tr2 := [([], []), ([], []), ([], []), ([0, 1], []), ([], [6, 7]), ([], [])]) hm ?_
    refine kD 5 ?_
    obtain ⟨y1065, hy1066, h1067⟩ := bindS h1064
    refine RJ.call0 (d := (some 80)) (f := 30) (args := [.str ([35] : List UInt8), .int .i64 (IntKind.wrap .i64 (x0.MaxFrac_ - x0.MinFrac_))]) (v := .str y1065) (tr2 := [([], []), ([], []), ([], []), ([0, 1], []), ([], [6, 7]), ([], []), ([], []), ([0, 1], []), ([], []), ([0, 1], []), ([], []), ([], [8, 9])]) (by kernel_rfl) (by kernel_rfl) (.cons (Le.refl _) (.cons (Le.refl _) .nil)) (exergueref10_times_ok hy1066) (by kernel_rfl) ?_
    obtain ⟨hm, h1068⟩ := asrt h1067
    refine kQ 81 (.str (((((((y1032 ++ y1035) ++ s514) ++ ([46] : List UInt8))) ++ y1061)) ++ y1065)) [] (tr2 := [([], []), ([], []), ([], []), ([0, 1], []), ([], [6, 7]), ([], []), ([], []), ([0, 1], []), ([], []), ([0, 1], []), ([], []), ([], [8, 9]), ([], [])]) hm ?_
    refine kD 1 ?_
    refine kE ?_
    obtain rfl := oi h1068
    refine kW (L2 := [(1, .ptr 0 0), (2, .str ([] : List UInt8)), (3, .str ((((((((y1032 ++ y1035) ++ s514) ++ ([46] : List UInt8))) ++ y1061)) ++ y1065)))]) (H2 := [.box (encSt23 x0)]) hFH hFD [0] ?_
    exact kN [1, 2, 3]
   ·refine kF ?_
    refine kK ?_
    obtain rfl := oi h1059
    refine kW (L2 := [(1, .ptr 0 0), (2, .str ([] : List UInt8)), (3, .str ((y1032 ++ y1035) ++ s514))]) (H2 := [.box (encSt23 x0)]) hFH hFD [0] ?_
    exact kN [1, 2, 3]
  ·obtain ⟨s1090, hy1092, h1094⟩ := bindS h1056
   refine K.cutN (by kernel_rfl) (fun (s1090 : (List UInt8)) => ([(2, .str ([] : List UInt8)), (3, .str s1090)], [])) s1090 ?_ ?_
   ·refine kSR ?_
    refine kC 3 [1,2,3,84] ?_
    refine kEN ?_
    refine kBJ 84 hy1092 (fun h1096 => ?_) (fun h1097 => ?_)
    ·refine kT ?_
     refine kSR ?_
     refine kC 1 [1,2,3,85] ?_
     obtain ⟨hm, h1098⟩ := asrt h1096
     refine kQ 86 (.str (s1052 ++ ([69] : List UInt8))) [] (tr2 := []) hm ?_
     refine kC 1 [1,2,3] ?_
     refine kEN ?_
     obtain ⟨s1103, hy1105, h1107⟩ := bindS h1098
     refine K.cutN (by kernel_rfl) (fun (s1103 : (List UInt8)) => ([(1, .ptr 0 0), (2, .str ([] : List UInt8)), (3, .str s1103)], [.box (encSt23 x0)])) s1103 ?_ ?_
     ·refine kSR ?_
      refine kC 2 [1,2,3,88] ?_
      refine kEN ?_
      refine kBJ 88 hy1105 (fun h1109 => ?_) (fun h1110 => ?_)
      ·refine kT ?_
       refine kR ?_
       refine kC 1 [1,2,3,89] ?_
       obtain ⟨hm, h1111⟩ := asrt h1109
       refine kQ 90 (.str ((s1052 ++ ([69] : List UInt8)) ++ ([43] : List UInt8))) [] (tr2 := []) hm ?_
       refine kC 1 [1,2,3] ?_
       refine kE ?_
       obtain rfl := oi h1111
       exact kN [1, 2, 3]
      ·refine kF ?_
       refine kK ?_
       obtain rfl := oi h1110
       exact kN [1, 2, 3]
     ·refine kR ?_
      refine kC 3 [2,3,91,93] ?_
      obtain ⟨y1112, hy1113, h1114⟩ := bindS h1107
      refine kA 94 (exergueref10_times_ok hy1113) ?_
      obtain ⟨hm, h1115⟩ := asrt h1114
      refine kQ 95 (.str (s1103 ++ y1112)) [] (tr2 := []) hm ?_
      refine kC 1 [2,3] ?_
      refine kE ?_
      obtain rfl := oi h1115
      refine kW (L2 := [(2, .str ([] : List UInt8)), (3, .str (s1103 ++ y1112))]) (H2 := []) hFH hFD [] ?_
      exact kN [2, 3]
    ·refine kF ?_
     refine kK ?_
     obtain rfl := oi h1097
     refine kW (L2 := [(2, .str ([] : List UInt8)), (3, .str s1052)]) (H2 := []) hFH hFD [] ?_
     exact kN [2, 3]
   ·refine kSR ?_
    refine kC 2 [2] ?_
    refine kEN ?_
    refine kX ?_
    obtain rfl := oi h1094
    exact kZ hFn hFH hFD
def exergueref10_Text (x0 : St23) : Option (List UInt8) :=
 (Option.bind (exergueref10_padded x0 1) fun y1 => (Option.bind (exergueref10_written x0.Pre_) fun y4 => (bif room (y1.length + y4.length) then (Option.bind (exergueref10_padded x0 2) fun y8 => (bif room ((y1 ++ y4).length + y8.length) then (Option.bind (exergueref10_Number x0) fun y12 => (bif room (((y1 ++ y4) ++ y8).length + y12.length) then (Option.bind (exergueref10_padded x0 3) fun y16 => (bif room (((((y1 ++ y4) ++ y8) ++ y12)).length + y16.length) then (Option.bind (exergueref10_written x0.Suf_) fun y20 => (bif room (((((((y1 ++ y4) ++ y8) ++ y12)) ++ y16)).length + y20.length) then (Option.bind (exergueref10_padded x0 4) fun y24 => (bif room (((((((((y1 ++ y4) ++ y8) ++ y12)) ++ y16)) ++ y20)).length + y24.length) then (Option.bind (bif x0.Neg_ then (bif room (((((((((((y1 ++ y4) ++ y8) ++ y12)) ++ y16)) ++ y20)) ++ y24)).length + ([59] : List UInt8).length) then (Option.bind (exergueref10_written x0.NPre_) fun y53 => (bif room (((((((((((((y1 ++ y4) ++ y8) ++ y12)) ++ y16)) ++ y20)) ++ y24)) ++ ([59] : List UInt8))).length + y53.length) then (Option.bind (exergueref10_Number x0) fun y57 => (bif room (((((((((((((((y1 ++ y4) ++ y8) ++ y12)) ++ y16)) ++ y20)) ++ y24)) ++ ([59] : List UInt8))) ++ y53)).length + y57.length) then (Option.bind (exergueref10_written x0.NSuf_) fun y61 => (bif room (((((((((((((((((y1 ++ y4) ++ y8) ++ y12)) ++ y16)) ++ y20)) ++ y24)) ++ ([59] : List UInt8))) ++ y53)) ++ y57)).length + y61.length) then (some ((((((((((((((((((y1 ++ y4) ++ y8) ++ y12)) ++ y16)) ++ y20)) ++ y24)) ++ ([59] : List UInt8))) ++ y53)) ++ y57)) ++ y61))) else none)) else none)) else none)) else none) else (some ((((((((((y1 ++ y4) ++ y8) ++ y12)) ++ y16)) ++ y20)) ++ y24)))) fun (s44 : (List UInt8)) => (some s44)) else none)) else none)) else none)) else none)) else none)) else none)))
theorem exergueref10_Text_ok {x0 : St23} {r : List UInt8} (h : exergueref10_Text x0 = some r) : SC Try.prog 14 [.agg (encSt23 x0)] [] (.str r) [] := by
 refine kFn (fn := Try.f14) (fun F hFn hFH hFD => ?_)
 unfold exergueref10_Text at h
 refine kSR ?_
 refine kC 2 [1,2] ?_
 refine kEN ?_
 refine kS ?_
 refine J.keep [1, 2] (L2 := [(1, .ptr 0 0), (2, .str ([] : List UInt8))]) (by kernel_rfl) ?_
 refine K.draw (by kernel_rfl) (by kernel_rfl) (by kernel_rfl) (H2 := [.box (encSt23 x0), .res, .res, .res, .res, .res, .res, .res]) (by kernel_rfl) (n := 1) (by kernel_rfl) ?_
 refine kD 1 ?_
 obtain ⟨y1, hy2, h3⟩ := bindS h
 refine RJ.call0 (d := (some 5)) (f := 27) (args := [.agg (encSt23 x0), .int .i64 1]) (v := .str y1) (tr2 := [([0, 1], []), ([], [2, 3])]) (by kernel_rfl) (by kernel_rfl) (.cons (Le.refl _) (.cons (Le.refl _) .nil)) (exergueref10_padded_ok hy2) (by kernel_rfl) ?_
 refine kD 2 ?_
 obtain ⟨y4, hy5, h6⟩ := bindS h3
 refine RJ.call0 (d := (some 8)) (f := 28) (args := [lsv encSt33 2 x0.Pre_]) (v := .str y4) (tr2 := [([0, 1], []), ([], [2, 3]), ([], []), ([0, 1], []), ([], [4, 5])]) (by kernel_rfl) (by kernel_rfl) (.cons (Le.refl _) .nil) (exergueref10_written_ok hy5) (by kernel_rfl) ?_
 obtain ⟨hm, h7⟩ := asrt h6
 refine kQ 9 (.str (y1 ++ y4)) [] (tr2 := [([0, 1], []), ([], [2, 3]), ([], []), ([0, 1], []), ([], [4, 5]), ([], [])]) hm ?_
 refine kD 1 ?_
 obtain ⟨y8, hy9, h10⟩ := bindS h7
 refine RJ.call0 (d := (some 11)) (f := 27) (args := [.agg (encSt23 x0), .int .i64 2]) (v := .str y8) (tr2 := [([0, 1], []), ([], [2, 3]), ([], []), ([0, 1], []), ([], [4, 5]), ([], []), ([0, 1], []), ([], [6, 7])]) (by kernel_rfl) (by kernel_rfl) (.cons (Le.refl _) (.cons (Le.refl _) .nil)) (exergueref10_padded_ok hy9) (by kernel_rfl) ?_
 obtain ⟨hm, h11⟩ := asrt h10
 refine kQ 12 (.str ((y1 ++ y4) ++ y8)) [] (tr2 := [([0, 1], []), ([], [2, 3]), ([], []), ([0, 1], []), ([], [4, 5]), ([], []), ([0, 1], []), ([], [6, 7]), ([], [])]) hm ?_
 refine kD 1 ?_
 obtain ⟨y12, hy13, h14⟩ := bindS h11
 refine RJ.call0 (d := (some 14)) (f := 16) (args := [.agg (encSt23 x0)]) (v := .str y12) (tr2 := [([0, 1], []), ([], [2, 3]), ([], []), ([0, 1], []), ([], [4, 5]), ([], []), ([0, 1], []), ([], [6, 7]), ([], []), ([0, 1], []), ([], [8, 9])]) (by kernel_rfl) (by kernel_rfl) (.cons (Le.refl _) .nil) (exergueref10_Number_ok hy13) (by kernel_rfl) ?_
 obtain ⟨hm, h15⟩ := asrt h14
 refine kQ 15 (.str (((y1 ++ y4) ++ y8) ++ y12)) [] (tr2 := [([0, 1], []), ([], [2, 3]), ([], []), ([0, 1], []), ([], [4, 5]), ([], []), ([0, 1], []), ([], [6, 7]), ([], []), ([0, 1], []), ([], [8, 9]), ([], [])]) hm ?_
 refine kD 1 ?_
 obtain ⟨y16, hy17, h18⟩ := bindS h15
 refine RJ.call0 (d := (some 17)) (f := 27) (args := [.agg (encSt23 x0), .int .i64 3]) (v := .str y16) (tr2 := [([0, 1], []), ([], [2, 3]), ([], []), ([0, 1], []), ([], [4, 5]), ([], []), ([0, 1], []), ([], [6, 7]), ([], []), ([0, 1], []), ([], [8, 9]), ([], []), ([0, 1], []), ([], [10, 11])]) (by kernel_rfl) (by kernel_rfl) (.cons (Le.refl _) (.cons (Le.refl _) .nil)) (exergueref10_padded_ok hy17) (by kernel_rfl) ?_
 obtain ⟨hm, h19⟩ := asrt h18
 refine kQ 18 (.str (((((y1 ++ y4) ++ y8) ++ y12)) ++ y16)) [] (tr2 := [([0, 1], []), ([], [2, 3]), ([], []), ([0, 1], []), ([], [4, 5]), ([], []), ([0, 1], []), ([], [6, 7]), ([], []), ([0, 1], []), ([], [8, 9]), ([], []), ([0, 1], []), ([], [10, 11]), ([], [])]) hm ?_
 refine kD 2 ?_
 obtain ⟨y20, hy21, h22⟩ := bindS h19
 refine RJ.call0 (d := (some 21)) (f := 28) (args := [lsv encSt33 2 x0.Suf_]) (v := .str y20) (tr2 := [([0, 1], []), ([], [2, 3]), ([], []), ([0, 1], []), ([], [4, 5]), ([], []), ([0, 1], []), ([], [6, 7]), ([], []), ([0, 1], []), ([], [8, 9]), ([], []), ([0, 1], []), ([], [10, 11]), ([], []), ([], []), ([0, 1], []), ([], [12, 13])]) (by kernel_rfl) (by kernel_rfl) (.cons (Le.refl _) .nil) (exergueref10_written_ok hy21) (by kernel_rfl) ?_
 obtain ⟨hm, h23⟩ := asrt h22
 refine kQ 22 (.str (((((((y1 ++ y4) ++ y8) ++ y12)) ++ y16)) ++ y20)) [] (tr2 := [([0, 1], []), ([], [2, 3]), ([], []), ([0, 1], []), ([], [4, 5]), ([], []), ([0, 1], []), ([], [6, 7]), ([], []), ([0, 1], []), ([], [8, 9]), ([], []), ([0, 1], []), ([], [10, 11]), ([], []), ([], []), ([0, 1], []), ([], [12, 13]), ([], [])]) hm ?_
 refine kD 1 ?_
 obtain ⟨y24, hy25, h26⟩ := bindS h23
 refine RJ.call0 (d := (some 24)) (f := 27) (args := [.agg (encSt23 x0), .int .i64 4]) (v := .str y24) (tr2 := [([0, 1], []), ([], [2, 3]), ([], []), ([0, 1], []), ([], [4, 5]), ([], []), ([0, 1], []), ([], [6, 7]), ([], []), ([0, 1], []), ([], [8, 9]), ([], []), ([0, 1], []), ([], [10, 11]), ([], []), ([], []), ([0, 1], []), ([], [12, 13]), ([], []), ([0, 1], []), ([], [14, 15])]) (by kernel_rfl) (by kernel_rfl) (.cons (Le.refl _) (.cons (Le.refl _) .nil)) (exergueref10_padded_ok hy25) (by kernel_rfl) ?_
 obtain ⟨hm, h27⟩ := asrt h26
 refine kQ 25 (.str (((((((((y1 ++ y4) ++ y8) ++ y12)) ++ y16)) ++ y20)) ++ y24)) [] (tr2 := [([0, 1], []), ([], [2, 3]), ([], []), ([0, 1], []), ([], [4, 5]), ([], []), ([0, 1], []), ([], [6, 7]), ([], []), ([0, 1], []), ([], [8, 9]), ([], []), ([0, 1], []), ([], [10, 11]), ([], []), ([], []), ([0, 1], []), ([], [12, 13]), ([], []), ([0, 1], []), ([], [14, 15]), ([], [])]) hm ?_
 refine kD 1 ?_
 refine kEN ?_
 obtain ⟨s44, hy46, h48⟩ := bindS h27
 refine K.cutN (by kernel_rfl) (fun (s44 : (List UInt8)) => ([(2, .str ([] : List UInt8)), (3, .str s44)], [])) s44 ?_ ?_
 ·refine kSR ?_
  refine kC 2 [1,2,3,27] ?_
  refine kEN ?_
  refine kBJ 27 hy46 (fun h50 => ?_) (fun h51 => ?_)
  ·refine kT ?_
   refine J.keep [1, 2, 3] (L2 := [(1, .ptr 0 0), (2, .str ([] : List UInt8)), (3, .str ((((((((((y1 ++ y4) ++ y8) ++ y12)) ++ y16)) ++ y20)) ++ y24)))]) (by kernel_rfl) ?_
   refine K.draw (by kernel_rfl) (by kernel_rfl) (by kernel_rfl) (H2 := [.box (encSt23 x0), .res, .res, .res, .res, .res, .res, .res, .res, .res, .res]) (by kernel_rfl) (n := 8) (by kernel_rfl) ?_
   refine kD 1 ?_
   obtain ⟨hm, h52⟩ := asrt h50
   refine kQ 29 (.str (((((((((((y1 ++ y4) ++ y8) ++ y12)) ++ y16)) ++ y20)) ++ y24)) ++ ([59] : List UInt8))) [] (tr2 := [([], []), ([], [])]) hm ?_
   refine kD 2 ?_
   obtain ⟨y53, hy54, h55⟩ := bindS h52
   refine RJ.call0 (d := (some 32)) (f := 28) (args := [lsv encSt33 2 x0.NPre_]) (v := .str y53) (tr2 := [([], []), ([], []), ([], []), ([0, 1], []), ([], [16, 17])]) (by kernel_rfl) (by kernel_rfl) (.cons (Le.refl _) .nil) (exergueref10_written_ok hy54) (by kernel_rfl) ?_
   obtain ⟨hm, h56⟩ := asrt h55
   refine kQ 33 (.str (((((((((((((y1 ++ y4) ++ y8) ++ y12)) ++ y16)) ++ y20)) ++ y24)) ++ ([59] : List UInt8))) ++ y53)) [] (tr2 := [([], []), ([], []), ([], []), ([0, 1], []), ([], [16, 17]), ([], [])]) hm ?_
   refine kD 1 ?_
   obtain ⟨y57, hy58, h59⟩ := bindS h56
   refine RJ.call0 (d := (some 35)) (f := 16) (args := [.agg (encSt23 x0)]) (v := .str y57) (tr2 := [([], []), ([], []), ([], []), ([0, 1], []), ([], [16, 17]), ([], []), ([0, 1], []), ([], [18, 19])]) (by kernel_rfl) (by kernel_rfl) (.cons (Le.refl _) .nil) (exergueref10_Number_ok hy58) (by kernel_rfl) ?_
   obtain ⟨hm, h60⟩ := asrt h59
   refine kQ 36 (.str (((((((((((((((y1 ++ y4) ++ y8) ++ y12)) ++ y16)) ++ y20)) ++ y24)) ++ ([59] : List UInt8))) ++ y53)) ++ y57)) [] (tr2 := [([], []), ([], []), ([], []), ([0, 1], []), ([], [16, 17]), ([], []), ([0, 1], []), ([], [18, 19]), ([], [])]) hm ?_
   refine kD 2 ?_
   obtain ⟨y61, hy62, h63⟩ := bindS h60
   refine RJ.call0 (d := (some 39)) (f := 28) (args := [lsv encSt33 2 x0.NSuf_]) (v := .str y61) (tr2 := [([], []), ([], []), ([], []), ([0, 1], []), ([], [16, 17]), ([], []), ([0, 1], []), ([], [18, 19]), ([], []), ([], []), ([0, 1], []), ([], [20, 21])]) (by kernel_rfl) (by kernel_rfl) (.cons (Le.refl _) .nil) (exergueref10_written_ok hy62) (by kernel_rfl) ?_
   obtain ⟨hm, h64⟩ := asrt h63
   refine kQ 40 (.str (((((((((((((((((y1 ++ y4) ++ y8) ++ y12)) ++ y16)) ++ y20)) ++ y24)) ++ ([59] : List UInt8))) ++ y53)) ++ y57)) ++ y61)) [] (tr2 := [([], []), ([], []), ([], []), ([0, 1], []), ([], [16, 17]), ([], []), ([0, 1], []), ([], [18, 19]), ([], []), ([], []), ([0, 1], []), ([], [20, 21]), ([], [])]) hm ?_
   refine kD 1 ?_
   refine kE ?_
   obtain rfl := oi h64
   refine kW (L2 := [(2, .str ([] : List UInt8)), (3, .str ((((((((((((((((((y1 ++ y4) ++ y8) ++ y12)) ++ y16)) ++ y20)) ++ y24)) ++ ([59] : List UInt8))) ++ y53)) ++ y57)) ++ y61)))]) (H2 := []) hFH hFD [] ?_
   exact kN [2, 3]
  ·refine kF ?_
   refine kK ?_
   obtain rfl := oi h51
   refine kW (L2 := [(2, .str ([] : List UInt8)), (3, .str ((((((((((y1 ++ y4) ++ y8) ++ y12)) ++ y16)) ++ y20)) ++ y24)))]) (H2 := []) hFH hFD [] ?_
   exact kN [2, 3]
 ·refine kSR ?_
  refine kC 2 [2] ?_
  refine kEN ?_
  refine kX ?_
  obtain rfl := oi h48
  exact kZ hFn hFH hFD
def exergueref01_tails (x0 : List Int) (x1 : Int) (x2 : Int) (x3 : Int) : Option (Int) :=
 (bif (decide ((IntKind.wrap .i64 (x1 + x2)) ≥ (x0.length : Int))) then (some (-1)) else (Option.bind (loopN (fun (s306 : Int × Int) => (bif (decide (s306.2 ≤ x2)) then (Option.bind (bif inR (IntKind.wrap .i64 (x1 + s306.2)) x0.length then (Option.bind (Option.bind (bif (decide (((IntKind.wrap .i64 ((nth x0 (IntKind.wrap .i64 (x1 + s306.2)))))) < 128)) then (some true) else (some ((decide (((IntKind.wrap .i64 ((nth x0 (IntKind.wrap .i64 (x1 + s306.2)))))) > 191))))) fun (s585 : Bool) => (bif s585 then (some (.inr (.inr (.inr (.inr (-1)))))) else (some (.inl ())))) (joinX fun (s577 : Unit) => (some (.inl ())))) else none) (joinX fun (s552 : Unit) => (some (.inl ((IntKind.wrap .i64 (((IntKind.wrap .i64 ((IntKind.wrap .i64 (s306.1 * 64)) + ((IntKind.wrap .i64 ((nth x0 (IntKind.wrap .i64 (x1 + s306.2))))))))) - 128)), (IntKind.wrap .i64 (s306.2 + 1))))))) else (some (.inr (.inl s306.1))))) big (x3, 1)) (joinX fun (s301 : Int) => (some s301))))
theorem exergueref01_tails_ok {x0 : List Int} {x1 : Int} {x2 : Int} {x3 : Int} {r : Int} (h : exergueref01_tails x0 x1 x2 x3 = some r) : SC Try.prog 66 [lsv (encI .u8) 1 x0, .int .i64 x1, .int .i64 x2, .int .i64 x3] [] (.int .i64 r) [] := by
 refine kFn (fn := Try.f66) (fun F hFn hFH hFD => ?_)
 unfold exergueref01_tails at h
 refine kSR ?_
 refine kC 1 [0,1,2,3,8] ?_
 refine kEN ?_
 refine kS ?_
 refine kSR ?_
 refine kC 6 [0,1,2,3,8,16] ?_
 refine kEN ?_
 refine kBJ 16 h (fun h2 => ?_) (fun h3 => ?_)
 ·refine kT ?_
  refine kSR ?_
  refine kC 1 [0,1,2,3,8] ?_
  refine kEN ?_
  refine kX ?_
  refine PJ.passRet ?_
  obtain rfl := oi h2
  exact kZ hFn hFH hFD
 ·refine kF ?_
  refine kK ?_
  refine PJ.next ?_
  obtain ⟨y302, hy303, h304⟩ := bindS h3
  refine K.cutX (by kernel_rfl) (fun (s301 : Int) => ([(3, .int .i64 s301), (8, .int .i64 0)], [])) y302 ?_ (fun s301 hs => ?_)
  ·refine kSR ?_
   refine kC 1 [0,1,2,3,8,9] ?_
   refine kEN ?_
   refine kb 0 ?_
   refine kl (fun (s306 : Int × Int) => ([(0, lsv (encI .u8) 1 x0), (1, .int .i64 x1), (2, .int .i64 x2), (3, .int .i64 s306.1), (8, .int .i64 0), (9, .int .i64 s306.2)], [])) hy303 [0, 1, 2, 3, 8, 9] (fun s306 x504 hs503 => ?_)
   refine kS ?_
   refine kSR ?_
   refine kC 3 [0,1,2,3,8,9,19] ?_
   refine kEN ?_
   refine kBJ 19 hs503 (fun h506 => ?_) (fun h507 => ?_)
   ·refine kT ?_
    refine kK ?_
    refine PJ.next ?_
    obtain ⟨y553, hy554, h555⟩ := bindS h506
    refine K.cutX (by kernel_rfl) (fun (s552 : Unit) => ([(0, lsv (encI .u8) 1 x0), (1, .int .i64 x1), (2, .int .i64 x2), (3, .int .i64 ((IntKind.wrap .i64 (((IntKind.wrap .i64 ((IntKind.wrap .i64 (s306.1 * 64)) + ((IntKind.wrap .i64 ((nth x0 (IntKind.wrap .i64 (x1 + s306.2))))))))) - 128)))), (8, .int .i64 0), (9, .int .i64 s306.2)], [])) y553 ?_ (fun s552 hs => ?_)
    ·refine kb 1 ?_
     refine kSR ?_
     refine kC 4 [0,1,2,3,8,9,22,25] ?_
     obtain ⟨hm, h557⟩ := asrt hy554
     refine kI 26 (encI_len .u8) hm ?_
     refine kC 3 [0,1,2,3,8,9,10] ?_
     refine kEN ?_
     obtain ⟨y578, hy579, h580⟩ := bindS h557
     refine K.cutX (by kernel_rfl) (fun (s577 : Unit) => ([(0, lsv (encI .u8) 1 x0), (1, .int .i64 x1), (2, .int .i64 x2), (3, .int .i64 s306.1), (8, .int .i64 0), (9, .int .i64 s306.2), (10, .int .i64 ((IntKind.wrap .i64 ((nth x0 (IntKind.wrap .i64 (x1 + s306.2)))))))], [])) y578 ?_ (fun s577 hs => ?_)
     ·obtain ⟨s585, hy587, h589⟩ := bindS hy579
      refine K.cutN (by kernel_rfl) (fun (s585 : Bool) => ([(0, lsv (encI .u8) 1 x0), (1, .int .i64 x1), (2, .int .i64 x2), (3, .int .i64 s306.1), (8, .int .i64 0), (9, .int .i64 s306.2), (10, .int .i64 ((IntKind.wrap .i64 ((nth x0 (IntKind.wrap .i64 (x1 + s306.2))))))), (34, .bool s585)], [])) s585 ?_ ?_
      ·refine kR ?_
       refine kC 3 [0,1,2,3,8,9,10,31] ?_
       refine kB 31 hy587 (fun h591 => ?_) (fun h592 => ?_)
       ·refine kC 3 [0,1,2,3,8,9,10,34] ?_
        refine kE ?_
        obtain rfl := oi h591
        exact kN [0, 1, 2, 3, 8, 9, 10, 34]
       ·refine kC 3 [0,1,2,3,8,9,10,34] ?_
        refine kE ?_
        obtain rfl := oi h592
        exact kN [0, 1, 2, 3, 8, 9, 10, 34]
      ·refine kBJ 34 h589 (fun h594 => ?_) (fun h595 => ?_)
       ·refine kT ?_
        refine kSR ?_
        refine kC 1 [0,1,2,3,8,9,10] ?_
        refine kEN ?_
        refine kX ?_
        obtain rfl := oi h594
        have h596 := joinX_inr h580
        refine PJ.cutXr (fun e => nomatch e) ?_
        refine PJ.blockRet ?_
        obtain rfl := oi h596
        have h597 := joinX_inr h555
        refine PJ.cutXr (fun e => nomatch e) ?_
        obtain rfl := oi h597
        refine PJ.loopOut (fun e => nomatch e) (fun he600 => ?_)
        have h598 := congrArg some he600
        refine PJ.blockRet ?_
        obtain rfl := oi h598
        have h599 := joinX_inr h304
        refine PJ.cutXr (fun e => nomatch e) ?_
        obtain rfl := oi h599
        exact kZ hFn hFH hFD
       ·refine kF ?_
        refine kK ?_
        obtain rfl := oi h595
        exact kXl [0, 1, 2, 3, 8, 9, 10]
     ·subst hs
      have h581 := joinX_inl h580
      refine kR ?_
      refine kC 6 [0,1,2,3,8,9] ?_
      refine kE ?_
      refine PJ.blockNormal ?_
      obtain rfl := oi h581
      exact kXl [0, 1, 2, 3, 8, 9]
    ·subst hs
     have h556 := joinX_inl h555
     refine kR ?_
     refine kC 3 [0,1,2,3,8,9] ?_
     refine kE ?_
     obtain rfl := oi h556
     exact kLN [0, 1, 2, 3, 8, 9]
   ·refine kF ?_
    refine K.exit 0 (by kernel_rfl) ?_
    refine PJ.passExit ?_
    obtain rfl := oi h507
    refine PJ.loopOut (fun e => nomatch e) (fun he602 => ?_)
    have h601 := congrArg some he602
    refine PJ.blockOut ?_
    obtain rfl := oi h601
    exact kXl [3, 8]
  ·subst hs
   have h305 := joinX_inl h304
   refine kSR ?_
   refine kC 2 [8] ?_
   refine kEN ?_
   refine kX ?_
   obtain rfl := oi h305
   exact kZ hFn hFH hFD
def exergueref01_one (x0 : List Int) (x1 : Int) : Option (Int) :=
 (bif inR x1 x0.length then (Option.bind (bif (decide ((IntKind.wrap .i64 (nth x0 x1)) < 128)) then (some (IntKind.wrap .i64 (nth x0 x1))) else (some (-1))) fun (s5 : Int) => (Option.bind (Option.bind (bif (decide ((IntKind.wrap .i64 (nth x0 x1)) ≥ 192)) then (some ((decide ((IntKind.wrap .i64 (nth x0 x1)) < 224)))) else (some false)) fun (s38 : Bool) => (bif s38 then (Option.bind (exergueref01_tails x0 x1 1 ((IntKind.wrap .i64 ((IntKind.wrap .i64 (nth x0 x1)) - 192)))) fun y49 => (some (y49, 128))) else (some (s5, 0)))) fun (s30 : Int × Int) => (Option.bind (Option.bind (bif (decide ((IntKind.wrap .i64 (nth x0 x1)) ≥ 224)) then (some ((decide ((IntKind.wrap .i64 (nth x0 x1)) < 240)))) else (some false)) fun (s77 : Bool) => (bif s77 then (Option.bind (exergueref01_tails x0 x1 2 ((IntKind.wrap .i64 ((IntKind.wrap .i64 (nth x0 x1)) - 224)))) fun y88 => (some (y88, 2048))) else (some (s30.1, s30.2)))) fun (s69 : Int × Int) => (Option.bind (Option.bind (bif (decide ((IntKind.wrap .i64 (nth x0 x1)) ≥ 240)) then (some ((decide ((IntKind.wrap .i64 (nth x0 x1)) < 248)))) else (some false)) fun (s116 : Bool) => (bif s116 then (Option.bind (exergueref01_tails x0 x1 3 ((IntKind.wrap .i64 ((IntKind.wrap .i64 (nth x0 x1)) - 240)))) fun y127 => (some (y127, 65536))) else (some (s69.1, s69.2)))) fun (s108 : Int × Int) => (Option.bind (exergueref01_Is (IntKind.wrap .i32 s108.1)) fun y130 => (Option.bind (Option.bind (bif (decide (s108.1 < s108.2)) then (some true) else (some (!y130))) fun (s156 : Bool) => (bif s156 then (some (.inr (-1))) else (some (.inl ())))) (joinX fun (s148 : Unit) => (some s108.1)))))))) else none)
theorem exergueref01_one_ok {x0 : List Int} {x1 : Int} {r : Int} (h : exergueref01_one x0 x1 = some r) : SC Try.prog 48 [lsv (encI .u8) 1 x0, .int .i64 x1] [] (.int .i64 r) [] := by
 refine kFn (fn := Try.f48) (fun F hFn hFH hFD => ?_)
 unfold exergueref01_one at h
 refine kSR ?_
 refine kC 1 [0,1,4] ?_
 refine kEN ?_
 refine kSR ?_
 refine kC 2 [0,1,4,9,10] ?_
 obtain ⟨hm, h1⟩ := asrt h
 refine kI 11 (encI_len .u8) hm ?_
 refine kC 3 [0,1,4,5] ?_
 refine kEN ?_
 refine kSR ?_
 refine kC 1 [0,1,4,5,6] ?_
 refine kEN ?_
 refine kSR ?_
 refine kC 1 [0,1,4,5,6,7] ?_
 refine kEN ?_
 obtain ⟨s5, hy7, h9⟩ := bindS h1
 refine K.cutN (by kernel_rfl) (fun (s5 : Int) => ([(0, lsv (encI .u8) 1 x0), (1, .int .i64 x1), (4, .int .i64 0), (5, .int .i64 (IntKind.wrap .i64 (nth x0 x1))), (6, .int .i64 s5), (7, .int .i64 0)], [])) s5 ?_ ?_
 ·refine kSR ?_
  refine kC 2 [0,1,4,5,6,7,15] ?_
  refine kEN ?_
  refine kBJ 15 hy7 (fun h11 => ?_) (fun h12 => ?_)
  ·refine kT ?_
   refine kR ?_
   refine kC 2 [0,1,4,5,6,7] ?_
   refine kE ?_
   obtain rfl := oi h11
   exact kN [0, 1, 4, 5, 6, 7]
  ·refine kF ?_
   refine kK ?_
   obtain rfl := oi h12
   exact kN [0, 1, 4, 5, 6, 7]
 ·obtain ⟨s30, hy32, h34⟩ := bindS h9
  refine K.cutN (by kernel_rfl) (fun (s30 : Int × Int) => ([(0, lsv (encI .u8) 1 x0), (1, .int .i64 x1), (4, .int .i64 0), (5, .int .i64 (IntKind.wrap .i64 (nth x0 x1))), (6, .int .i64 s30.1), (7, .int .i64 s30.2)], [])) s30 ?_ ?_
  ·obtain ⟨s38, hy40, h42⟩ := bindS hy32
   refine K.cutN (by kernel_rfl) (fun (s38 : Bool) => ([(0, lsv (encI .u8) 1 x0), (1, .int .i64 x1), (4, .int .i64 0), (5, .int .i64 (IntKind.wrap .i64 (nth x0 x1))), (6, .int .i64 s5), (7, .int .i64 0), (22, .bool s38)], [])) s38 ?_ ?_
   ·refine kR ?_
    refine kC 3 [0,1,4,5,6,7,19] ?_
    refine kB 19 hy40 (fun h44 => ?_) (fun h45 => ?_)
    ·refine kC 3 [0,1,4,5,6,7,22] ?_
     refine kE ?_
     obtain rfl := oi h44
     exact kN [0, 1, 4, 5, 6, 7, 22]
    ·refine kC 3 [0,1,4,5,6,7,22] ?_
     refine kE ?_
     obtain rfl := oi h45
     exact kN [0, 1, 4, 5, 6, 7, 22]
   ·refine kBJ 22 h42 (fun h47 => ?_) (fun h48 => ?_)
    ·refine kT ?_
     refine kSR ?_
     refine kC 4 [0,1,4,5,6,7,23,24,26] ?_
     obtain ⟨y49, hy50, h51⟩ := bindS h47
     refine kA 27 (exergueref01_tails_ok hy50) ?_
     refine kC 1 [0,1,4,5,6,7] ?_
     refine kEN ?_
     refine kR ?_
     refine kC 1 [0,1,4,5,6,7] ?_
     refine kE ?_
     obtain rfl := oi h51
     exact kN [0, 1, 4, 5, 6, 7]
    ·refine kF ?_
     refine kK ?_
     obtain rfl := oi h48
     exact kN [0, 1, 4, 5, 6, 7]
  ·obtain ⟨s69, hy71, h73⟩ := bindS h34
   refine K.cutN (by kernel_rfl) (fun (s69 : Int × Int) => ([(0, lsv (encI .u8) 1 x0), (1, .int .i64 x1), (4, .int .i64 0), (5, .int .i64 (IntKind.wrap .i64 (nth x0 x1))), (6, .int .i64 s69.1), (7, .int .i64 s69.2)], [])) s69 ?_ ?_
   ·obtain ⟨s77, hy79, h81⟩ := bindS hy71
    refine K.cutN (by kernel_rfl) (fun (s77 : Bool) => ([(0, lsv (encI .u8) 1 x0), (1, .int .i64 x1), (4, .int .i64 0), (5, .int .i64 (IntKind.wrap .i64 (nth x0 x1))), (6, .int .i64 s30.1), (7, .int .i64 s30.2), (33, .bool s77)], [])) s77 ?_ ?_
    ·refine kR ?_
     refine kC 3 [0,1,4,5,6,7,30] ?_
     refine kB 30 hy79 (fun h83 => ?_) (fun h84 => ?_)
     ·refine kC 3 [0,1,4,5,6,7,33] ?_
      refine kE ?_
      obtain rfl := oi h83
      exact kN [0, 1, 4, 5, 6, 7, 33]
     ·refine kC 3 [0,1,4,5,6,7,33] ?_
      refine kE ?_
      obtain rfl := oi h84
      exact kN [0, 1, 4, 5, 6, 7, 33]
    ·refine kBJ 33 h81 (fun h86 => ?_) (fun h87 => ?_)
     ·refine kT ?_
      refine kSR ?_
      refine kC 4 [0,1,4,5,6,7,34,35,37] ?_
      obtain ⟨y88, hy89, h90⟩ := bindS h86
      refine kA 38 (exergueref01_tails_ok hy89) ?_
      refine kC 1 [0,1,4,5,6,7] ?_
      refine kEN ?_
      refine kR ?_
      refine kC 1 [0,1,4,5,6,7] ?_
      refine kE ?_
      obtain rfl := oi h90
      exact kN [0, 1, 4, 5, 6, 7]
     ·refine kF ?_
      refine kK ?_
      obtain rfl := oi h87
      exact kN [0, 1, 4, 5, 6, 7]
   ·obtain ⟨s108, hy110, h112⟩ := bindS h73
    refine K.cutN (by kernel_rfl) (fun (s108 : Int × Int) => ([(4, .int .i64 0), (6, .int .i64 s108.1), (7, .int .i64 s108.2)], [])) s108 ?_ ?_
    ·obtain ⟨s116, hy118, h120⟩ := bindS hy110
     refine K.cutN (by kernel_rfl) (fun (s116 : Bool) => ([(0, lsv (encI .u8) 1 x0), (1, .int .i64 x1), (4, .int .i64 0), (5, .int .i64 (IntKind.wrap .i64 (nth x0 x1))), (6, .int .i64 s69.1), (7, .int .i64 s69.2), (44, .bool s116)], [])) s116 ?_ ?_
     ·refine kR ?_
      refine kC 3 [0,1,4,5,6,7,41] ?_
      refine kB 41 hy118 (fun h122 => ?_) (fun h123 => ?_)
      ·refine kC 3 [0,1,4,5,6,7,44] ?_
       refine kE ?_
       obtain rfl := oi h122
       exact kN [0, 1, 4, 5, 6, 7, 44]
      ·refine kC 3 [0,1,4,5,6,7,44] ?_
       refine kE ?_
       obtain rfl := oi h123
       exact kN [0, 1, 4, 5, 6, 7, 44]
     ·refine kBJ 44 h120 (fun h125 => ?_) (fun h126 => ?_)
      ·refine kT ?_
       refine kSR ?_
       refine kC 4 [4,6,7,45,46,48] ?_
       obtain ⟨y127, hy128, h129⟩ := bindS h125
       refine kA 49 (exergueref01_tails_ok hy128) ?_
       refine kC 1 [4,6,7] ?_
       refine kEN ?_
       refine kR ?_
       refine kC 1 [4,6,7] ?_
       refine kE ?_
       obtain rfl := oi h129
       exact kN [4, 6, 7]
      ·refine kF ?_
       refine kK ?_
       obtain rfl := oi h126
       exact kN [4, 6, 7]
    ·refine kSR ?_
     refine kC 2 [4,6,7,51] ?_
     obtain ⟨y130, hy131, h132⟩ := bindS h112
     refine kA 52 (exergueref01_Is_ok hy131) ?_
     refine kC 1 [4,6,7,8] ?_
     refine kEN ?_
     obtain ⟨y149, hy150, h151⟩ := bindS h132
     refine K.cutX (by kernel_rfl) (fun (s148 : Unit) => ([(4, .int .i64 0), (6, .int .i64 s108.1)], [])) y149 ?_ (fun s148 hs => ?_)
     ·obtain ⟨s156, hy158, h160⟩ := bindS hy150
      refine K.cutN (by kernel_rfl) (fun (s156 : Bool) => ([(4, .int .i64 0), (6, .int .i64 s108.1), (59, .bool s156)], [])) s156 ?_ ?_
      ·refine kR ?_
       refine kC 4 [4,6,8,56] ?_
       refine kB 56 hy158 (fun h162 => ?_) (fun h163 => ?_)
       ·refine kC 3 [4,6,59] ?_
        refine kE ?_
        obtain rfl := oi h162
        exact kN [4, 6, 59]
       ·refine kC 3 [4,6,59] ?_
        refine kE ?_
        obtain rfl := oi h163
        exact kN [4, 6, 59]
      ·refine kBJ 59 h160 (fun h165 => ?_) (fun h166 => ?_)
       ·refine kT ?_
        refine kSR ?_
        refine kC 1 [4,6] ?_
        refine kEN ?_
        refine kX ?_
        obtain rfl := oi h165
        have h167 := joinX_inr h151
        refine PJ.cutXr (fun e => nomatch e) ?_
        obtain rfl := oi h167
        exact kZ hFn hFH hFD
       ·refine kF ?_
        refine kK ?_
        obtain rfl := oi h166
        exact kXl [4, 6]
     ·subst hs
      have h152 := joinX_inl h151
      refine kSR ?_
      refine kC 2 [4] ?_
      refine kEN ?_
      refine kX ?_
      obtain rfl := oi h152
      exact kZ hFn hFH hFD
def exergueref01_Decode (x0 : List Int) : Option ((List Int) × Int × Int) :=
 (Option.bind (loopN (fun (s63 : Int × (List Int)) => (bif (decide (s63.1 < (x0.length : Int))) then (Option.bind (exergueref01_one x0 s63.1) fun y105 => (bif (decide (y105 < 0)) then (some (.inr (.inr (([] : List Int), s63.1, 3)))) else (bif room (s63.2.length + ([(IntKind.wrap .i32 y105)] : List Int).length) then (Option.bind (exergueref01_Size (IntKind.wrap .i32 y105)) fun y115 => (some (.inl ((IntKind.wrap .i64 (s63.1 + y115)), (s63.2 ++ ([(IntKind.wrap .i32 y105)] : List Int)))))) else none))) else (some (.inr (.inl s63.2))))) big (0, ([] : List Int))) (joinX fun (s58 : (List Int)) => (some (s58, 0, 0))))
theorem exergueref01_Decode_ok {x0 : List Int} {r : (List Int) × Int × Int} (h : exergueref01_Decode x0 = some r) : SC Try.prog 33 [lsv (encI .u8) 1 x0] [] (.tup [lsv (encI .i32) 1 r.1, .int .i64 r.2.1, .int .i64 r.2.2]) [] := by
 refine kFn (fn := Try.f33) (fun F hFn hFH hFD => ?_)
 unfold exergueref01_Decode at h
 refine kSR ?_
 refine kC 3 [0,2,3,4] ?_
 refine kEN ?_
 refine kSR ?_
 refine kC 1 [0,2,3,4,5] ?_
 refine kEN ?_
 refine kSR ?_
 refine kC 1 [0,2,3,4,5,6] ?_
 refine kEN ?_
 obtain ⟨y59, hy60, h61⟩ := bindS h
 refine K.cutX (by kernel_rfl) (fun (s58 : (List Int)) => ([(2, .nl), (3, .int .i64 0), (4, .int .i64 0), (5, .vc 0)], [vecL (encI .i32) 1 21 s58])) y59 ?_ (fun s58 hs => ?_)
 ·refine kb 0 ?_
  refine J.wk (Wk.viv 5 1 21 (by kernel_rfl)) ?_
  refine kl (fun (s63 : Int × (List Int)) => ([(0, lsv (encI .u8) 1 x0), (2, .nl), (3, .int .i64 0), (4, .int .i64 0), (5, .vc 0), (6, .int .i64 s63.1)], [vecL (encI .i32) 1 21 s63.2])) hy60 [0, 2, 3, 4, 5, 6] (fun s63 x101 hs100 => ?_)
  refine kS ?_
  refine kSR ?_
  refine kC 4 [0,2,3,4,5,6,11] ?_
  refine kEN ?_
  refine kBJ 11 hs100 (fun h103 => ?_) (fun h104 => ?_)
  ·refine kT ?_
   refine kK ?_
   refine PJ.next ?_
   refine kb 1 ?_
   refine kSR ?_
   refine kC 2 [0,2,3,4,5,6,12,13] ?_
   obtain ⟨y105, hy106, h107⟩ := bindS h103
   refine kA 14 (exergueref01_one_ok hy106) ?_
   refine kC 1 [0,2,3,4,5,6,7] ?_
   refine kEN ?_
   refine kS ?_
   refine kSR ?_
   refine kC 2 [0,2,3,4,5,6,7,16] ?_
   refine kEN ?_
   refine kBJ 16 h107 (fun h109 => ?_) (fun h110 => ?_)
   ·refine kT ?_
    refine kSR ?_
    refine kC 4 [0,2,3,4,5,6,7] ?_
    refine kEN ?_
    refine kX ?_
    refine PJ.passRet ?_
    refine PJ.blockRet ?_
    obtain rfl := oi h109
    refine PJ.loopOut (fun e => nomatch e) (fun he113 => ?_)
    have h111 := congrArg some he113
    refine PJ.blockRet ?_
    obtain rfl := oi h111
    have h112 := joinX_inr h61
    refine PJ.cutXr (fun e => nomatch e) ?_
    obtain rfl := oi h112
    refine PJ.res (v1 := .tup [.nl, .int .i64 s63.1, .int .i64 3]) (Le.tup (.cons (Le.nl _) (.cons (Le.refl _) (.cons (Le.refl _) .nil)))) ?_
    exact kZ hFn hFH hFD
   ·refine kF ?_
    refine kK ?_
    refine PJ.next ?_
    refine kSR ?_
    refine kC 4 [0,2,3,4,5,6,7,18,21] ?_
    obtain ⟨hm, h114⟩ := asrt h110
    refine RJ.rel (d := (some 22)) (ef := ⟨.vc 2, [0, 1], [(0, .gone), (2, .vec (s63.2.length + ([(IntKind.wrap .i32 y105)] : List Int).length) 1 21 (s63.2.flatMap (encI .i32) ++ ([(IntKind.wrap .i32 y105)] : List Int).flatMap (encI .i32)))]⟩) (ef' := ⟨.vc 2, [0, 1], [(0, .gone), (2, vecL (encI .i32) 1 21 (s63.2 ++ ([(IntKind.wrap .i32 y105)] : List Int)))]⟩) (c := room (s63.2.length + ([(IntKind.wrap .i32 y105)] : List Int).length)) (tr2 := []) (H2 := [.gone, vecL (encI .i32) 1 21 ([(IntKind.wrap .i32 y105)] : List Int), vecL (encI .i32) 1 21 ((s63.2 ++ ([(IntKind.wrap .i32 y105)] : List Int)))]) (by kernel_rfl) hm (fun hc => N.app) (by kernel_rfl) ?_
    refine kC 1 [0,2,3,4,5,6,7] ?_
    refine kEN ?_
    refine kR ?_
    refine kC 3 [0,2,3,4,5,6,23,25] ?_
    obtain ⟨y115, hy116, h117⟩ := bindS h114
    refine kA 26 (exergueref01_Size_ok hy116) ?_
    refine kC 2 [0,2,3,4,5,6] ?_
    refine kE ?_
    refine PJ.blockNormal ?_
    obtain rfl := oi h117
    refine kW (L2 := [(0, lsv (encI .u8) 1 x0), (2, .nl), (3, .int .i64 0), (4, .int .i64 0), (5, .vc 0), (6, .int .i64 (IntKind.wrap .i64 (s63.1 + y115)))]) (H2 := [vecL (encI .i32) 1 21 ((s63.2 ++ ([(IntKind.wrap .i32 y105)] : List Int)))]) hFH hFD [2] ?_
    exact kLN [0, 2, 3, 4, 5, 6]
  ·refine kF ?_
   refine K.exit 0 (by kernel_rfl) ?_
   refine PJ.passExit ?_
   obtain rfl := oi h104
   refine PJ.loopOut (fun e => nomatch e) (fun he119 => ?_)
   have h118 := congrArg some he119
   refine PJ.blockOut ?_
   obtain rfl := oi h118
   exact kXl [2, 3, 4, 5]
 ·subst hs
  have h62 := joinX_inl h61
  refine kSR ?_
  refine kC 4 [2,3,4] ?_
  refine kEN ?_
  refine kX ?_
  obtain rfl := oi h62
  refine PJ.wk (Wk.freeze 0 (n := s58.length) (k := 1) (e := 21) (cs := s58.flatMap (encI .i32)) (by kernel_rfl)) ?_
  exact kZ hFn hFH hFD
def exergueref10_at (x0 : List Int) (x1 : Int) : Option (Int) :=
 (bif (decide (x1 < (x0.length : Int))) then (bif inR x1 x0.length then (some (nth x0 x1)) else none) else (some (-1)))
theorem exergueref10_at_ok {x0 : List Int} {x1 : Int} {r : Int} (h : exergueref10_at x0 x1 = some r) : SC Try.prog 35 [lsv (encI .i32) 1 x0, .int .i64 x1] [] (.int .i32 r) [] := by
 refine kFn (fn := Try.f35) (fun F hFn hFH hFD => ?_)
 unfold exergueref10_at at h
 refine kSR ?_
 refine kC 1 [0,1,4] ?_
 refine kEN ?_
 refine kS ?_
 refine kSR ?_
 refine kC 4 [0,1,4,8] ?_
 refine kEN ?_
 refine kBJ 8 h (fun h2 => ?_) (fun h3 => ?_)
 ·refine kT ?_
  refine kSR ?_
  refine kC 2 [4,9,10] ?_
  obtain ⟨hm, h4⟩ := asrt h2
  refine kI 11 (encI_len .i32) hm ?_
  refine kC 2 [4] ?_
  refine kEN ?_
  refine kX ?_
  refine PJ.passRet ?_
  obtain rfl := oi h4
  exact kZ hFn hFH hFD
 ·refine kF ?_
  refine kK ?_
  refine PJ.next ?_
  refine kSR ?_
  refine kC 1 [4] ?_
  refine kEN ?_
  refine kX ?_
  obtain rfl := oi h3
  exact kZ hFn hFH hFD
def exergueref10_pad (x0 : St23) (x1 : List Int) (x2 : Int) (x3 : Int) : Option (St23 × Int × Bool) :=
 (Option.bind (Option.bind (bif (decide (x0.PadAt_ > 0)) then (some true) else (Option.bind (exergueref10_at x1 x2) fun y41 => (some (decide (¬ y41 = 42))))) fun (s33 : Bool) => (bif s33 then (some (.inr (x0, x2, true))) else (some (.inl ())))) (joinX fun (s22 : Unit) => (bif (decide ((IntKind.wrap .i64 (x2 + 1)) ≥ (x1.length : Int))) then (some (x0, (IntKind.wrap .i64 (x2 + 1)), false)) else (bif inR (IntKind.wrap .i64 (x2 + 1)) x1.length then (some ((⟨x0.Pre_, x0.Suf_, x0.NPre_, x0.NSuf_, x0.Neg_, x0.Hash_, x0.MinInt_, x0.MinFrac_, x0.MaxFrac_, x0.G1_, x0.G2_, x0.MinSig_, x0.MaxSig_, x0.Exp_, x0.ExpPlus_, (nth x1 (IntKind.wrap .i64 (x2 + 1))), x3⟩ : St23), (IntKind.wrap .i64 (x2 + 2)), true)) else none))))
theorem exergueref10_pad_ok {x0 : St23} {x1 : List Int} {x2 : Int} {x3 : Int} {r : St23 × Int × Bool} (h : exergueref10_pad x0 x1 x2 x3 = some r) : SC Try.prog 50 [.agg (encSt23 x0), lsv (encI .i32) 1 x1, .int .i64 x2, .int .i64 x3] [] (.tup [.agg (encSt23 r.1), .int .i64 r.2.1, .bool r.2.2]) [] := by
 refine kFn (fn := Try.f50) (fun F hFn hFH hFD => ?_)
 unfold exergueref10_pad at h
 refine kSR ?_
 refine kC 4 [1,2,3,4,8,9,10] ?_
 refine kEN ?_
 obtain ⟨y23, hy24, h25⟩ := bindS h
 refine K.cutX (by kernel_rfl) (fun (s22 : Unit) => ([(1, lsv (encI .i32) 1 x1), (2, .int .i64 x2), (3, .int .i64 x3), (4, .ptr 0 0), (8, .ptr 1 0), (9, .int .i64 0), (10, .bool false)], [.box (encSt23 x0), .box [.nl, .nl, .nl, .nl, .bool false, .int .i64 0, .int .i64 0, .int .i64 0, .int .i64 0, .int .i64 0, .int .i64 0, .int .i64 0, .int .i64 0, .int .i64 0, .bool false, .int .i32 0, .int .i64 0]])) y23 ?_ (fun s22 hs => ?_)
 ·obtain ⟨s33, hy35, h37⟩ := bindS hy24
  refine K.cutN (by kernel_rfl) (fun (s33 : Bool) => ([(1, lsv (encI .i32) 1 x1), (2, .int .i64 x2), (3, .int .i64 x3), (4, .ptr 0 0), (8, .ptr 1 0), (9, .int .i64 0), (10, .bool false), (19, .bool s33)], [.box (encSt23 x0), .box [.nl, .nl, .nl, .nl, .bool false, .int .i64 0, .int .i64 0, .int .i64 0, .int .i64 0, .int .i64 0, .int .i64 0, .int .i64 0, .int .i64 0, .int .i64 0, .bool false, .int .i32 0, .int .i64 0]])) s33 ?_ ?_
  ·refine kR ?_
   refine kC 4 [1,2,3,4,8,9,10,14] ?_
   refine kB 14 hy35 (fun h39 => ?_) (fun h40 => ?_)
   ·refine kC 5 [1,2,3,4,8,9,10,19] ?_
    refine kE ?_
    obtain rfl := oi h39
    exact kN [1, 2, 3, 4, 8, 9, 10, 19]
   ·refine kC 2 [1,2,3,4,8,9,10,14,15,16] ?_
    obtain ⟨y41, hy42, h43⟩ := bindS h40
    refine kA 17 (exergueref10_at_ok hy42) ?_
    refine kC 2 [1,2,3,4,8,9,10,19] ?_
    refine kE ?_
    obtain rfl := oi h43
    exact kN [1, 2, 3, 4, 8, 9, 10, 19]
  ·refine kBJ 19 h37 (fun h45 => ?_) (fun h46 => ?_)
   ·refine kT ?_
    refine kSR ?_
    refine kC 5 [1,2,3,4,8,9,10] ?_
    refine kEN ?_
    refine kX ?_
    obtain rfl := oi h45
    have h47 := joinX_inr h25
    refine PJ.cutXr (fun e => nomatch e) ?_
    obtain rfl := oi h47
    exact kZ hFn hFH hFD
   ·refine kF ?_
    refine kK ?_
    obtain rfl := oi h46
    exact kXl [1, 2, 3, 4, 8, 9, 10]
 ·subst hs
  have h26 := joinX_inl h25
  refine kS ?_
  refine kSR ?_
  refine kC 5 [1,2,3,4,8,9,10,26] ?_
  refine kEN ?_
  refine kBJ 26 h26 (fun h49 => ?_) (fun h50 => ?_)
  ·refine kT ?_
   refine kSR ?_
   refine kC 6 [1,2,3,4,8,9,10] ?_
   refine kEN ?_
   refine kX ?_
   refine PJ.passRet ?_
   obtain rfl := oi h49
   exact kZ hFn hFH hFD
  ·refine kF ?_
   refine kK ?_
   refine PJ.next ?_
   refine kSR ?_
   refine kC 3 [2,3,4,8,9,10,30,32] ?_
   obtain ⟨hm, h51⟩ := asrt h50
   refine kI 33 (encI_len .i32) hm ?_
   refine kC 3 [2,3,4,8,9,10] ?_
   refine kEN ?_
   refine kSR ?_
   refine kC 3 [2,4,8,9,10] ?_
   refine kEN ?_
   refine kSR ?_
   refine kC 6 [8,9,10] ?_
   refine kEN ?_
   refine kX ?_
   obtain rfl := oi h51
   exact kZ hFn hFH hFD
def exergueref10_Sign (x0 : Int) : Option (Int) :=
 (bif (decide (x0 = 45)) then (some 1) else (bif (decide (x0 = 43)) then (some 2) else (bif (decide (x0 = 37)) then (some 3) else (bif (decide (x0 = 164)) then (some 4) else (some 0)))))
theorem exergueref10_Sign_ok {x0 : Int} {r : Int} (h : exergueref10_Sign x0 = some r) : SC Try.prog 67 [.int .i32 x0] [] (.int .i64 r) [] := by
 refine kFn (fn := Try.f67) (fun F hFn hFH hFD => ?_)
 unfold exergueref10_Sign at h
 refine kSR ?_
 refine kC 1 [0,2] ?_
 refine kEN ?_
 refine kS ?_
 refine kSR ?_
 refine kC 1 [2,3] ?_
 refine kEN ?_
 refine kb 0 ?_
 refine kSR ?_
 refine kC 2 [2,3,4] ?_
 refine kEN ?_
 refine kBJ 4 h (fun h2 => ?_) (fun h3 => ?_)
 ·refine kT ?_
  refine kSR ?_
  refine kC 1 [2] ?_
  refine kEN ?_
  refine kX ?_
  refine PJ.blockRet ?_
  refine PJ.passRet ?_
  obtain rfl := oi h2
  exact kZ hFn hFH hFD
 ·refine kF ?_
  refine kSR ?_
  refine kC 2 [2,3,6] ?_
  refine kEN ?_
  refine kBJ 6 h3 (fun h5 => ?_) (fun h6 => ?_)
  ·refine kT ?_
   refine kSR ?_
   refine kC 1 [2] ?_
   refine kEN ?_
   refine kX ?_
   refine PJ.blockRet ?_
   refine PJ.passRet ?_
   obtain rfl := oi h5
   exact kZ hFn hFH hFD
  ·refine kF ?_
   refine kSR ?_
   refine kC 2 [2,3,8] ?_
   refine kEN ?_
   refine kBJ 8 h6 (fun h8 => ?_) (fun h9 => ?_)
   ·refine kT ?_
    refine kSR ?_
    refine kC 1 [2] ?_
    refine kEN ?_
    refine kX ?_
    refine PJ.blockRet ?_
    refine PJ.passRet ?_
    obtain rfl := oi h8
    exact kZ hFn hFH hFD
   ·refine kF ?_
    refine kSR ?_
    refine kC 2 [2,10] ?_
    refine kEN ?_
    refine kBJ 10 h9 (fun h11 => ?_) (fun h12 => ?_)
    ·refine kT ?_
     refine kSR ?_
     refine kC 1 [2] ?_
     refine kEN ?_
     refine kX ?_
     refine PJ.blockRet ?_
     refine PJ.passRet ?_
     obtain rfl := oi h11
     exact kZ hFn hFH hFD
    ·refine kF ?_
     refine kK ?_
     refine PJ.blockNormal ?_
     refine PJ.next ?_
     refine kSR ?_
     refine kC 1 [2] ?_
     refine kEN ?_
     refine kX ?_
     obtain rfl := oi h12
     exact kZ hFn hFH hFD
def exergueref10_affix (x0 : List Int) (x1 : Int) : Option ((List St33) × Int × Bool) :=
 (Option.bind (loopN (fun (s1635 : Int × (List St33)) => (bif (decide (s1635.1 < (x0.length : Int))) then (bif inR s1635.1 x0.length then (Option.bind (exergueref10_Sign (nth x0 s1635.1)) fun y2726 => (Option.bind (exergueref10_Special (nth x0 s1635.1)) fun y2729 => (bif (decide (y2726 > 0)) then (bif room (s1635.2.length + ([(⟨y2726, 0⟩ : St33)] : List St33).length) then (some (.inl ((IntKind.wrap .i64 (s1635.1 + 1)), (s1635.2 ++ ([(⟨y2726, 0⟩ : St33)] : List St33))))) else none) else (bif (decide (¬ (nth x0 s1635.1) = 39)) then (bif y2729 then (some (.inr (.inr (s1635.2, s1635.1, true)))) else (bif room (s1635.2.length + (([(⟨0, (nth x0 s1635.1)⟩ : St33)] : List St33)).length) then (some (.inl ((IntKind.wrap .i64 (s1635.1 + 1)), (s1635.2 ++ (([(⟨0, (nth x0 s1635.1)⟩ : St33)] : List St33)))))) else none)) else (Option.bind (exergueref10_at x0 (IntKind.wrap .i64 (s1635.1 + 1))) fun y2746 => (bif (decide (y2746 = 39)) then (bif room (s1635.2.length + ([(⟨0, 39⟩ : St33)] : List St33).length) then (some (.inl ((IntKind.wrap .i64 (s1635.1 + 2)), (s1635.2 ++ ([(⟨0, 39⟩ : St33)] : List St33))))) else none) else (Option.bind (loopN (fun (s3007 : Int × (List St33)) => (Option.bind (Option.bind (bif (decide (s3007.1 < (x0.length : Int))) then (bif inR s3007.1 x0.length then (bif (decide (¬ (nth x0 s3007.1) = 39)) then (some true) else (Option.bind (exergueref10_at x0 (IntKind.wrap .i64 (s3007.1 + 1))) fun y3232 => (some (decide (y3232 = 39))))) else none) else (some false)) fun (s3220 : Bool) => (bif s3220 then (some (.inl ())) else (some (.inr (.inr (s3007.1, s3007.2)))))) (joinX fun (s3205 : Unit) => (bif inR s3007.1 x0.length then (bif room (s3007.2.length + (([(⟨0, (nth x0 s3007.1)⟩ : St33)] : List St33)).length) then (Option.bind (bif inR s3007.1 x0.length then (bif (decide ((nth x0 s3007.1) = 39)) then (some (IntKind.wrap .i64 (s3007.1 + 1))) else (some s3007.1)) else none) fun (s3247 : Int) => (some (.inl ((IntKind.wrap .i64 (s3247 + 1)), (s3007.2 ++ (([(⟨0, (nth x0 s3007.1)⟩ : St33)] : List St33))))))) else none) else none)))) big ((IntKind.wrap .i64 (s1635.1 + 1)), s1635.2)) fun (s3002 : Int × (List St33)) => (bif (decide (s3002.1 ≥ (x0.length : Int))) then (some (.inr (.inr (([] : List St33), s1635.1, false)))) else (some (.inl ((IntKind.wrap .i64 (s3002.1 + 1)), s3002.2))))))))))) else none) else (some (.inr (.inl (s1635.1, s1635.2)))))) big (x1, ([] : List St33))) (joinX fun (s1630 : Int × (List St33)) => (some (s1630.2, s1630.1, true))))
theorem exergueref10_affix_ok {x0 : List Int} {x1 : Int} {r : (List St33) × Int × Bool} (h : exergueref10_affix x0 x1 = some r) : SC Try.prog 51 [lsv (encI .i32) 1 x0, .int .i64 x1] [] (.tup [lsv encSt33 2 r.1, .int .i64 r.2.1, .bool r.2.2]) [] := by
 refine kFn (fn := Try.f51) (fun F hFn hFH hFD => ?_)
 unfold exergueref10_affix at h
 refine kSR ?_
 refine kC 3 [0,1,4,5,6] ?_
 refine kEN ?_
 refine kSR ?_
 refine kC 1 [0,1,4,5,6,7] ?_
 refine kEN ?_
 obtain ⟨y1631, hy1632, h1633⟩ := bindS h
 refine K.cutX (by kernel_rfl) (fun (s1630 : Int × (List St33)) => ([(1, .int .i64 s1630.1), (4, .nl), (5, .int .i64 0), (6, .bool false), (7, .vc 0)], [vecL encSt33 2 34 s1630.2])) y1631 ?_ (fun s1630 hs => ?_)
 ·refine kb 0 ?_
  refine J.wk (Wk.viv 7 2 34 (by kernel_rfl)) ?_
  refine kl (fun (s1635 : Int × (List St33)) => ([(0, lsv (encI .i32) 1 x0), (1, .int .i64 s1635.1), (4, .nl), (5, .int .i64 0), (6, .bool false), (7, .vc 0)], [vecL encSt33 2 34 s1635.2])) hy1632 [0, 1, 4, 5, 6, 7] (fun s1635 x2721 hs2720 => ?_)
  refine kS ?_
  refine kSR ?_
  refine kC 4 [0,1,4,5,6,7,15] ?_
  refine kEN ?_
  refine kBJ 15 hs2720 (fun h2723 => ?_) (fun h2724 => ?_)
  ·refine kT ?_
   refine kK ?_
   refine PJ.next ?_
   refine kb 1 ?_
   refine kSR ?_
   refine kC 2 [0,1,4,5,6,7,16,17] ?_
   obtain ⟨hm, h2725⟩ := asrt h2723
   refine kI 18 (encI_len .i32) hm ?_
   refine kC 2 [0,1,4,5,6,7,8] ?_
   refine kEN ?_
   refine kSR ?_
   refine kC 1 [0,1,4,5,6,7,8,20] ?_
   obtain ⟨y2726, hy2727, h2728⟩ := bindS h2725
   refine kA 21 (exergueref10_Sign_ok hy2727) ?_
   refine kC 1 [0,1,4,5,6,7,8,9] ?_
   refine kEN ?_
   refine kSR ?_
   refine kC 1 [0,1,4,5,6,7,8,9,22] ?_
   obtain ⟨y2729, hy2730, h2731⟩ := bindS h2728
   refine kA 23 (exergueref10_Special_ok hy2730) ?_
   refine kC 1 [0,1,4,5,6,7,8,9,10] ?_
   refine kEN ?_
   refine kS ?_
   refine kSR ?_
   refine kC 2 [0,1,4,5,6,7,8,9,10,25] ?_
   refine kEN ?_
   refine kBJ 25 h2731 (fun h2733 => ?_) (fun h2734 => ?_)
   ·refine kT ?_
    refine kSR ?_
    refine kC 4 [0,1,4,5,6,7,8,10,26,29] ?_
    obtain ⟨hm, h2735⟩ := asrt h2733
    refine RJ.rel (d := (some 30)) (ef := ⟨.vc 2, [0, 1], [(0, .gone), (2, .vec (s1635.2.length + ([(⟨y2726, 0⟩ : St33)] : List St33).length) 2 34 (s1635.2.flatMap encSt33 ++ ([(⟨y2726, 0⟩ : St33)] : List St33).flatMap encSt33))]⟩) (ef' := ⟨.vc 2, [0, 1], [(0, .gone), (2, vecL encSt33 2 34 (s1635.2 ++ ([(⟨y2726, 0⟩ : St33)] : List St33)))]⟩) (c := room (s1635.2.length + ([(⟨y2726, 0⟩ : St33)] : List St33).length)) (tr2 := []) (H2 := [.gone, vecL encSt33 2 34 ([(⟨y2726, 0⟩ : St33)] : List St33), vecL encSt33 2 34 ((s1635.2 ++ ([(⟨y2726, 0⟩ : St33)] : List St33)))]) (by kernel_rfl) hm (fun hc => N.app) (by kernel_rfl) ?_
    refine kC 1 [0,1,4,5,6,7,8,10] ?_
    refine kEN ?_
    refine kSR ?_
    refine kC 3 [0,1,4,5,6,7,8,10] ?_
    refine kEN ?_
    refine K.exit 1 (by kernel_rfl) ?_
    refine PJ.passExit ?_
    refine PJ.blockOut ?_
    obtain rfl := oi h2735
    refine kW (L2 := [(0, lsv (encI .i32) 1 x0), (1, .int .i64 (IntKind.wrap .i64 (s1635.1 + 1))), (4, .nl), (5, .int .i64 0), (6, .bool false), (7, .vc 0)]) (H2 := [vecL encSt33 2 34 ((s1635.2 ++ ([(⟨y2726, 0⟩ : St33)] : List St33)))]) hFH hFD [2] ?_
    exact kLN [0, 1, 4, 5, 6, 7]
   ·refine kF ?_
    refine kK ?_
    refine PJ.next ?_
    refine kS ?_
    refine kSR ?_
    refine kC 2 [0,1,4,5,6,7,8,10,34] ?_
    refine kEN ?_
    refine kBJ 34 h2734 (fun h2737 => ?_) (fun h2738 => ?_)
    ·refine kT ?_
     refine kS ?_
     refine kSR ?_
     refine kC 1 [0,1,4,5,6,7,8,35] ?_
     refine kEN ?_
     refine kBJ 35 h2737 (fun h2740 => ?_) (fun h2741 => ?_)
     ·refine kT ?_
      refine kSR ?_
      refine kC 5 [0,1,4,5,6,7,8] ?_
      refine kEN ?_
      refine kX ?_
      refine PJ.passRet ?_
      refine PJ.passRet ?_
      refine PJ.blockRet ?_
      obtain rfl := oi h2740
      refine PJ.loopOut (fun e => nomatch e) (fun he2744 => ?_)
      have h2742 := congrArg some he2744
      refine PJ.blockRet ?_
      obtain rfl := oi h2742
      have h2743 := joinX_inr h1633
      refine PJ.cutXr (fun e => nomatch e) ?_
      obtain rfl := oi h2743
      refine PJ.wk (Wk.freeze 0 (n := s1635.2.length) (k := 2) (e := 34) (cs := s1635.2.flatMap encSt33) (by kernel_rfl)) ?_
      exact kZ hFn hFH hFD
     ·refine kF ?_
      refine kK ?_
      refine PJ.next ?_
      refine kSR ?_
      refine kC 4 [0,1,4,5,6,7,38,41] ?_
      obtain ⟨hm, h2745⟩ := asrt h2741
      refine RJ.rel (d := (some 42)) (ef := ⟨.vc 2, [0, 1], [(0, .gone), (2, .vec (s1635.2.length + (([(⟨0, (nth x0 s1635.1)⟩ : St33)] : List St33)).length) 2 34 (s1635.2.flatMap encSt33 ++ (([(⟨0, (nth x0 s1635.1)⟩ : St33)] : List St33)).flatMap encSt33))]⟩) (ef' := ⟨.vc 2, [0, 1], [(0, .gone), (2, vecL encSt33 2 34 (s1635.2 ++ (([(⟨0, (nth x0 s1635.1)⟩ : St33)] : List St33))))]⟩) (c := room (s1635.2.length + (([(⟨0, (nth x0 s1635.1)⟩ : St33)] : List St33)).length)) (tr2 := []) (H2 := [.gone, vecL encSt33 2 34 (([(⟨0, (nth x0 s1635.1)⟩ : St33)] : List St33)), vecL encSt33 2 34 ((s1635.2 ++ (([(⟨0, (nth x0 s1635.1)⟩ : St33)] : List St33))))]) (by kernel_rfl) hm (fun hc => N.app) (by kernel_rfl) ?_
      refine kC 1 [0,1,4,5,6,7] ?_
      refine kEN ?_
      refine kSR ?_
      refine kC 3 [0,1,4,5,6,7] ?_
      refine kEN ?_
      refine K.exit 1 (by kernel_rfl) ?_
      refine PJ.passExit ?_
      refine PJ.blockOut ?_
      obtain rfl := oi h2745
      refine kW (L2 := [(0, lsv (encI .i32) 1 x0), (1, .int .i64 (IntKind.wrap .i64 (s1635.1 + 1))), (4, .nl), (5, .int .i64 0), (6, .bool false), (7, .vc 0)]) (H2 := [vecL encSt33 2 34 ((s1635.2 ++ (([(⟨0, (nth x0 s1635.1)⟩ : St33)] : List St33))))]) hFH hFD [2] ?_
      exact kLN [0, 1, 4, 5, 6, 7]
    ·refine kF ?_
     refine kK ?_
     refine PJ.next ?_
     refine kS ?_
     refine kSR ?_
     refine kC 3 [0,1,4,5,6,7,45,47] ?_
     obtain ⟨y2746, hy2747, h2748⟩ := bindS h2738
     refine kA 48 (exergueref10_at_ok hy2747) ?_
     refine kC 1 [0,1,4,5,6,7,49] ?_
     refine kEN ?_
     refine kBJ 49 h2748 (fun h2750 => ?_) (fun h2751 => ?_)
     ·refine kT ?_
      refine kSR ?_
      refine kC 3 [0,1,4,5,6,7,50,52] ?_
      obtain ⟨hm, h2752⟩ := asrt h2750
      refine RJ.rel (d := (some 53)) (ef := ⟨.vc 2, [0, 1], [(0, .gone), (2, .vec (s1635.2.length + ([(⟨0, 39⟩ : St33)] : List St33).length) 2 34 (s1635.2.flatMap encSt33 ++ ([(⟨0, 39⟩ : St33)] : List St33).flatMap encSt33))]⟩) (ef' := ⟨.vc 2, [0, 1], [(0, .gone), (2, vecL encSt33 2 34 (s1635.2 ++ ([(⟨0, 39⟩ : St33)] : List St33)))]⟩) (c := room (s1635.2.length + ([(⟨0, 39⟩ : St33)] : List St33).length)) (tr2 := []) (H2 := [.gone, vecL encSt33 2 34 ([(⟨0, 39⟩ : St33)] : List St33), vecL encSt33 2 34 ((s1635.2 ++ ([(⟨0, 39⟩ : St33)] : List St33)))]) (by kernel_rfl) hm (fun hc => N.app) (by kernel_rfl) ?_
      refine kC 1 [0,1,4,5,6,7] ?_
      refine kEN ?_
      refine kSR ?_
      refine kC 3 [0,1,4,5,6,7] ?_
      refine kEN ?_
      refine K.exit 1 (by kernel_rfl) ?_
      refine PJ.passExit ?_
      refine PJ.blockOut ?_
      obtain rfl := oi h2752
      refine kW (L2 := [(0, lsv (encI .i32) 1 x0), (1, .int .i64 (IntKind.wrap .i64 (s1635.1 + 2))), (4, .nl), (5, .int .i64 0), (6, .bool false), (7, .vc 0)]) (H2 := [vecL encSt33 2 34 ((s1635.2 ++ ([(⟨0, 39⟩ : St33)] : List St33)))]) hFH hFD [2] ?_
      exact kLN [0, 1, 4, 5, 6, 7]
     ·refine kF ?_
      refine kK ?_
      refine PJ.next ?_
      refine kSR ?_
      refine kC 2 [0,1,4,5,6,7,11] ?_
      refine kEN ?_
      refine kSR ?_
      refine kC 3 [0,1,4,5,6,7,11] ?_
      refine kEN ?_
      obtain ⟨s3002, hy3004, h3006⟩ := bindS h2751
      refine K.cutN (by kernel_rfl) (fun (s3002 : Int × (List St33)) => ([(0, lsv (encI .i32) 1 x0), (1, .int .i64 s3002.1), (4, .nl), (5, .int .i64 0), (6, .bool false), (7, .vc 0), (11, .int .i64 s1635.1)], [vecL encSt33 2 34 s3002.2])) s3002 ?_ ?_
      ·refine kb 2 ?_
       refine kl (fun (s3007 : Int × (List St33)) => ([(0, lsv (encI .i32) 1 x0), (1, .int .i64 s3007.1), (4, .nl), (5, .int .i64 0), (6, .bool false), (7, .vc 0), (11, .int .i64 s1635.1)], [vecL encSt33 2 34 s3007.2])) hy3004 [0, 1, 4, 5, 6, 7, 11] (fun s3007 x3173 hs3172 => ?_)
       obtain ⟨y3206, hy3207, h3208⟩ := bindS hs3172
       refine K.cutX (by kernel_rfl) (fun (s3205 : Unit) => ([(0, lsv (encI .i32) 1 x0), (1, .int .i64 s3007.1), (4, .nl), (5, .int .i64 0), (6, .bool false), (7, .vc 0), (11, .int .i64 s1635.1)], [vecL encSt33 2 34 s3007.2])) y3206 ?_ (fun s3205 hs => ?_)
       ·obtain ⟨s3220, hy3222, h3224⟩ := bindS hy3207
        refine K.cutN (by kernel_rfl) (fun (s3220 : Bool) => ([(0, lsv (encI .i32) 1 x0), (1, .int .i64 s3007.1), (4, .nl), (5, .int .i64 0), (6, .bool false), (7, .vc 0), (11, .int .i64 s1635.1), (76, .bool s3220)], [vecL encSt33 2 34 s3007.2])) s3220 ?_ ?_
        ·refine kR ?_
         refine kC 5 [0,1,4,5,6,7,11,63] ?_
         refine kB 63 hy3222 (fun h3226 => ?_) (fun h3227 => ?_)
         ·refine kC 2 [0,1,4,5,6,7,11,63,64,65] ?_
          obtain ⟨hm, h3228⟩ := asrt h3226
          refine kI 66 (encI_len .i32) hm ?_
          refine kC 3 [0,1,4,5,6,7,11,63,69] ?_
          refine kB 69 h3228 (fun h3230 => ?_) (fun h3231 => ?_)
          ·refine kC 7 [0,1,4,5,6,7,11,76] ?_
           refine kE ?_
           obtain rfl := oi h3230
           exact kN [0, 1, 4, 5, 6, 7, 11, 76]
          ·refine kC 3 [0,1,4,5,6,7,11,63,69,70,72] ?_
           obtain ⟨y3232, hy3233, h3234⟩ := bindS h3231
           refine kA 73 (exergueref10_at_ok hy3233) ?_
           refine kC 3 [0,1,4,5,6,7,11,76] ?_
           refine kE ?_
           obtain rfl := oi h3234
           exact kN [0, 1, 4, 5, 6, 7, 11, 76]
         ·refine kC 13 [0,1,4,5,6,7,11,76] ?_
          refine kE ?_
          obtain rfl := oi h3227
          exact kN [0, 1, 4, 5, 6, 7, 11, 76]
        ·refine kBJ 76 h3224 (fun h3236 => ?_) (fun h3237 => ?_)
         ·refine kT ?_
          refine kK ?_
          obtain rfl := oi h3236
          exact kXl [0, 1, 4, 5, 6, 7, 11]
         ·refine kF ?_
          refine K.exit 2 (by kernel_rfl) ?_
          obtain rfl := oi h3237
          have h3238 := joinX_inr h3208
          refine PJ.cutXr (fun e => nomatch e) ?_
          obtain rfl := oi h3238
          refine PJ.loopOut (fun e => nomatch e) (fun he3240 => ?_)
          have h3239 := congrArg some he3240
          refine PJ.blockOut ?_
          obtain rfl := oi h3239
          exact kN [0, 1, 4, 5, 6, 7, 11]
       ·subst hs
        have h3209 := joinX_inl h3208
        refine kb 3 ?_
        refine kSR ?_
        refine kC 3 [0,1,4,5,6,7,11,77,78,79] ?_
        obtain ⟨hm, h3241⟩ := asrt h3209
        refine kI 80 (encI_len .i32) hm ?_
        refine kC 3 [0,1,4,5,6,7,11,77,83] ?_
        obtain ⟨hm, h3242⟩ := asrt h3241
        refine RJ.rel (d := (some 84)) (ef := ⟨.vc 2, [0, 1], [(0, .gone), (2, .vec (s3007.2.length + (([(⟨0, (nth x0 s3007.1)⟩ : St33)] : List St33)).length) 2 34 (s3007.2.flatMap encSt33 ++ (([(⟨0, (nth x0 s3007.1)⟩ : St33)] : List St33)).flatMap encSt33))]⟩) (ef' := ⟨.vc 2, [0, 1], [(0, .gone), (2, vecL encSt33 2 34 (s3007.2 ++ (([(⟨0, (nth x0 s3007.1)⟩ : St33)] : List St33))))]⟩) (c := room (s3007.2.length + (([(⟨0, (nth x0 s3007.1)⟩ : St33)] : List St33)).length)) (tr2 := []) (H2 := [.gone, vecL encSt33 2 34 (([(⟨0, (nth x0 s3007.1)⟩ : St33)] : List St33)), vecL encSt33 2 34 ((s3007.2 ++ (([(⟨0, (nth x0 s3007.1)⟩ : St33)] : List St33))))]) (by kernel_rfl) hm (fun hc => N.app) (by kernel_rfl) ?_
        refine kC 1 [0,1,4,5,6,7,11] ?_
        refine kEN ?_
        obtain ⟨s3247, hy3249, h3251⟩ := bindS h3242
        refine K.cutN (by kernel_rfl) (fun (s3247 : Int) => ([(0, lsv (encI .i32) 1 x0), (1, .int .i64 s3247), (4, .nl), (5, .int .i64 0), (6, .bool false), (7, .vc 0), (11, .int .i64 s1635.1)], [vecL encSt33 2 34 ((s3007.2 ++ (([(⟨0, (nth x0 s3007.1)⟩ : St33)] : List St33))))])) s3247 ?_ ?_
        ·refine kSR ?_
         refine kC 2 [0,1,4,5,6,7,11,85,86] ?_
         obtain ⟨hm, h3252⟩ := asrt hy3249
         refine kI 87 (encI_len .i32) hm ?_
         refine kC 2 [0,1,4,5,6,7,11,89] ?_
         refine kEN ?_
         refine kBJ 89 h3252 (fun h3254 => ?_) (fun h3255 => ?_)
         ·refine kT ?_
          refine kR ?_
          refine kC 3 [0,1,4,5,6,7,11] ?_
          refine kE ?_
          obtain rfl := oi h3254
          refine kW (L2 := [(0, lsv (encI .i32) 1 x0), (1, .int .i64 (IntKind.wrap .i64 (s3007.1 + 1))), (4, .nl), (5, .int .i64 0), (6, .bool false), (7, .vc 0), (11, .int .i64 s1635.1)]) (H2 := [vecL encSt33 2 34 ((s3007.2 ++ (([(⟨0, (nth x0 s3007.1)⟩ : St33)] : List St33))))]) hFH hFD [2] ?_
          exact kN [0, 1, 4, 5, 6, 7, 11]
         ·refine kF ?_
          refine kK ?_
          obtain rfl := oi h3255
          refine kW (L2 := [(0, lsv (encI .i32) 1 x0), (1, .int .i64 s3007.1), (4, .nl), (5, .int .i64 0), (6, .bool false), (7, .vc 0), (11, .int .i64 s1635.1)]) (H2 := [vecL encSt33 2 34 ((s3007.2 ++ (([(⟨0, (nth x0 s3007.1)⟩ : St33)] : List St33))))]) hFH hFD [2] ?_
          exact kN [0, 1, 4, 5, 6, 7, 11]
        ·refine kR ?_
         refine kC 3 [0,1,4,5,6,7,11] ?_
         refine kE ?_
         refine PJ.blockNormal ?_
         obtain rfl := oi h3251
         exact kLN [0, 1, 4, 5, 6, 7, 11]
      ·refine kS ?_
       refine kSR ?_
       refine kC 4 [0,1,4,5,6,7,11,97] ?_
       refine kEN ?_
       refine kBJ 97 h3006 (fun h3257 => ?_) (fun h3258 => ?_)
       ·refine kT ?_
        refine kSR ?_
        refine kC 4 [0,1,4,5,6,7] ?_
        refine kEN ?_
        refine kX ?_
        refine PJ.passRet ?_
        refine PJ.blockRet ?_
        obtain rfl := oi h3257
        refine PJ.loopOut (fun e => nomatch e) (fun he3261 => ?_)
        have h3259 := congrArg some he3261
        refine PJ.blockRet ?_
        obtain rfl := oi h3259
        have h3260 := joinX_inr h1633
        refine PJ.cutXr (fun e => nomatch e) ?_
        obtain rfl := oi h3260
        refine PJ.res (v1 := .tup [.nl, .int .i64 s1635.1, .bool false]) (Le.tup (.cons (Le.nl _) (.cons (Le.refl _) (.cons (Le.refl _) .nil)))) ?_
        exact kZ hFn hFH hFD
       ·refine kF ?_
        refine kK ?_
        refine PJ.next ?_
        refine kR ?_
        refine kC 3 [0,1,4,5,6,7] ?_
        refine kE ?_
        refine PJ.blockNormal ?_
        obtain rfl := oi h3258
        exact kLN [0, 1, 4, 5, 6, 7]
  ·refine kF ?_
   refine K.exit 0 (by kernel_rfl) ?_
   refine PJ.passExit ?_
   obtain rfl := oi h2724
   refine PJ.loopOut (fun e => nomatch e) (fun he3263 => ?_)
   have h3262 := congrArg some he3263
   refine PJ.blockOut ?_
   obtain rfl := oi h3262
   exact kXl [1, 4, 5, 6, 7]
 ·subst hs
  have h1634 := joinX_inl h1633
  refine kSR ?_
  refine kC 5 [4,5,6] ?_
  refine kEN ?_
  refine kX ?_
  obtain rfl := oi h1634
  refine PJ.wk (Wk.freeze 0 (n := s1630.2.length) (k := 2) (e := 34) (cs := s1630.2.flatMap encSt33) (by kernel_rfl)) ?_
  exact kZ hFn hFH hFD
def exergueref10_many (x0 : List Int) (x1 : Int) (x2 : Int) : Option (Int) :=
 (Option.bind (loopN (fun (s33 : Int) => (Option.bind (exergueref10_at x0 (IntKind.wrap .i64 (x1 + s33))) fun y52 => (bif (decide (y52 = x2)) then (some (.inl (IntKind.wrap .i64 (s33 + 1)))) else (some (.inr s33))))) big 0) fun (s28 : Int) => (some s28))
theorem exergueref10_many_ok {x0 : List Int} {x1 : Int} {x2 : Int} {r : Int} (h : exergueref10_many x0 x1 x2 = some r) : SC Try.prog 68 [lsv (encI .i32) 1 x0, .int .i64 x1, .int .i32 x2] [] (.int .i64 r) [] := by
 refine kFn (fn := Try.f68) (fun F hFn hFH hFD => ?_)
 unfold exergueref10_many at h
 refine kSR ?_
 refine kC 1 [0,1,2,6] ?_
 refine kEN ?_
 refine kSR ?_
 refine kC 1 [0,1,2,6,7] ?_
 refine kEN ?_
 obtain ⟨s28, hy30, h32⟩ := bindS h
 refine K.cutN (by kernel_rfl) (fun (s28 : Int) => ([(6, .int .i64 0), (7, .int .i64 s28)], [])) s28 ?_ ?_
 ·refine kb 0 ?_
  refine kl (fun (s33 : Int) => ([(0, lsv (encI .i32) 1 x0), (1, .int .i64 x1), (2, .int .i32 x2), (6, .int .i64 0), (7, .int .i64 s33)], [])) hy30 [0, 1, 2, 6, 7] (fun s33 x51 hs50 => ?_)
  refine kS ?_
  refine kSR ?_
  refine kC 4 [0,1,2,6,7,8,11] ?_
  obtain ⟨y52, hy53, h54⟩ := bindS hs50
  refine kA 12 (exergueref10_at_ok hy53) ?_
  refine kC 2 [0,1,2,6,7,14] ?_
  refine kEN ?_
  refine kBJ 14 h54 (fun h56 => ?_) (fun h57 => ?_)
  ·refine kT ?_
   refine kK ?_
   refine PJ.next ?_
   refine kb 1 ?_
   refine kR ?_
   refine kC 3 [0,1,2,6,7] ?_
   refine kE ?_
   refine PJ.blockNormal ?_
   obtain rfl := oi h56
   exact kLN [0, 1, 2, 6, 7]
  ·refine kF ?_
   refine K.exit 0 (by kernel_rfl) ?_
   refine PJ.passExit ?_
   obtain rfl := oi h57
   refine PJ.loopOut (fun e => nomatch e) (fun he59 => ?_)
   have h58 := congrArg some he59
   refine PJ.blockOut ?_
   obtain rfl := oi h58
   exact kN [6, 7]
 ·refine kSR ?_
  refine kC 2 [6] ?_
  refine kEN ?_
  refine kX ?_
  obtain rfl := oi h32
  exact kZ hFn hFH hFD
def exergueref10_places (x0 : St23) (x1 : List Int) (x2 : Int) : Option (St23 × Int × Bool) :=
 (loopN (fun (s1 : Int × Int × Int × Int × (List Int)) => (Option.bind (exergueref10_at x1 s1.1) fun y442 => (Option.bind (exergueref10_at x1 (IntKind.wrap .i64 (s1.1 + 1))) fun y445 => (Option.bind (Option.bind (bif (decide (y442 = 35)) then (some (decide (s1.2.2.2.1 = 0))) else (some false)) fun (s471 : Bool) => (bif s471 then (some (.inr (.inl ((IntKind.wrap .i64 (s1.1 + 1)), (IntKind.wrap .i64 (s1.2.1 + 1)), (IntKind.wrap .i64 (s1.2.2.1 + 1)), s1.2.2.2.1, s1.2.2.2.2)))) else (some (.inl ())))) (joinX fun (s463 : Unit) => (bif (decide (y442 = 48)) then (some (.inl ((IntKind.wrap .i64 (s1.1 + 1)), (IntKind.wrap .i64 (s1.2.1 + 1)), s1.2.2.1, (IntKind.wrap .i64 (s1.2.2.2.1 + 1)), s1.2.2.2.2))) else (Option.bind (Option.bind (bif (decide (y442 = 44)) then (bif (decide (s1.2.1 > 0)) then (bif (decide (y445 = 48)) then (some true) else (bif (decide (y445 = 35)) then (some (decide (s1.2.2.2.1 = 0))) else (some false))) else (some false)) else (some false)) fun (s586 : Bool) => (bif s586 then (Option.bind (Option.bind (bif (decide ((s1.2.2.2.2.length : Int) ≥ 2)) then (bif inR 1 s1.2.2.2.2.length then (bif inR 1 s1.2.2.2.2.length then (some ((decide (¬ (nth s1.2.2.2.2 1) = s1.2.1)))) else none) else none) else (some false)) fun (s638 : Bool) => (bif s638 then (some (.inr (.inr (.inr ((⟨x0.Pre_, x0.Suf_, x0.NPre_, x0.NSuf_, x0.Neg_, s1.2.2.1, s1.2.2.2.1, x0.MinFrac_, x0.MaxFrac_, x0.G1_, x0.G2_, x0.MinSig_, x0.MaxSig_, x0.Exp_, x0.ExpPlus_, x0.Pad_, x0.PadAt_⟩ : St23), s1.1, false))))) else (some (.inl ())))) (joinX fun (s628 : Unit) => (bif room (s1.2.2.2.2.length + ([s1.2.1] : List Int).length) then (some (.inr (.inl ((IntKind.wrap .i64 (s1.1 + 1)), 0, s1.2.2.1, s1.2.2.2.1, (s1.2.2.2.2 ++ ([s1.2.1] : List Int)))))) else none))) else (some (.inl ())))) (joinX fun (s569 : Unit) => (Option.bind (bif (decide ((s1.2.2.2.2.length : Int) = 1)) then (some (s1.2.1, s1.2.1)) else (some (x0.G1_, x0.G2_))) fun (s660 : Int × Int) => (Option.bind (bif (decide ((s1.2.2.2.2.length : Int) > 1)) then (bif inR 1 s1.2.2.2.2.length then (bif inR 1 s1.2.2.2.2.length then (some (s1.2.1, (nth s1.2.2.2.2 1))) else none) else none) else (some (s660.1, s660.2))) fun (s673 : Int × Int) => (some (.inr ((⟨x0.Pre_, x0.Suf_, x0.NPre_, x0.NSuf_, x0.Neg_, s1.2.2.1, s1.2.2.2.1, x0.MinFrac_, x0.MaxFrac_, s673.1, s673.2, x0.MinSig_, x0.MaxSig_, x0.Exp_, x0.ExpPlus_, x0.Pad_, x0.PadAt_⟩ : St23), s1.1, (decide ((IntKind.wrap .i64 (s1.2.2.1 + s1.2.2.2.1)) > 0))))))))))))))) big (x2, 0, x0.Hash_, x0.MinInt_, ([] : List Int)))
theorem exergueref10_places_ok {x0 : St23} {x1 : List Int} {x2 : Int} {r : St23 × Int × Bool} (h : exergueref10_places x0 x1 x2 = some r) : SC Try.prog 69 [.agg (encSt23 x0), lsv (encI .i32) 1 x1, .int .i64 x2] [] (.tup [.agg (encSt23 r.1), .int .i64 r.2.1, .bool r.2.2]) [] := by
 refine kFn (fn := Try.f69) (fun F hFn hFH hFD => ?_)
 unfold exergueref10_places at h
 refine kSR ?_
 refine kC 4 [1,2,3,6,7,8] ?_
 refine kEN ?_
 refine kSR ?_
 refine kC 1 [1,2,3,6,7,8,9] ?_
 refine kEN ?_
 refine kSR ?_
 refine kC 1 [1,2,3,6,7,8,9,10] ?_
 refine kEN ?_
 refine kb 0 ?_
 refine J.wk (Wk.viv 9 1 3 (by kernel_rfl)) ?_
 refine kl (fun (s1 : Int × Int × Int × Int × (List Int)) => ([(1, lsv (encI .i32) 1 x1), (2, .int .i64 s1.1), (3, .ptr 0 0), (6, .ptr 1 0), (7, .int .i64 0), (8, .bool false), (9, .vc 2), (10, .int .i64 s1.2.1)], [.box [lsv encSt33 2 x0.Pre_, lsv encSt33 2 x0.Suf_, lsv encSt33 2 x0.NPre_, lsv encSt33 2 x0.NSuf_, .bool x0.Neg_, .int .i64 s1.2.2.1, .int .i64 s1.2.2.2.1, .int .i64 x0.MinFrac_, .int .i64 x0.MaxFrac_, .int .i64 x0.G1_, .int .i64 x0.G2_, .int .i64 x0.MinSig_, .int .i64 x0.MaxSig_, .int .i64 x0.Exp_, .bool x0.ExpPlus_, .int .i32 x0.Pad_, .int .i64 x0.PadAt_], .box [.nl, .nl, .nl, .nl, .bool false, .int .i64 0, .int .i64 0, .int .i64 0, .int .i64 0, .int .i64 0, .int .i64 0, .int .i64 0, .int .i64 0, .int .i64 0, .bool false, .int .i32 0, .int .i64 0], vecL (encI .i64) 1 3 s1.2.2.2.2])) h [1, 2, 3, 6, 7, 8, 9, 10] (fun s1 x441 hs440 => ?_)
 refine kb 1 ?_
 refine kSR ?_
 refine kC 2 [1,2,3,6,7,8,9,10,13,14] ?_
 obtain ⟨y442, hy443, h444⟩ := bindS hs440
 refine kA 15 (exergueref10_at_ok hy443) ?_
 refine kC 1 [1,2,3,6,7,8,9,10,11] ?_
 refine kEN ?_
 refine kSR ?_
 refine kC 3 [1,2,3,6,7,8,9,10,11,16,18] ?_
 obtain ⟨y445, hy446, h447⟩ := bindS h444
 refine kA 19 (exergueref10_at_ok hy446) ?_
 refine kC 1 [1,2,3,6,7,8,9,10,11,12] ?_
 refine kEN ?_
 obtain ⟨y464, hy465, h466⟩ := bindS h447
 refine K.cutX (by kernel_rfl) (fun (s463 : Unit) => ([(1, lsv (encI .i32) 1 x1), (2, .int .i64 s1.1), (3, .ptr 0 0), (6, .ptr 1 0), (7, .int .i64 0), (8, .bool false), (9, .vc 2), (10, .int .i64 s1.2.1), (11, .int .i32 y442), (12, .int .i32 y445)], [.box [lsv encSt33 2 x0.Pre_, lsv encSt33 2 x0.Suf_, lsv encSt33 2 x0.NPre_, lsv encSt33 2 x0.NSuf_, .bool x0.Neg_, .int .i64 s1.2.2.1, .int .i64 s1.2.2.2.1, .int .i64 x0.MinFrac_, .int .i64 x0.MaxFrac_, .int .i64 x0.G1_, .int .i64 x0.G2_, .int .i64 x0.MinSig_, .int .i64 x0.MaxSig_, .int .i64 x0.Exp_, .bool x0.ExpPlus_, .int .i32 x0.Pad_, .int .i64 x0.PadAt_], .box [.nl, .nl, .nl, .nl, .bool false, .int .i64 0, .int .i64 0, .int .i64 0, .int .i64 0, .int .i64 0, .int .i64 0, .int .i64 0, .int .i64 0, .int .i64 0, .bool false, .int .i32 0, .int .i64 0], vecL (encI .i64) 1 3 s1.2.2.2.2])) y464 ?_ (fun s463 hs => ?_)
 ·obtain ⟨s471, hy473, h475⟩ := bindS hy465
  refine K.cutN (by kernel_rfl) (fun (s471 : Bool) => ([(1, lsv (encI .i32) 1 x1), (2, .int .i64 s1.1), (3, .ptr 0 0), (6, .ptr 1 0), (7, .int .i64 0), (8, .bool false), (9, .vc 2), (10, .int .i64 s1.2.1), (11, .int .i32 y442), (12, .int .i32 y445), (26, .bool s471)], [.box [lsv encSt33 2 x0.Pre_, lsv encSt33 2 x0.Suf_, lsv encSt33 2 x0.NPre_, lsv encSt33 2 x0.NSuf_, .bool x0.Neg_, .int .i64 s1.2.2.1, .int .i64 s1.2.2.2.1, .int .i64 x0.MinFrac_, .int .i64 x0.MaxFrac_, .int .i64 x0.G1_, .int .i64 x0.G2_, .int .i64 x0.MinSig_, .int .i64 x0.MaxSig_, .int .i64 x0.Exp_, .bool x0.ExpPlus_, .int .i32 x0.Pad_, .int .i64 x0.PadAt_], .box [.nl, .nl, .nl, .nl, .bool false, .int .i64 0, .int .i64 0, .int .i64 0, .int .i64 0, .int .i64 0, .int .i64 0, .int .i64 0, .int .i64 0, .int .i64 0, .bool false, .int .i32 0, .int .i64 0], vecL (encI .i64) 1 3 s1.2.2.2.2])) s471 ?_ ?_
  ·refine kR ?_
   refine kC 3 [1,2,3,6,7,8,9,10,11,12,22] ?_
   refine kB 22 hy473 (fun h477 => ?_) (fun h478 => ?_)
   ·refine kC 4 [1,2,3,6,7,8,9,10,11,12,26] ?_
    refine kE ?_
    obtain rfl := oi h477
    exact kN [1, 2, 3, 6, 7, 8, 9, 10, 11, 12, 26]
   ·refine kC 4 [1,2,3,6,7,8,9,10,11,12,26] ?_
    refine kE ?_
    obtain rfl := oi h478
    exact kN [1, 2, 3, 6, 7, 8, 9, 10, 11, 12, 26]
  ·refine kBJ 26 h475 (fun h480 => ?_) (fun h481 => ?_)
   ·refine kT ?_
    refine kSR ?_
    refine kC 5 [1,2,3,6,7,8,9,10,11,12] ?_
    refine kEN ?_
    refine kSR ?_
    refine kC 3 [1,2,3,6,7,8,9,10,11,12] ?_
    refine kEN ?_
    refine kSR ?_
    refine kC 3 [1,2,3,6,7,8,9,10,11,12] ?_
    refine kEN ?_
    refine K.exit 1 (by kernel_rfl) ?_
    obtain rfl := oi h480
    have h482 := joinX_inr h466
    refine PJ.cutXr (fun e => nomatch e) ?_
    refine PJ.blockOut ?_
    obtain rfl := oi h482
    exact kLN [1, 2, 3, 6, 7, 8, 9, 10]
   ·refine kF ?_
    refine kK ?_
    obtain rfl := oi h481
    exact kXl [1, 2, 3, 6, 7, 8, 9, 10, 11, 12]
 ·subst hs
  have h467 := joinX_inl h466
  refine kS ?_
  refine kSR ?_
  refine kC 2 [1,2,3,6,7,8,9,10,11,12,36] ?_
  refine kEN ?_
  refine kBJ 36 h467 (fun h484 => ?_) (fun h485 => ?_)
  ·refine kT ?_
   refine kSR ?_
   refine kC 5 [1,2,3,6,7,8,9,10,11,12] ?_
   refine kEN ?_
   refine kSR ?_
   refine kC 3 [1,2,3,6,7,8,9,10,11,12] ?_
   refine kEN ?_
   refine kSR ?_
   refine kC 3 [1,2,3,6,7,8,9,10,11,12] ?_
   refine kEN ?_
   refine K.exit 1 (by kernel_rfl) ?_
   refine PJ.passExit ?_
   refine PJ.blockOut ?_
   obtain rfl := oi h484
   exact kLN [1, 2, 3, 6, 7, 8, 9, 10]
  ·refine kF ?_
   refine kK ?_
   refine PJ.next ?_
   obtain ⟨y570, hy571, h572⟩ := bindS h485
   refine K.cutX (by kernel_rfl) (fun (s569 : Unit) => ([(1, lsv (encI .i32) 1 x1), (2, .int .i64 s1.1), (3, .ptr 0 0), (6, .ptr 1 0), (7, .int .i64 0), (8, .bool false), (9, .vc 2), (10, .int .i64 s1.2.1)], [.box [lsv encSt33 2 x0.Pre_, lsv encSt33 2 x0.Suf_, lsv encSt33 2 x0.NPre_, lsv encSt33 2 x0.NSuf_, .bool x0.Neg_, .int .i64 s1.2.2.1, .int .i64 s1.2.2.2.1, .int .i64 x0.MinFrac_, .int .i64 x0.MaxFrac_, .int .i64 x0.G1_, .int .i64 x0.G2_, .int .i64 x0.MinSig_, .int .i64 x0.MaxSig_, .int .i64 x0.Exp_, .bool x0.ExpPlus_, .int .i32 x0.Pad_, .int .i64 x0.PadAt_], .box [.nl, .nl, .nl, .nl, .bool false, .int .i64 0, .int .i64 0, .int .i64 0, .int .i64 0, .int .i64 0, .int .i64 0, .int .i64 0, .int .i64 0, .int .i64 0, .bool false, .int .i32 0, .int .i64 0], vecL (encI .i64) 1 3 s1.2.2.2.2])) y570 ?_ (fun s569 hs => ?_)
   ·obtain ⟨s586, hy588, h590⟩ := bindS hy571
    refine K.cutN (by kernel_rfl) (fun (s586 : Bool) => ([(1, lsv (encI .i32) 1 x1), (2, .int .i64 s1.1), (3, .ptr 0 0), (6, .ptr 1 0), (7, .int .i64 0), (8, .bool false), (9, .vc 2), (10, .int .i64 s1.2.1), (63, .bool s586)], [.box [lsv encSt33 2 x0.Pre_, lsv encSt33 2 x0.Suf_, lsv encSt33 2 x0.NPre_, lsv encSt33 2 x0.NSuf_, .bool x0.Neg_, .int .i64 s1.2.2.1, .int .i64 s1.2.2.2.1, .int .i64 x0.MinFrac_, .int .i64 x0.MaxFrac_, .int .i64 x0.G1_, .int .i64 x0.G2_, .int .i64 x0.MinSig_, .int .i64 x0.MaxSig_, .int .i64 x0.Exp_, .bool x0.ExpPlus_, .int .i32 x0.Pad_, .int .i64 x0.PadAt_], .box [.nl, .nl, .nl, .nl, .bool false, .int .i64 0, .int .i64 0, .int .i64 0, .int .i64 0, .int .i64 0, .int .i64 0, .int .i64 0, .int .i64 0, .int .i64 0, .bool false, .int .i32 0, .int .i64 0], vecL (encI .i64) 1 3 s1.2.2.2.2])) s586 ?_ ?_
    ·refine kR ?_
     refine kC 3 [1,2,3,6,7,8,9,10,12,47] ?_
     refine kB 47 hy588 (fun h592 => ?_) (fun h593 => ?_)
     ·refine kC 4 [1,2,3,6,7,8,9,10,12,51] ?_
      refine kB 51 h592 (fun h595 => ?_) (fun h596 => ?_)
      ·refine kC 3 [1,2,3,6,7,8,9,10,12,51,54] ?_
       refine kB 54 h595 (fun h598 => ?_) (fun h599 => ?_)
       ·refine kC 9 [1,2,3,6,7,8,9,10,63] ?_
        refine kE ?_
        obtain rfl := oi h598
        exact kN [1, 2, 3, 6, 7, 8, 9, 10, 63]
       ·refine kC 3 [1,2,3,6,7,8,9,10,51,54,57] ?_
        refine kB 57 h599 (fun h601 => ?_) (fun h602 => ?_)
        ·refine kC 6 [1,2,3,6,7,8,9,10,63] ?_
         refine kE ?_
         obtain rfl := oi h601
         exact kN [1, 2, 3, 6, 7, 8, 9, 10, 63]
        ·refine kC 6 [1,2,3,6,7,8,9,10,63] ?_
         refine kE ?_
         obtain rfl := oi h602
         exact kN [1, 2, 3, 6, 7, 8, 9, 10, 63]
      ·refine kC 12 [1,2,3,6,7,8,9,10,63] ?_
       refine kE ?_
       obtain rfl := oi h596
       exact kN [1, 2, 3, 6, 7, 8, 9, 10, 63]
     ·refine kC 16 [1,2,3,6,7,8,9,10,63] ?_
      refine kE ?_
      obtain rfl := oi h593
      exact kN [1, 2, 3, 6, 7, 8, 9, 10, 63]
    ·refine kBJ 63 h590 (fun h604 => ?_) (fun h605 => ?_)
     ·refine kT ?_
      obtain ⟨y629, hy630, h631⟩ := bindS h604
      refine K.cutX (by kernel_rfl) (fun (s628 : Unit) => ([(1, lsv (encI .i32) 1 x1), (2, .int .i64 s1.1), (3, .ptr 0 0), (6, .ptr 1 0), (7, .int .i64 0), (8, .bool false), (9, .vc 2), (10, .int .i64 s1.2.1)], [.box [lsv encSt33 2 x0.Pre_, lsv encSt33 2 x0.Suf_, lsv encSt33 2 x0.NPre_, lsv encSt33 2 x0.NSuf_, .bool x0.Neg_, .int .i64 s1.2.2.1, .int .i64 s1.2.2.2.1, .int .i64 x0.MinFrac_, .int .i64 x0.MaxFrac_, .int .i64 x0.G1_, .int .i64 x0.G2_, .int .i64 x0.MinSig_, .int .i64 x0.MaxSig_, .int .i64 x0.Exp_, .bool x0.ExpPlus_, .int .i32 x0.Pad_, .int .i64 x0.PadAt_], .box [.nl, .nl, .nl, .nl, .bool false, .int .i64 0, .int .i64 0, .int .i64 0, .int .i64 0, .int .i64 0, .int .i64 0, .int .i64 0, .int .i64 0, .int .i64 0, .bool false, .int .i32 0, .int .i64 0], vecL (encI .i64) 1 3 s1.2.2.2.2])) y629 ?_ (fun s628 hs => ?_)
      ·obtain ⟨s638, hy640, h642⟩ := bindS hy630
       refine K.cutN (by kernel_rfl) (fun (s638 : Bool) => ([(1, lsv (encI .i32) 1 x1), (2, .int .i64 s1.1), (3, .ptr 0 0), (6, .ptr 1 0), (7, .int .i64 0), (8, .bool false), (9, .vc 2), (10, .int .i64 s1.2.1), (73, .bool s638)], [.box [lsv encSt33 2 x0.Pre_, lsv encSt33 2 x0.Suf_, lsv encSt33 2 x0.NPre_, lsv encSt33 2 x0.NSuf_, .bool x0.Neg_, .int .i64 s1.2.2.1, .int .i64 s1.2.2.2.1, .int .i64 x0.MinFrac_, .int .i64 x0.MaxFrac_, .int .i64 x0.G1_, .int .i64 x0.G2_, .int .i64 x0.MinSig_, .int .i64 x0.MaxSig_, .int .i64 x0.Exp_, .bool x0.ExpPlus_, .int .i32 x0.Pad_, .int .i64 x0.PadAt_], .box [.nl, .nl, .nl, .nl, .bool false, .int .i64 0, .int .i64 0, .int .i64 0, .int .i64 0, .int .i64 0, .int .i64 0, .int .i64 0, .int .i64 0, .int .i64 0, .bool false, .int .i32 0, .int .i64 0], vecL (encI .i64) 1 3 s1.2.2.2.2])) s638 ?_ ?_
       ·refine kR ?_
        refine kC 4 [1,2,3,6,7,8,9,10,67] ?_
        refine kB 67 hy640 (fun h644 => ?_) (fun h645 => ?_)
        ·refine kC 1 [1,2,3,6,7,8,9,10,67,68] ?_
         obtain ⟨hm, h646⟩ := asrt h644
         refine kQ 69 (.ptr 2 ((1 : Int).toNat * 1)) [2] (tr2 := []) hm ?_
         obtain ⟨hm, h647⟩ := asrt h646
         refine RJ.rel (d := (some 70)) (ef := ⟨(((s1.2.2.2.2).flatMap (encI .i64)).drop ((1 : Int).toNat * 1)).headD .undef, [2], []⟩) (ef' := ⟨.int .i64 (nth s1.2.2.2.2 1), [2], []⟩) (c := Nat.blt ((1 : Int).toNat * 1) (s1.2.2.2.2.flatMap (encI .i64)).length) (tr2 := []) (H2 := [.box [lsv encSt33 2 x0.Pre_, lsv encSt33 2 x0.Suf_, lsv encSt33 2 x0.NPre_, lsv encSt33 2 x0.NSuf_, .bool x0.Neg_, .int .i64 s1.2.2.1, .int .i64 s1.2.2.2.1, .int .i64 x0.MinFrac_, .int .i64 x0.MaxFrac_, .int .i64 x0.G1_, .int .i64 x0.G2_, .int .i64 x0.MinSig_, .int .i64 x0.MaxSig_, .int .i64 x0.Exp_, .bool x0.ExpPlus_, .int .i32 x0.Pad_, .int .i64 x0.PadAt_], .box [.nl, .nl, .nl, .nl, .bool false, .int .i64 0, .int .i64 0, .int .i64 0, .int .i64 0, .int .i64 0, .int .i64 0, .int .i64 0, .int .i64 0, .int .i64 0, .bool false, .int .i32 0, .int .i64 0], vecL (encI .i64) 1 3 s1.2.2.2.2]) (by kernel_rfl) (loadv_ok (encI_len .i64) rfl hm) (fun hc => N.load1 (encI_len .i64) (fun _ => rfl) hm) (by kernel_rfl) ?_
         refine kC 3 [1,2,3,6,7,8,9,10,73] ?_
         refine kE ?_
         obtain rfl := oi h647
         exact kN [1, 2, 3, 6, 7, 8, 9, 10, 73]
        ·refine kC 6 [1,2,3,6,7,8,9,10,73] ?_
         refine kE ?_
         obtain rfl := oi h645
         exact kN [1, 2, 3, 6, 7, 8, 9, 10, 73]
       ·refine kBJ 73 h642 (fun h649 => ?_) (fun h650 => ?_)
        ·refine kT ?_
         refine kSR ?_
         refine kC 5 [1,2,3,6,7,8,9,10] ?_
         refine kEN ?_
         refine kX ?_
         obtain rfl := oi h649
         have h651 := joinX_inr h631
         refine PJ.cutXr (fun e => nomatch e) ?_
         obtain rfl := oi h651
         have h652 := joinX_inr h572
         refine PJ.cutXr (fun e => nomatch e) ?_
         refine PJ.blockRet ?_
         obtain rfl := oi h652
         refine PJ.loopOut (fun e => nomatch e) (fun he654 => ?_)
         have h653 := congrArg some he654
         refine PJ.blockRet ?_
         obtain rfl := oi h653
         exact kZ hFn hFH hFD
        ·refine kF ?_
         refine kK ?_
         obtain rfl := oi h650
         exact kXl [1, 2, 3, 6, 7, 8, 9, 10]
      ·subst hs
       have h632 := joinX_inl h631
       refine kSR ?_
       refine kC 3 [1,2,3,6,7,8,9,10,76,78] ?_
       obtain ⟨hm, h655⟩ := asrt h632
       refine RJ.rel (d := (some 79)) (ef := ⟨.vc 4, [2, 3], [(2, .gone), (4, .vec (s1.2.2.2.2.length + ([s1.2.1] : List Int).length) 1 3 (s1.2.2.2.2.flatMap (encI .i64) ++ ([s1.2.1] : List Int).flatMap (encI .i64)))]⟩) (ef' := ⟨.vc 4, [2, 3], [(2, .gone), (4, vecL (encI .i64) 1 3 (s1.2.2.2.2 ++ ([s1.2.1] : List Int)))]⟩) (c := room (s1.2.2.2.2.length + ([s1.2.1] : List Int).length)) (tr2 := []) (H2 := [.box [lsv encSt33 2 x0.Pre_, lsv encSt33 2 x0.Suf_, lsv encSt33 2 x0.NPre_, lsv encSt33 2 x0.NSuf_, .bool x0.Neg_, .int .i64 s1.2.2.1, .int .i64 s1.2.2.2.1, .int .i64 x0.MinFrac_, .int .i64 x0.MaxFrac_, .int .i64 x0.G1_, .int .i64 x0.G2_, .int .i64 x0.MinSig_, .int .i64 x0.MaxSig_, .int .i64 x0.Exp_, .bool x0.ExpPlus_, .int .i32 x0.Pad_, .int .i64 x0.PadAt_], .box [.nl, .nl, .nl, .nl, .bool false, .int .i64 0, .int .i64 0, .int .i64 0, .int .i64 0, .int .i64 0, .int .i64 0, .int .i64 0, .int .i64 0, .int .i64 0, .bool false, .int .i32 0, .int .i64 0], .gone, vecL (encI .i64) 1 3 ([s1.2.1] : List Int), vecL (encI .i64) 1 3 (s1.2.2.2.2 ++ ([s1.2.1] : List Int))]) (by kernel_rfl) hm (fun hc => N.app) (by kernel_rfl) ?_
       refine kC 1 [1,2,3,6,7,8,9,10] ?_
       refine kEN ?_
       refine kSR ?_
       refine kC 1 [1,2,3,6,7,8,9,10] ?_
       refine kEN ?_
       refine kSR ?_
       refine kC 3 [1,2,3,6,7,8,9,10] ?_
       refine kEN ?_
       refine K.exit 1 (by kernel_rfl) ?_
       obtain rfl := oi h655
       have h656 := joinX_inr h572
       refine PJ.cutXr (fun e => nomatch e) ?_
       refine PJ.blockOut ?_
       obtain rfl := oi h656
       refine kW (L2 := [(1, lsv (encI .i32) 1 x1), (2, .int .i64 (IntKind.wrap .i64 (s1.1 + 1))), (3, .ptr 0 0), (6, .ptr 1 0), (7, .int .i64 0), (8, .bool false), (9, .vc 2), (10, .int .i64 0)]) (H2 := [.box [lsv encSt33 2 x0.Pre_, lsv encSt33 2 x0.Suf_, lsv encSt33 2 x0.NPre_, lsv encSt33 2 x0.NSuf_, .bool x0.Neg_, .int .i64 s1.2.2.1, .int .i64 s1.2.2.2.1, .int .i64 x0.MinFrac_, .int .i64 x0.MaxFrac_, .int .i64 x0.G1_, .int .i64 x0.G2_, .int .i64 x0.MinSig_, .int .i64 x0.MaxSig_, .int .i64 x0.Exp_, .bool x0.ExpPlus_, .int .i32 x0.Pad_, .int .i64 x0.PadAt_], .box [.nl, .nl, .nl, .nl, .bool false, .int .i64 0, .int .i64 0, .int .i64 0, .int .i64 0, .int .i64 0, .int .i64 0, .int .i64 0, .int .i64 0, .int .i64 0, .bool false, .int .i32 0, .int .i64 0], vecL (encI .i64) 1 3 (s1.2.2.2.2 ++ ([s1.2.1] : List Int))]) hFH hFD [0, 1, 4] ?_
       exact kLN [1, 2, 3, 6, 7, 8, 9, 10]
     ·refine kF ?_
      refine kK ?_
      obtain rfl := oi h605
      exact kXl [1, 2, 3, 6, 7, 8, 9, 10]
   ·subst hs
    have h573 := joinX_inl h572
    obtain ⟨s660, hy662, h664⟩ := bindS h573
    refine K.cutN (by kernel_rfl) (fun (s660 : Int × Int) => ([(1, lsv (encI .i32) 1 x1), (2, .int .i64 s1.1), (3, .ptr 0 0), (6, .ptr 1 0), (7, .int .i64 0), (8, .bool false), (9, .vc 2), (10, .int .i64 s1.2.1)], [.box [lsv encSt33 2 x0.Pre_, lsv encSt33 2 x0.Suf_, lsv encSt33 2 x0.NPre_, lsv encSt33 2 x0.NSuf_, .bool x0.Neg_, .int .i64 s1.2.2.1, .int .i64 s1.2.2.2.1, .int .i64 x0.MinFrac_, .int .i64 x0.MaxFrac_, .int .i64 s660.1, .int .i64 s660.2, .int .i64 x0.MinSig_, .int .i64 x0.MaxSig_, .int .i64 x0.Exp_, .bool x0.ExpPlus_, .int .i32 x0.Pad_, .int .i64 x0.PadAt_], .box [.nl, .nl, .nl, .nl, .bool false, .int .i64 0, .int .i64 0, .int .i64 0, .int .i64 0, .int .i64 0, .int .i64 0, .int .i64 0, .int .i64 0, .int .i64 0, .bool false, .int .i32 0, .int .i64 0], vecL (encI .i64) 1 3 s1.2.2.2.2])) s660 ?_ ?_
    ·refine kSR ?_
     refine kC 3 [1,2,3,6,7,8,9,10,84] ?_
     refine kEN ?_
     refine kBJ 84 hy662 (fun h666 => ?_) (fun h667 => ?_)
     ·refine kT ?_
      refine kSR ?_
      refine kC 3 [1,2,3,6,7,8,9,10] ?_
      refine kEN ?_
      refine kR ?_
      refine kC 3 [1,2,3,6,7,8,9,10] ?_
      refine kE ?_
      obtain rfl := oi h666
      exact kN [1, 2, 3, 6, 7, 8, 9, 10]
     ·refine kF ?_
      refine kK ?_
      obtain rfl := oi h667
      exact kN [1, 2, 3, 6, 7, 8, 9, 10]
    ·obtain ⟨s673, hy675, h677⟩ := bindS h664
     refine K.cutN (by kernel_rfl) (fun (s673 : Int × Int) => ([(1, lsv (encI .i32) 1 x1), (2, .int .i64 s1.1), (3, .ptr 0 0), (6, .ptr 1 0), (7, .int .i64 0), (8, .bool false), (9, .vc 2), (10, .int .i64 s1.2.1)], [.box [lsv encSt33 2 x0.Pre_, lsv encSt33 2 x0.Suf_, lsv encSt33 2 x0.NPre_, lsv encSt33 2 x0.NSuf_, .bool x0.Neg_, .int .i64 s1.2.2.1, .int .i64 s1.2.2.2.1, .int .i64 x0.MinFrac_, .int .i64 x0.MaxFrac_, .int .i64 s673.1, .int .i64 s673.2, .int .i64 x0.MinSig_, .int .i64 x0.MaxSig_, .int .i64 x0.Exp_, .bool x0.ExpPlus_, .int .i32 x0.Pad_, .int .i64 x0.PadAt_], .box [.nl, .nl, .nl, .nl, .bool false, .int .i64 0, .int .i64 0, .int .i64 0, .int .i64 0, .int .i64 0, .int .i64 0, .int .i64 0, .int .i64 0, .int .i64 0, .bool false, .int .i32 0, .int .i64 0], vecL (encI .i64) 1 3 s1.2.2.2.2])) s673 ?_ ?_
     ·refine kSR ?_
      refine kC 3 [1,2,3,6,7,8,9,10,91] ?_
      refine kEN ?_
      refine kBJ 91 hy675 (fun h679 => ?_) (fun h680 => ?_)
      ·refine kT ?_
       refine kSR ?_
       refine kC 3 [1,2,3,6,7,8,9,10] ?_
       refine kEN ?_
       refine kR ?_
       refine kC 1 [1,2,3,6,7,8,9,10,94] ?_
       obtain ⟨hm, h681⟩ := asrt h679
       refine kQ 95 (.ptr 2 ((1 : Int).toNat * 1)) [2] (tr2 := []) hm ?_
       obtain ⟨hm, h682⟩ := asrt h681
       refine RJ.rel (d := (some 96)) (ef := ⟨(((s1.2.2.2.2).flatMap (encI .i64)).drop ((1 : Int).toNat * 1)).headD .undef, [2], []⟩) (ef' := ⟨.int .i64 (nth s1.2.2.2.2 1), [2], []⟩) (c := Nat.blt ((1 : Int).toNat * 1) (s1.2.2.2.2.flatMap (encI .i64)).length) (tr2 := []) (H2 := [.box [lsv encSt33 2 x0.Pre_, lsv encSt33 2 x0.Suf_, lsv encSt33 2 x0.NPre_, lsv encSt33 2 x0.NSuf_, .bool x0.Neg_, .int .i64 s1.2.2.1, .int .i64 s1.2.2.2.1, .int .i64 x0.MinFrac_, .int .i64 x0.MaxFrac_, .int .i64 s1.2.1, .int .i64 s660.2, .int .i64 x0.MinSig_, .int .i64 x0.MaxSig_, .int .i64 x0.Exp_, .bool x0.ExpPlus_, .int .i32 x0.Pad_, .int .i64 x0.PadAt_], .box [.nl, .nl, .nl, .nl, .bool false, .int .i64 0, .int .i64 0, .int .i64 0, .int .i64 0, .int .i64 0, .int .i64 0, .int .i64 0, .int .i64 0, .int .i64 0, .bool false, .int .i32 0, .int .i64 0], vecL (encI .i64) 1 3 s1.2.2.2.2]) (by kernel_rfl) (loadv_ok (encI_len .i64) rfl hm) (fun hc => N.load1 (encI_len .i64) (fun _ => rfl) hm) (by kernel_rfl) ?_
       refine kC 2 [1,2,3,6,7,8,9,10] ?_
       refine kE ?_
       obtain rfl := oi h682
       exact kN [1, 2, 3, 6, 7, 8, 9, 10]
      ·refine kF ?_
       refine kK ?_
       obtain rfl := oi h680
       exact kN [1, 2, 3, 6, 7, 8, 9, 10]
     ·refine kS ?_
      refine J.keep [1, 2, 3, 6, 7, 8, 9, 10] (L2 := [(1, lsv (encI .i32) 1 x1), (2, .int .i64 s1.1), (3, .ptr 0 0), (6, .ptr 1 0), (7, .int .i64 0), (8, .bool false), (9, .vc 2), (10, .int .i64 s1.2.1)]) (by kernel_rfl) ?_
      refine K.draw (by kernel_rfl) (by kernel_rfl) (by kernel_rfl) (H2 := [.box [lsv encSt33 2 x0.Pre_, lsv encSt33 2 x0.Suf_, lsv encSt33 2 x0.NPre_, lsv encSt33 2 x0.NSuf_, .bool x0.Neg_, .int .i64 s1.2.2.1, .int .i64 s1.2.2.2.1, .int .i64 x0.MinFrac_, .int .i64 x0.MaxFrac_, .int .i64 s673.1, .int .i64 s673.2, .int .i64 x0.MinSig_, .int .i64 x0.MaxSig_, .int .i64 x0.Exp_, .bool x0.ExpPlus_, .int .i32 x0.Pad_, .int .i64 x0.PadAt_], .box [.nl, .nl, .nl, .nl, .bool false, .int .i64 0, .int .i64 0, .int .i64 0, .int .i64 0, .int .i64 0, .int .i64 0, .int .i64 0, .int .i64 0, .int .i64 0, .bool false, .int .i32 0, .int .i64 0], vecL (encI .i64) 1 3 s1.2.2.2.2]) (by kernel_rfl) (n := 3) (by kernel_rfl) ?_
      refine kD 11 ?_
      refine kEN ?_
      refine kX ?_
      refine PJ.blockRet ?_
      obtain rfl := oi h677
      refine PJ.loopOut (fun e => nomatch e) (fun he684 => ?_)
      have h683 := congrArg some he684
      refine PJ.blockRet ?_
      obtain rfl := oi h683
      exact kZ hFn hFH hFD
def exergueref10_number (x0 : St23) (x1 : List Int) (x2 : Int) : Option (St23 × Int × Bool) :=
 (Option.bind (exergueref10_many x1 x2 64) fun y1 => (Option.bind (bif (decide (y1 > 0)) then (Option.bind (exergueref10_many x1 (IntKind.wrap .i64 (x2 + y1)) 35) fun y41 => (some (.inl ((IntKind.wrap .i64 ((IntKind.wrap .i64 (x2 + y1)) + y41)), x0.Pre_, x0.Suf_, x0.NPre_, x0.NSuf_, x0.Neg_, x0.Hash_, x0.MinInt_, x0.MinFrac_, x0.MaxFrac_, x0.G1_, x0.G2_, y1, (IntKind.wrap .i64 (y1 + y41)), x0.Exp_, x0.ExpPlus_, x0.Pad_, x0.PadAt_)))) else (Option.bind (exergueref10_places x0 x1 x2) fun y44 => (bif (!y44.2.2) then (some (.inr (x0, y44.2.1, false))) else (Option.bind (exergueref10_at x1 y44.2.1) fun y51 => (bif (decide (y51 = 46)) then (Option.bind (exergueref10_many x1 (IntKind.wrap .i64 (y44.2.1 + 1)) 48) fun y57 => (Option.bind (exergueref10_many x1 ((IntKind.wrap .i64 ((IntKind.wrap .i64 (y44.2.1 + 1)) + y57))) 35) fun y60 => (bif (decide ((IntKind.wrap .i64 (y57 + y60)) = 0)) then (some (.inr ((⟨y44.1.Pre_, y44.1.Suf_, y44.1.NPre_, y44.1.NSuf_, y44.1.Neg_, y44.1.Hash_, y44.1.MinInt_, y57, (IntKind.wrap .i64 (y57 + y60)), y44.1.G1_, y44.1.G2_, y44.1.MinSig_, y44.1.MaxSig_, y44.1.Exp_, y44.1.ExpPlus_, y44.1.Pad_, y44.1.PadAt_⟩ : St23), (IntKind.wrap .i64 (((IntKind.wrap .i64 ((IntKind.wrap .i64 (y44.2.1 + 1)) + y57))) + y60)), false))) else (some (.inl ((IntKind.wrap .i64 (((IntKind.wrap .i64 ((IntKind.wrap .i64 (y44.2.1 + 1)) + y57))) + y60)), y44.1.Pre_, y44.1.Suf_, y44.1.NPre_, y44.1.NSuf_, y44.1.Neg_, y44.1.Hash_, y44.1.MinInt_, y57, (IntKind.wrap .i64 (y57 + y60)), y44.1.G1_, y44.1.G2_, y44.1.MinSig_, y44.1.MaxSig_, y44.1.Exp_, y44.1.ExpPlus_, y44.1.Pad_, y44.1.PadAt_)))))) else (some (.inl (y44.2.1, y44.1.Pre_, y44.1.Suf_, y44.1.NPre_, y44.1.NSuf_, y44.1.Neg_, y44.1.Hash_, y44.1.MinInt_, y44.1.MinFrac_, y44.1.MaxFrac_, y44.1.G1_, y44.1.G2_, y44.1.MinSig_, y44.1.MaxSig_, y44.1.Exp_, y44.1.ExpPlus_, y44.1.Pad_, y44.1.PadAt_)))))))) (joinX fun (s33 : Int × (List St33) × (List St33) × (List St33) × (List St33) × Bool × Int × Int × Int × Int × Int × Int × Int × Int × Int × Bool × Int × Int) => (Option.bind (exergueref10_at x1 s33.1) fun y67 => (bif (decide (¬ y67 = 69)) then (some ((⟨s33.2.1, s33.2.2.1, s33.2.2.2.1, s33.2.2.2.2.1, s33.2.2.2.2.2.1, s33.2.2.2.2.2.2.1, s33.2.2.2.2.2.2.2.1, s33.2.2.2.2.2.2.2.2.1, s33.2.2.2.2.2.2.2.2.2.1, s33.2.2.2.2.2.2.2.2.2.2.1, s33.2.2.2.2.2.2.2.2.2.2.2.1, s33.2.2.2.2.2.2.2.2.2.2.2.2.1, s33.2.2.2.2.2.2.2.2.2.2.2.2.2.1, s33.2.2.2.2.2.2.2.2.2.2.2.2.2.2.1, s33.2.2.2.2.2.2.2.2.2.2.2.2.2.2.2.1, s33.2.2.2.2.2.2.2.2.2.2.2.2.2.2.2.2.1, s33.2.2.2.2.2.2.2.2.2.2.2.2.2.2.2.2.2⟩ : St23), s33.1, true)) else (Option.bind (Option.bind (exergueref10_at x1 (IntKind.wrap .i64 (s33.1 + 1))) fun y84 => (bif (decide (y84 = 43)) then (some ((IntKind.wrap .i64 ((IntKind.wrap .i64 (s33.1 + 1)) + 1)), true)) else (some ((IntKind.wrap .i64 (s33.1 + 1)), s33.2.2.2.2.2.2.2.2.2.2.2.2.2.2.2.1)))) fun (s79 : Int × Bool) => (Option.bind (exergueref10_many x1 s79.1 48) fun y90 => (some ((⟨s33.2.1, s33.2.2.1, s33.2.2.2.1, s33.2.2.2.2.1, s33.2.2.2.2.2.1, s33.2.2.2.2.2.2.1, s33.2.2.2.2.2.2.2.1, s33.2.2.2.2.2.2.2.2.1, s33.2.2.2.2.2.2.2.2.2.1, s33.2.2.2.2.2.2.2.2.2.2.1, s33.2.2.2.2.2.2.2.2.2.2.2.1, s33.2.2.2.2.2.2.2.2.2.2.2.2.1, s33.2.2.2.2.2.2.2.2.2.2.2.2.2.1, y90, s79.2, s33.2.2.2.2.2.2.2.2.2.2.2.2.2.2.2.2.1, s33.2.2.2.2.2.2.2.2.2.2.2.2.2.2.2.2.2⟩ : St23), (IntKind.wrap .i64 (s79.1 + y90)), (decide (y90 > 0)))))))))))
theorem exergueref10_number_ok {x0 : St23} {x1 : List Int} {x2 : Int} {r : St23 × Int × Bool} (h : exergueref10_number x0 x1 x2 = some r) : SC Try.prog 52 [.agg (encSt23 x0), lsv (encI .i32) 1 x1, .int .i64 x2] [] (.tup [.agg (encSt23 r.1), .int .i64 r.2.1, .bool r.2.2]) [] := by
 refine kFn (fn := Try.f52) (fun F hFn hFH hFD => ?_)
 unfold exergueref10_number at h
 refine kSR ?_
 refine kC 4 [1,2,3,6,7,8] ?_
 refine kEN ?_
 refine kSR ?_
 refine kC 2 [1,2,3,6,7,8,16,17] ?_
 obtain ⟨y1, hy2, h3⟩ := bindS h
 refine kA 18 (exergueref10_many_ok hy2) ?_
 refine kC 1 [1,2,3,6,7,8,9] ?_
 refine kEN ?_
 obtain ⟨y34, hy35, h36⟩ := bindS h3
 refine K.cutX (by kernel_rfl) (fun (s33 : Int × (List St33) × (List St33) × (List St33) × (List St33) × Bool × Int × Int × Int × Int × Int × Int × Int × Int × Int × Bool × Int × Int) => ([(1, lsv (encI .i32) 1 x1), (2, .int .i64 s33.1), (3, .ptr 0 0), (6, .ptr 1 0), (7, .int .i64 0), (8, .bool false)], [.box [lsv encSt33 2 s33.2.1, lsv encSt33 2 s33.2.2.1, lsv encSt33 2 s33.2.2.2.1, lsv encSt33 2 s33.2.2.2.2.1, .bool s33.2.2.2.2.2.1, .int .i64 s33.2.2.2.2.2.2.1, .int .i64 s33.2.2.2.2.2.2.2.1, .int .i64 s33.2.2.2.2.2.2.2.2.1, .int .i64 s33.2.2.2.2.2.2.2.2.2.1, .int .i64 s33.2.2.2.2.2.2.2.2.2.2.1, .int .i64 s33.2.2.2.2.2.2.2.2.2.2.2.1, .int .i64 s33.2.2.2.2.2.2.2.2.2.2.2.2.1, .int .i64 s33.2.2.2.2.2.2.2.2.2.2.2.2.2.1, .int .i64 s33.2.2.2.2.2.2.2.2.2.2.2.2.2.2.1, .bool s33.2.2.2.2.2.2.2.2.2.2.2.2.2.2.2.1, .int .i32 s33.2.2.2.2.2.2.2.2.2.2.2.2.2.2.2.2.1, .int .i64 s33.2.2.2.2.2.2.2.2.2.2.2.2.2.2.2.2.2], .box [.nl, .nl, .nl, .nl, .bool false, .int .i64 0, .int .i64 0, .int .i64 0, .int .i64 0, .int .i64 0, .int .i64 0, .int .i64 0, .int .i64 0, .int .i64 0, .bool false, .int .i32 0, .int .i64 0]])) y34 ?_ (fun s33 hs => ?_)
 ·refine kSR ?_
  refine kC 2 [1,2,3,6,7,8,9,20] ?_
  refine kEN ?_
  refine kBJ 20 hy35 (fun h39 => ?_) (fun h40 => ?_)
  ·refine kT ?_
   refine kSR ?_
   refine kC 4 [1,2,3,6,7,8,9,21,24] ?_
   obtain ⟨y41, hy42, h43⟩ := bindS h39
   refine kA 25 (exergueref10_many_ok hy42) ?_
   refine kC 1 [1,2,3,6,7,8,9,10] ?_
   refine kEN ?_
   refine kSR ?_
   refine kC 3 [1,2,3,6,7,8,9,10] ?_
   refine kEN ?_
   refine kSR ?_
   refine kC 5 [1,2,3,6,7,8,9,10] ?_
   refine kEN ?_
   refine kR ?_
   refine kC 6 [1,2,3,6,7,8] ?_
   refine kE ?_
   obtain rfl := oi h43
   exact kXl [1, 2, 3, 6, 7, 8]
  ·refine kF ?_
   refine kSR ?_
   refine kC 3 [1,2,3,6,7,8,38,39,40] ?_
   obtain ⟨y44, hy45, h46⟩ := bindS h40
   refine kA 41 (exergueref10_places_ok hy45) ?_
   refine kC 8 [1,2,3,6,7,8,11,12,13] ?_
   refine kEN ?_
   refine kS ?_
   refine kSR ?_
   refine kC 2 [1,2,3,6,7,8,11,12,46] ?_
   refine kEN ?_
   refine kBJ 46 h46 (fun h48 => ?_) (fun h49 => ?_)
   ·refine kT ?_
    refine kSR ?_
    refine kC 5 [1,2,3,6,7,8,11,12] ?_
    refine kEN ?_
    refine kX ?_
    refine PJ.passRet ?_
    obtain rfl := oi h48
    have h50 := joinX_inr h36
    refine PJ.cutXr (fun e => nomatch e) ?_
    obtain rfl := oi h50
    exact kZ hFn hFH hFD
   ·refine kF ?_
    refine kK ?_
    refine PJ.next ?_
    refine kSR ?_
    refine kC 2 [1,2,3,6,7,8,12] ?_
    refine kEN ?_
    refine kSR ?_
    refine kC 2 [1,2,3,6,7,8] ?_
    refine kEN ?_
    refine kSR ?_
    refine kC 2 [1,2,3,6,7,8,51,52] ?_
    obtain ⟨y51, hy52, h53⟩ := bindS h49
    refine kA 53 (exergueref10_at_ok hy52) ?_
    refine kC 1 [1,2,3,6,7,8,54] ?_
    refine kEN ?_
    refine kBJ 54 h53 (fun h55 => ?_) (fun h56 => ?_)
    ·refine kT ?_
     refine kSR ?_
     refine kC 3 [1,2,3,6,7,8,55,57] ?_
     obtain ⟨y57, hy58, h59⟩ := bindS h55
     refine kA 58 (exergueref10_many_ok hy58) ?_
     refine kC 1 [1,2,3,6,7,8,14] ?_
     refine kEN ?_
     refine kSR ?_
     refine kC 5 [1,2,3,6,7,8,14,59,63] ?_
     obtain ⟨y60, hy61, h62⟩ := bindS h59
     refine kA 64 (exergueref10_many_ok hy61) ?_
     refine kC 1 [1,2,3,6,7,8,14,15] ?_
     refine kEN ?_
     refine kSR ?_
     refine kC 3 [1,2,3,6,7,8,14,15] ?_
     refine kEN ?_
     refine kSR ?_
     refine RJ.seg 5 [1, 2, 3, 6, 7, 8, 14, 15] (L2 := [(1, lsv (encI .i32) 1 x1), (2, .int .i64 y44.2.1), (3, .ptr 0 0), (6, .ptr 1 0), (7, .int .i64 0), (8, .bool false), (14, .int .i64 y57), (15, .int .i64 y60)]) (H2 := [.box [lsv encSt33 2 y44.1.Pre_, lsv encSt33 2 y44.1.Suf_, lsv encSt33 2 y44.1.NPre_, lsv encSt33 2 y44.1.NSuf_, .bool y44.1.Neg_, .int .i64 y44.1.Hash_, .int .i64 y44.1.MinInt_, .int .i64 y57, .int .i64 (IntKind.wrap .i64 (y57 + y60)), .int .i64 y44.1.G1_, .int .i64 y44.1.G2_, .int .i64 y44.1.MinSig_, .int .i64 y44.1.MaxSig_, .int .i64 y44.1.Exp_, .bool y44.1.ExpPlus_, .int .i32 y44.1.Pad_, .int .i64 y44.1.PadAt_], .box [.nl, .nl, .nl, .nl, .bool false, .int .i64 0, .int .i64 0, .int .i64 0, .int .i64 0, .int .i64 0, .int .i64 0, .int .i64 0, .int .i64 0, .int .i64 0, .bool false, .int .i32 0, .int .i64 0], .box (encSt23 y44.1)]) (by kernel_rfl) ?_
     refine kEN ?_
     refine kSR ?_
     refine kC 7 [1,2,3,6,7,8,14,15] ?_
     refine kEN ?_
     refine kSR ?_
     refine kC 4 [1,2,3,6,7,8,80] ?_
     refine kEN ?_
     refine kBJ 80 h62 (fun h64 => ?_) (fun h65 => ?_)
     ·refine kT ?_
      refine kSR ?_
      refine kC 5 [1,2,3,6,7,8] ?_
      refine kEN ?_
      refine kX ?_
      obtain rfl := oi h64
      have h66 := joinX_inr h36
      refine PJ.cutXr (fun e => nomatch e) ?_
      obtain rfl := oi h66
      exact kZ hFn hFH hFD
     ·refine kF ?_
      refine kK ?_
      obtain rfl := oi h65
      refine kW (L2 := [(1, lsv (encI .i32) 1 x1), (2, .int .i64 ((IntKind.wrap .i64 (((IntKind.wrap .i64 ((IntKind.wrap .i64 (y44.2.1 + 1)) + y57))) + y60)))), (3, .ptr 0 0), (6, .ptr 1 0), (7, .int .i64 0), (8, .bool false)]) (H2 := [.box [lsv encSt33 2 y44.1.Pre_, lsv encSt33 2 y44.1.Suf_, lsv encSt33 2 y44.1.NPre_, lsv encSt33 2 y44.1.NSuf_, .bool y44.1.Neg_, .int .i64 y44.1.Hash_, .int .i64 y44.1.MinInt_, .int .i64 y57, .int .i64 (IntKind.wrap .i64 (y57 + y60)), .int .i64 y44.1.G1_, .int .i64 y44.1.G2_, .int .i64 y44.1.MinSig_, .int .i64 y44.1.MaxSig_, .int .i64 y44.1.Exp_, .bool y44.1.ExpPlus_, .int .i32 y44.1.Pad_, .int .i64 y44.1.PadAt_], .box [.nl, .nl, .nl, .nl, .bool false, .int .i64 0, .int .i64 0, .int .i64 0, .int .i64 0, .int .i64 0, .int .i64 0, .int .i64 0, .int .i64 0, .int .i64 0, .bool false, .int .i32 0, .int .i64 0]]) hFH hFD [0, 1] ?_
      exact kXl [1, 2, 3, 6, 7, 8]
    ·refine kF ?_
     refine kK ?_
     obtain rfl := oi h56
     refine kW (L2 := [(1, lsv (encI .i32) 1 x1), (2, .int .i64 y44.2.1), (3, .ptr 0 0), (6, .ptr 1 0), (7, .int .i64 0), (8, .bool false)]) (H2 := [.box (encSt23 y44.1), .box [.nl, .nl, .nl, .nl, .bool false, .int .i64 0, .int .i64 0, .int .i64 0, .int .i64 0, .int .i64 0, .int .i64 0, .int .i64 0, .int .i64 0, .int .i64 0, .bool false, .int .i32 0, .int .i64 0]]) hFH hFD [0, 1] ?_
     exact kXl [1, 2, 3, 6, 7, 8]
 ·subst hs
  have h37 := joinX_inl h36
  refine kS ?_
  refine kSR ?_
  refine kC 2 [1,2,3,6,7,8,83,84] ?_
  obtain ⟨y67, hy68, h69⟩ := bindS h37
  refine kA 85 (exergueref10_at_ok hy68) ?_
  refine kC 1 [1,2,3,6,7,8,86] ?_
  refine kEN ?_
  refine kBJ 86 h69 (fun h71 => ?_) (fun h72 => ?_)
  ·refine kT ?_
   refine kSR ?_
   refine kC 5 [1,2,3,6,7,8] ?_
   refine kEN ?_
   refine kX ?_
   refine PJ.passRet ?_
   obtain rfl := oi h71
   exact kZ hFn hFH hFD
  ·refine kF ?_
   refine kK ?_
   refine PJ.next ?_
   refine kSR ?_
   refine kC 3 [1,2,3,6,7,8] ?_
   refine kEN ?_
   obtain ⟨s79, hy81, h83⟩ := bindS h72
   refine K.cutN (by kernel_rfl) (fun (s79 : Int × Bool) => ([(1, lsv (encI .i32) 1 x1), (2, .int .i64 s79.1), (3, .ptr 0 0), (6, .ptr 1 0), (7, .int .i64 0), (8, .bool false)], [.box [lsv encSt33 2 s33.2.1, lsv encSt33 2 s33.2.2.1, lsv encSt33 2 s33.2.2.2.1, lsv encSt33 2 s33.2.2.2.2.1, .bool s33.2.2.2.2.2.1, .int .i64 s33.2.2.2.2.2.2.1, .int .i64 s33.2.2.2.2.2.2.2.1, .int .i64 s33.2.2.2.2.2.2.2.2.1, .int .i64 s33.2.2.2.2.2.2.2.2.2.1, .int .i64 s33.2.2.2.2.2.2.2.2.2.2.1, .int .i64 s33.2.2.2.2.2.2.2.2.2.2.2.1, .int .i64 s33.2.2.2.2.2.2.2.2.2.2.2.2.1, .int .i64 s33.2.2.2.2.2.2.2.2.2.2.2.2.2.1, .int .i64 s33.2.2.2.2.2.2.2.2.2.2.2.2.2.2.1, .bool s79.2, .int .i32 s33.2.2.2.2.2.2.2.2.2.2.2.2.2.2.2.2.1, .int .i64 s33.2.2.2.2.2.2.2.2.2.2.2.2.2.2.2.2.2], .box [.nl, .nl, .nl, .nl, .bool false, .int .i64 0, .int .i64 0, .int .i64 0, .int .i64 0, .int .i64 0, .int .i64 0, .int .i64 0, .int .i64 0, .int .i64 0, .bool false, .int .i32 0, .int .i64 0]])) s79 ?_ ?_
   ·refine kSR ?_
    refine kC 2 [1,2,3,6,7,8,91,92] ?_
    obtain ⟨y84, hy85, h86⟩ := bindS hy81
    refine kA 93 (exergueref10_at_ok hy85) ?_
    refine kC 1 [1,2,3,6,7,8,94] ?_
    refine kEN ?_
    refine kBJ 94 h86 (fun h88 => ?_) (fun h89 => ?_)
    ·refine kT ?_
     refine kSR ?_
     refine kC 2 [1,2,3,6,7,8] ?_
     refine kEN ?_
     refine kR ?_
     refine kC 3 [1,2,3,6,7,8] ?_
     refine kE ?_
     obtain rfl := oi h88
     exact kN [1, 2, 3, 6, 7, 8]
    ·refine kF ?_
     refine kK ?_
     obtain rfl := oi h89
     exact kN [1, 2, 3, 6, 7, 8]
   ·refine kSR ?_
    refine kC 2 [2,3,6,7,8,98,99] ?_
    obtain ⟨y90, hy91, h92⟩ := bindS h83
    refine kA 100 (exergueref10_many_ok hy91) ?_
    refine kC 2 [2,3,6,7,8] ?_
    refine kEN ?_
    refine kS ?_
    refine J.keep [2, 3, 6, 7, 8] (L2 := [(2, .int .i64 s79.1), (3, .ptr 0 0), (6, .ptr 1 0), (7, .int .i64 0), (8, .bool false)]) (by kernel_rfl) ?_
    refine K.draw (by kernel_rfl) (by kernel_rfl) (by kernel_rfl) (H2 := [.box [lsv encSt33 2 s33.2.1, lsv encSt33 2 s33.2.2.1, lsv encSt33 2 s33.2.2.2.1, lsv encSt33 2 s33.2.2.2.2.1, .bool s33.2.2.2.2.2.1, .int .i64 s33.2.2.2.2.2.2.1, .int .i64 s33.2.2.2.2.2.2.2.1, .int .i64 s33.2.2.2.2.2.2.2.2.1, .int .i64 s33.2.2.2.2.2.2.2.2.2.1, .int .i64 s33.2.2.2.2.2.2.2.2.2.2.1, .int .i64 s33.2.2.2.2.2.2.2.2.2.2.2.1, .int .i64 s33.2.2.2.2.2.2.2.2.2.2.2.2.1, .int .i64 s33.2.2.2.2.2.2.2.2.2.2.2.2.2.1, .int .i64 y90, .bool s79.2, .int .i32 s33.2.2.2.2.2.2.2.2.2.2.2.2.2.2.2.2.1, .int .i64 s33.2.2.2.2.2.2.2.2.2.2.2.2.2.2.2.2.2], .box [.nl, .nl, .nl, .nl, .bool false, .int .i64 0, .int .i64 0, .int .i64 0, .int .i64 0, .int .i64 0, .int .i64 0, .int .i64 0, .int .i64 0, .int .i64 0, .bool false, .int .i32 0, .int .i64 0]]) (by kernel_rfl) (n := 2) (by kernel_rfl) ?_
    refine kD 11 ?_
    refine kEN ?_
    refine kX ?_
    obtain rfl := oi h92
    exact kZ hFn hFH hFD
def exergueref10_first (x0 : List Int) : Option (St23 × Int × Int × Int × Bool) :=
 (Option.bind (exergueref10_pad (⟨([] : List St33), ([] : List St33), ([] : List St33), ([] : List St33), false, 0, 0, 0, 0, 0, 0, 0, 0, 0, false, 0, 0⟩ : St23) x0 0 1) fun y1 => (bif (!y1.2.2) then (some (y1.1, 0, 0, y1.2.1, false)) else (Option.bind (exergueref10_affix x0 y1.2.1) fun y7 => (bif (!y7.2.2) then (some (y1.1, 0, 0, y7.2.1, false)) else (Option.bind (exergueref10_pad (⟨y7.1, y1.1.Suf_, y1.1.NPre_, y1.1.NSuf_, y1.1.Neg_, y1.1.Hash_, y1.1.MinInt_, y1.1.MinFrac_, y1.1.MaxFrac_, y1.1.G1_, y1.1.G2_, y1.1.MinSig_, y1.1.MaxSig_, y1.1.Exp_, y1.1.ExpPlus_, y1.1.Pad_, y1.1.PadAt_⟩ : St23) x0 y7.2.1 2) fun y13 => (bif (!y13.2.2) then (some ((⟨y7.1, y1.1.Suf_, y1.1.NPre_, y1.1.NSuf_, y1.1.Neg_, y1.1.Hash_, y1.1.MinInt_, y1.1.MinFrac_, y1.1.MaxFrac_, y1.1.G1_, y1.1.G2_, y1.1.MinSig_, y1.1.MaxSig_, y1.1.Exp_, y1.1.ExpPlus_, y1.1.Pad_, y1.1.PadAt_⟩ : St23), 0, 0, y13.2.1, false)) else (Option.bind (exergueref10_number y13.1 x0 y13.2.1) fun y19 => (bif (!y19.2.2) then (some ((⟨y7.1, y1.1.Suf_, y1.1.NPre_, y1.1.NSuf_, y1.1.Neg_, y1.1.Hash_, y1.1.MinInt_, y1.1.MinFrac_, y1.1.MaxFrac_, y1.1.G1_, y1.1.G2_, y1.1.MinSig_, y1.1.MaxSig_, y1.1.Exp_, y1.1.ExpPlus_, y1.1.Pad_, y1.1.PadAt_⟩ : St23), 0, 0, y19.2.1, false)) else (Option.bind (exergueref10_pad y19.1 x0 y19.2.1 3) fun y25 => (bif (!y25.2.2) then (some ((⟨y7.1, y1.1.Suf_, y1.1.NPre_, y1.1.NSuf_, y1.1.Neg_, y1.1.Hash_, y1.1.MinInt_, y1.1.MinFrac_, y1.1.MaxFrac_, y1.1.G1_, y1.1.G2_, y1.1.MinSig_, y1.1.MaxSig_, y1.1.Exp_, y1.1.ExpPlus_, y1.1.Pad_, y1.1.PadAt_⟩ : St23), 0, 0, y25.2.1, false)) else (Option.bind (exergueref10_affix x0 y25.2.1) fun y31 => (bif (!y31.2.2) then (some ((⟨y7.1, y1.1.Suf_, y1.1.NPre_, y1.1.NSuf_, y1.1.Neg_, y1.1.Hash_, y1.1.MinInt_, y1.1.MinFrac_, y1.1.MaxFrac_, y1.1.G1_, y1.1.G2_, y1.1.MinSig_, y1.1.MaxSig_, y1.1.Exp_, y1.1.ExpPlus_, y1.1.Pad_, y1.1.PadAt_⟩ : St23), 0, 0, y31.2.1, false)) else (Option.bind (exergueref10_pad (⟨y25.1.Pre_, y31.1, y25.1.NPre_, y25.1.NSuf_, y25.1.Neg_, y25.1.Hash_, y25.1.MinInt_, y25.1.MinFrac_, y25.1.MaxFrac_, y25.1.G1_, y25.1.G2_, y25.1.MinSig_, y25.1.MaxSig_, y25.1.Exp_, y25.1.ExpPlus_, y25.1.Pad_, y25.1.PadAt_⟩ : St23) x0 y31.2.1 4) fun y37 => (some (y37.1, y13.2.1, y19.2.1, y37.2.1, y37.2.2)))))))))))))))
theorem exergueref10_first_ok {x0 : List Int} {r : St23 × Int × Int × Int × Bool} (h : exergueref10_first x0 = some r) : SC Try.prog 34 [lsv (encI .i32) 1 x0] [] (.tup [.agg (encSt23 r.1), .int .i64 r.2.1, .int .i64 r.2.2.1, .int .i64 r.2.2.2.1, .bool r.2.2.2.2]) [] := by
 refine kFn (fn := Try.f34) (fun F hFn hFH hFD => ?_)
 unfold exergueref10_first at h
 refine kSR ?_
 refine kC 5 [0,2,3,4,5,6] ?_
 refine kEN ?_
 refine kSR ?_
 refine kC 2 [0,2,3,4,5,6,29,30] ?_
 obtain ⟨y1, hy2, h3⟩ := bindS h
 refine RJ.call0 (d := (some 31)) (f := 50) (args := [.agg [.nl, .nl, .nl, .nl, .bool false, .int .i64 0, .int .i64 0, .int .i64 0, .int .i64 0, .int .i64 0, .int .i64 0, .int .i64 0, .int .i64 0, .int .i64 0, .bool false, .int .i32 0, .int .i64 0], lsv (encI .i32) 1 x0, .int .i64 0, .int .i64 1]) (v := .tup [.agg (encSt23 y1.1), .int .i64 y1.2.1, .bool y1.2.2]) (tr2 := []) (by kernel_rfl) (by kernel_rfl) (.cons (Le.agg (.cons (Le.nl _) (.cons (Le.nl _) (.cons (Le.nl _) (.cons (Le.nl _) (.cons (Le.refl _) (.cons (Le.refl _) (.cons (Le.refl _) (.cons (Le.refl _) (.cons (Le.refl _) (.cons (Le.refl _) (.cons (Le.refl _) (.cons (Le.refl _) (.cons (Le.refl _) (.cons (Le.refl _) (.cons (Le.refl _) (.cons (Le.refl _) (.cons (Le.refl _) .nil)))))))))))))))))) (.cons (Le.refl _) (.cons (Le.refl _) (.cons (Le.refl _) .nil)))) (exergueref10_pad_ok hy2) (by kernel_rfl) ?_
 refine kC 8 [0,2,3,4,5,6,7,8,9] ?_
 refine kEN ?_
 refine kS ?_
 refine kSR ?_
 refine kC 2 [0,2,3,4,5,6,7,8,36] ?_
 refine kEN ?_
 refine kBJ 36 h3 (fun h5 => ?_) (fun h6 => ?_)
 ·refine kT ?_
  refine kSR ?_
  refine kC 7 [0,2,3,4,5,6,7,8] ?_
  refine kEN ?_
  refine kX ?_
  refine PJ.passRet ?_
  obtain rfl := oi h5
  exact kZ hFn hFH hFD
 ·refine kF ?_
  refine kK ?_
  refine PJ.next ?_
  refine kSR ?_
  refine kC 2 [0,2,3,4,5,6,7,40,41] ?_
  obtain ⟨y7, hy8, h9⟩ := bindS h6
  refine kA 42 (exergueref10_affix_ok hy8) ?_
  refine kC 7 [0,2,3,4,5,6,7,10,11,12] ?_
  refine kEN ?_
  refine kS ?_
  refine kSR ?_
  refine kC 2 [0,2,3,4,5,6,7,10,11,47] ?_
  refine kEN ?_
  refine kBJ 47 h9 (fun h11 => ?_) (fun h12 => ?_)
  ·refine kT ?_
   refine kSR ?_
   refine kC 7 [0,2,3,4,5,6,7,10,11] ?_
   refine kEN ?_
   refine kX ?_
   refine PJ.passRet ?_
   obtain rfl := oi h11
   exact kZ hFn hFH hFD
  ·refine kF ?_
   refine kK ?_
   refine PJ.next ?_
   refine kSR ?_
   refine kC 3 [0,2,3,4,5,6,7,11] ?_
   refine kEN ?_
   refine kSR ?_
   refine kC 3 [0,2,3,4,5,6,7,53,54,55] ?_
   obtain ⟨y13, hy14, h15⟩ := bindS h12
   refine kA 56 (exergueref10_pad_ok hy14) ?_
   refine kC 8 [0,2,3,4,5,6,7,13,14,15] ?_
   refine kEN ?_
   refine kS ?_
   refine kSR ?_
   refine kC 2 [0,2,3,4,5,6,7,13,14,61] ?_
   refine kEN ?_
   refine kBJ 61 h15 (fun h17 => ?_) (fun h18 => ?_)
   ·refine kT ?_
    refine kSR ?_
    refine kC 7 [0,2,3,4,5,6,7,13,14] ?_
    refine kEN ?_
    refine kX ?_
    refine PJ.passRet ?_
    obtain rfl := oi h17
    exact kZ hFn hFH hFD
   ·refine kF ?_
    refine kK ?_
    refine PJ.next ?_
    refine kSR ?_
    refine kC 3 [0,2,3,4,5,6,7,14,65,66,67] ?_
    obtain ⟨y19, hy20, h21⟩ := bindS h18
    refine kA 68 (exergueref10_number_ok hy20) ?_
    refine kC 8 [0,2,3,4,5,6,7,14,16,17,18] ?_
    refine kEN ?_
    refine kS ?_
    refine kSR ?_
    refine kC 2 [0,2,3,4,5,6,7,14,16,17,73] ?_
    refine kEN ?_
    refine kBJ 73 h21 (fun h23 => ?_) (fun h24 => ?_)
    ·refine kT ?_
     refine kSR ?_
     refine kC 7 [0,2,3,4,5,6,7,14,16,17] ?_
     refine kEN ?_
     refine kX ?_
     refine PJ.passRet ?_
     obtain rfl := oi h23
     exact kZ hFn hFH hFD
    ·refine kF ?_
     refine kK ?_
     refine PJ.next ?_
     refine kSR ?_
     refine kC 3 [0,2,3,4,5,6,7,14,17,77,78,79] ?_
     obtain ⟨y25, hy26, h27⟩ := bindS h24
     refine kA 80 (exergueref10_pad_ok hy26) ?_
     refine kC 8 [0,2,3,4,5,6,7,14,17,19,20,21] ?_
     refine kEN ?_
     refine kS ?_
     refine kSR ?_
     refine RJ.seg 2 [0, 2, 3, 4, 5, 6, 7, 14, 17, 19, 20, 85] (L2 := [(0, lsv (encI .i32) 1 x0), (2, .ptr 0 0), (3, .int .i64 0), (4, .int .i64 0), (5, .int .i64 0), (6, .bool false), (7, .ptr 1 0), (14, .int .i64 y13.2.1), (17, .int .i64 y19.2.1), (19, .ptr 4 0), (20, .int .i64 y25.2.1), (85, .bool (!y25.2.2))]) (H2 := [.box [.nl, .nl, .nl, .nl, .bool false, .int .i64 0, .int .i64 0, .int .i64 0, .int .i64 0, .int .i64 0, .int .i64 0, .int .i64 0, .int .i64 0, .int .i64 0, .bool false, .int .i32 0, .int .i64 0], .box [lsv encSt33 2 y7.1, lsv encSt33 2 y1.1.Suf_, lsv encSt33 2 y1.1.NPre_, lsv encSt33 2 y1.1.NSuf_, .bool y1.1.Neg_, .int .i64 y1.1.Hash_, .int .i64 y1.1.MinInt_, .int .i64 y1.1.MinFrac_, .int .i64 y1.1.MaxFrac_, .int .i64 y1.1.G1_, .int .i64 y1.1.G2_, .int .i64 y1.1.MinSig_, .int .i64 y1.1.MaxSig_, .int .i64 y1.1.Exp_, .bool y1.1.ExpPlus_, .int .i32 y1.1.Pad_, .int .i64 y1.1.PadAt_], .box (encSt23 y13.1), .box (encSt23 y19.1), .box (encSt23 y25.1)]) (by kernel_rfl) ?_
     refine kEN ?_
     refine kBJ 85 h27 (fun h29 => ?_) (fun h30 => ?_)
     ·refine kT ?_
      refine kSR ?_
      refine kC 7 [0,2,3,4,5,6,7,14,17,19,20] ?_
      refine kEN ?_
      refine kX ?_
      refine PJ.passRet ?_
      obtain rfl := oi h29
      exact kZ hFn hFH hFD
     ·refine kF ?_
      refine kK ?_
      refine PJ.next ?_
      refine kSR ?_
      refine kC 2 [0,2,3,4,5,6,7,14,17,19,89,90] ?_
      obtain ⟨y31, hy32, h33⟩ := bindS h30
      refine kA 91 (exergueref10_affix_ok hy32) ?_
      refine kC 7 [0,2,3,4,5,6,7,14,17,19,22,23,24] ?_
      refine kEN ?_
      refine kS ?_
      refine kSR ?_
      refine kC 2 [0,2,3,4,5,6,7,14,17,19,22,23,96] ?_
      refine kEN ?_
      refine kBJ 96 h33 (fun h35 => ?_) (fun h36 => ?_)
      ·refine kT ?_
       refine kSR ?_
       refine kC 7 [0,2,3,4,5,6,14,17,19,22,23] ?_
       refine kEN ?_
       refine kX ?_
       refine PJ.passRet ?_
       obtain rfl := oi h35
       exact kZ hFn hFH hFD
      ·refine kF ?_
       refine kK ?_
       refine PJ.next ?_
       refine kSR ?_
       refine kC 3 [0,2,3,4,5,6,14,17,19,23] ?_
       refine kEN ?_
       refine kSR ?_
       refine kC 3 [2,3,4,5,6,14,17,102,103,104] ?_
       obtain ⟨y37, hy38, h39⟩ := bindS h36
       refine kA 105 (exergueref10_pad_ok hy38) ?_
       refine kC 8 [2,3,4,5,6,14,17,25,26,27] ?_
       refine kEN ?_
       refine kSR ?_
       refine kC 10 [2,3,4,5,6] ?_
       refine kEN ?_
       refine kX ?_
       obtain rfl := oi h39
       exact kZ hFn hFH hFD
def exergueref10_second (x0 : St23) (x1 : List Int) (x2 : Int) (x3 : Int) (x4 : Int) : Option (St23 × Int × Bool) :=
 (Option.bind (exergueref10_affix x1 x2) fun y1 => (bif (!y1.2.2) then (some ((⟨x0.Pre_, x0.Suf_, x0.NPre_, x0.NSuf_, true, x0.Hash_, x0.MinInt_, x0.MinFrac_, x0.MaxFrac_, x0.G1_, x0.G2_, x0.MinSig_, x0.MaxSig_, x0.Exp_, x0.ExpPlus_, x0.Pad_, x0.PadAt_⟩ : St23), y1.2.1, false)) else (Option.bind (loopN (fun (s60 : Int × Int) => (bif (decide (s60.2 < x4)) then (Option.bind (exergueref10_at x1 s60.1) fun y96 => (bif inR s60.2 x1.length then (bif (decide (¬ y96 = (nth x1 s60.2))) then (some (.inr (.inr ((⟨x0.Pre_, x0.Suf_, y1.1, x0.NSuf_, true, x0.Hash_, x0.MinInt_, x0.MinFrac_, x0.MaxFrac_, x0.G1_, x0.G2_, x0.MinSig_, x0.MaxSig_, x0.Exp_, x0.ExpPlus_, x0.Pad_, x0.PadAt_⟩ : St23), s60.1, false)))) else (some (.inl ((IntKind.wrap .i64 (s60.1 + 1)), (IntKind.wrap .i64 (s60.2 + 1)))))) else none)) else (some (.inr (.inl s60.1))))) big (y1.2.1, x3)) (joinX fun (s55 : Int) => (Option.bind (exergueref10_affix x1 s55) fun y108 => (some ((⟨x0.Pre_, x0.Suf_, y1.1, y108.1, true, x0.Hash_, x0.MinInt_, x0.MinFrac_, x0.MaxFrac_, x0.G1_, x0.G2_, x0.MinSig_, x0.MaxSig_, x0.Exp_, x0.ExpPlus_, x0.Pad_, x0.PadAt_⟩ : St23), y108.2.1, y108.2.2)))))))
theorem exergueref10_second_ok {x0 : St23} {x1 : List Int} {x2 : Int} {x3 : Int} {x4 : Int} {r : St23 × Int × Bool} (h : exergueref10_second x0 x1 x2 x3 x4 = some r) : SC Try.prog 36 [.agg (encSt23 x0), lsv (encI .i32) 1 x1, .int .i64 x2, .int .i64 x3, .int .i64 x4] [] (.tup [.agg (encSt23 r.1), .int .i64 r.2.1, .bool r.2.2]) [] := by
 refine kFn (fn := Try.f36) (fun F hFn hFH hFD => ?_)
 unfold exergueref10_second at h
 refine kSR ?_
 refine kC 4 [1,2,3,4,5,10,11,12] ?_
 refine kEN ?_
 refine kSR ?_
 refine kC 2 [1,2,3,4,5,10,11,12] ?_
 refine kEN ?_
 refine kSR ?_
 refine kC 2 [1,3,4,5,10,11,12,22,23] ?_
 obtain ⟨y1, hy2, h3⟩ := bindS h
 refine kA 24 (exergueref10_affix_ok hy2) ?_
 refine kC 7 [1,3,4,5,10,11,12,13,14,15] ?_
 refine kEN ?_
 refine kS ?_
 refine kSR ?_
 refine kC 2 [1,3,4,5,10,11,12,13,14,29] ?_
 refine kEN ?_
 refine kBJ 29 h3 (fun h5 => ?_) (fun h6 => ?_)
 ·refine kT ?_
  refine kSR ?_
  refine kC 5 [1,3,4,5,10,11,12,13,14] ?_
  refine kEN ?_
  refine kX ?_
  refine PJ.passRet ?_
  obtain rfl := oi h5
  exact kZ hFn hFH hFD
 ·refine kF ?_
  refine kK ?_
  refine PJ.next ?_
  refine kSR ?_
  refine kC 3 [1,3,4,5,10,11,12,14] ?_
  refine kEN ?_
  obtain ⟨y56, hy57, h58⟩ := bindS h6
  refine K.cutX (by kernel_rfl) (fun (s55 : Int) => ([(1, lsv (encI .i32) 1 x1), (5, .ptr 0 0), (10, .ptr 1 0), (11, .int .i64 0), (12, .bool false), (14, .int .i64 s55)], [.box [lsv encSt33 2 x0.Pre_, lsv encSt33 2 x0.Suf_, lsv encSt33 2 y1.1, lsv encSt33 2 x0.NSuf_, .bool true, .int .i64 x0.Hash_, .int .i64 x0.MinInt_, .int .i64 x0.MinFrac_, .int .i64 x0.MaxFrac_, .int .i64 x0.G1_, .int .i64 x0.G2_, .int .i64 x0.MinSig_, .int .i64 x0.MaxSig_, .int .i64 x0.Exp_, .bool x0.ExpPlus_, .int .i32 x0.Pad_, .int .i64 x0.PadAt_], .box [.nl, .nl, .nl, .nl, .bool false, .int .i64 0, .int .i64 0, .int .i64 0, .int .i64 0, .int .i64 0, .int .i64 0, .int .i64 0, .int .i64 0, .int .i64 0, .bool false, .int .i32 0, .int .i64 0]])) y56 ?_ (fun s55 hs => ?_)
  ·refine kSR ?_
   refine kC 2 [1,4,5,10,11,12,14,16] ?_
   refine kEN ?_
   refine kb 0 ?_
   refine kl (fun (s60 : Int × Int) => ([(1, lsv (encI .i32) 1 x1), (4, .int .i64 x4), (5, .ptr 0 0), (10, .ptr 1 0), (11, .int .i64 0), (12, .bool false), (14, .int .i64 s60.1), (16, .int .i64 s60.2)], [.box [lsv encSt33 2 x0.Pre_, lsv encSt33 2 x0.Suf_, lsv encSt33 2 y1.1, lsv encSt33 2 x0.NSuf_, .bool true, .int .i64 x0.Hash_, .int .i64 x0.MinInt_, .int .i64 x0.MinFrac_, .int .i64 x0.MaxFrac_, .int .i64 x0.G1_, .int .i64 x0.G2_, .int .i64 x0.MinSig_, .int .i64 x0.MaxSig_, .int .i64 x0.Exp_, .bool x0.ExpPlus_, .int .i32 x0.Pad_, .int .i64 x0.PadAt_], .box [.nl, .nl, .nl, .nl, .bool false, .int .i64 0, .int .i64 0, .int .i64 0, .int .i64 0, .int .i64 0, .int .i64 0, .int .i64 0, .int .i64 0, .int .i64 0, .bool false, .int .i32 0, .int .i64 0]])) hy57 [1, 4, 5, 10, 11, 12, 14, 16] (fun s60 x92 hs91 => ?_)
   refine kS ?_
   refine kSR ?_
   refine kC 3 [1,4,5,10,11,12,14,16,37] ?_
   refine kEN ?_
   refine kBJ 37 hs91 (fun h94 => ?_) (fun h95 => ?_)
   ·refine kT ?_
    refine kK ?_
    refine PJ.next ?_
    refine kS ?_
    refine kb 1 ?_
    refine kS ?_
    refine kS ?_
    refine J.keep [1, 4, 5, 10, 11, 12, 14, 16] (L2 := [(1, lsv (encI .i32) 1 x1), (4, .int .i64 x4), (5, .ptr 0 0), (10, .ptr 1 0), (11, .int .i64 0), (12, .bool false), (14, .int .i64 s60.1), (16, .int .i64 s60.2)]) (by kernel_rfl) ?_
    refine K.draw (by kernel_rfl) (by kernel_rfl) (by kernel_rfl) (H2 := [.box [lsv encSt33 2 x0.Pre_, lsv encSt33 2 x0.Suf_, lsv encSt33 2 y1.1, lsv encSt33 2 x0.NSuf_, .bool true, .int .i64 x0.Hash_, .int .i64 x0.MinInt_, .int .i64 x0.MinFrac_, .int .i64 x0.MaxFrac_, .int .i64 x0.G1_, .int .i64 x0.G2_, .int .i64 x0.MinSig_, .int .i64 x0.MaxSig_, .int .i64 x0.Exp_, .bool x0.ExpPlus_, .int .i32 x0.Pad_, .int .i64 x0.PadAt_], .box [.nl, .nl, .nl, .nl, .bool false, .int .i64 0, .int .i64 0, .int .i64 0, .int .i64 0, .int .i64 0, .int .i64 0, .int .i64 0, .int .i64 0, .int .i64 0, .bool false, .int .i32 0, .int .i64 0], .res]) (by kernel_rfl) (n := 2) (by kernel_rfl) ?_
    refine kD 2 ?_
    obtain ⟨y96, hy97, h98⟩ := bindS h94
    refine RJ.call0 (d := (some 42)) (f := 35) (args := [lsv (encI .i32) 1 x1, .int .i64 s60.1]) (v := .int .i32 y96) (tr2 := [([], []), ([], []), ([], [4, 5])]) (by kernel_rfl) (by kernel_rfl) (.cons (Le.refl _) (.cons (Le.refl _) .nil)) (exergueref10_at_ok hy97) (by kernel_rfl) ?_
    refine kD 2 ?_
    obtain ⟨hm, h99⟩ := asrt h98
    refine kJ 45 (tr2 := [([], []), ([], []), ([], [4, 5]), ([], []), ([], []), ([], [])]) (encI_len .i32) hm ?_
    refine kD 2 ?_
    refine kEN ?_
    refine kBJ 47 h99 (fun h101 => ?_) (fun h102 => ?_)
    ·refine kT ?_
     refine kSR ?_
     refine kC 5 [1,4,5,10,11,12,14,16] ?_
     refine kEN ?_
     refine kX ?_
     refine PJ.passRet ?_
     refine PJ.blockRet ?_
     refine PJ.passRet ?_
     obtain rfl := oi h101
     refine PJ.loopOut (fun e => nomatch e) (fun he105 => ?_)
     have h103 := congrArg some he105
     refine PJ.blockRet ?_
     obtain rfl := oi h103
     have h104 := joinX_inr h58
     refine PJ.cutXr (fun e => nomatch e) ?_
     obtain rfl := oi h104
     exact kZ hFn hFH hFD
    ·refine kF ?_
     refine kK ?_
     refine PJ.next ?_
     refine kR ?_
     refine kC 3 [1,4,5,10,11,12,14,16] ?_
     refine kE ?_
     refine PJ.blockNormal ?_
     refine PJ.next ?_
     refine kR ?_
     refine kC 3 [1,4,5,10,11,12,14,16] ?_
     refine kE ?_
     obtain rfl := oi h102
     refine kW (L2 := [(1, lsv (encI .i32) 1 x1), (4, .int .i64 x4), (5, .ptr 0 0), (10, .ptr 1 0), (11, .int .i64 0), (12, .bool false), (14, .int .i64 (IntKind.wrap .i64 (s60.1 + 1))), (16, .int .i64 (IntKind.wrap .i64 (s60.2 + 1)))]) (H2 := [.box [lsv encSt33 2 x0.Pre_, lsv encSt33 2 x0.Suf_, lsv encSt33 2 y1.1, lsv encSt33 2 x0.NSuf_, .bool true, .int .i64 x0.Hash_, .int .i64 x0.MinInt_, .int .i64 x0.MinFrac_, .int .i64 x0.MaxFrac_, .int .i64 x0.G1_, .int .i64 x0.G2_, .int .i64 x0.MinSig_, .int .i64 x0.MaxSig_, .int .i64 x0.Exp_, .bool x0.ExpPlus_, .int .i32 x0.Pad_, .int .i64 x0.PadAt_], .box [.nl, .nl, .nl, .nl, .bool false, .int .i64 0, .int .i64 0, .int .i64 0, .int .i64 0, .int .i64 0, .int .i64 0, .int .i64 0, .int .i64 0, .int .i64 0, .bool false, .int .i32 0, .int .i64 0]]) hFH hFD [0, 1] ?_
     exact kLN [1, 4, 5, 10, 11, 12, 14, 16]
   ·refine kF ?_
    refine K.exit 0 (by kernel_rfl) ?_
    refine PJ.passExit ?_
    obtain rfl := oi h95
    refine PJ.loopOut (fun e => nomatch e) (fun he107 => ?_)
    have h106 := congrArg some he107
    refine PJ.blockOut ?_
    obtain rfl := oi h106
    exact kXl [1, 5, 10, 11, 12, 14]
  ·subst hs
   have h59 := joinX_inl h58
   refine kSR ?_
   refine kC 2 [5,10,11,12,53,54] ?_
   obtain ⟨y108, hy109, h110⟩ := bindS h59
   refine kA 55 (exergueref10_affix_ok hy109) ?_
   refine kC 7 [5,10,11,12,17,18,19] ?_
   refine kEN ?_
   refine kSR ?_
   refine kC 3 [5,10,11,12,18,19] ?_
   refine kEN ?_
   refine kSR ?_
   refine kC 6 [10,11,12] ?_
   refine kEN ?_
   refine kX ?_
   obtain rfl := oi h110
   exact kZ hFn hFH hFD
def exergueref10_Parse (x0 : List UInt8) : Option (St23 × Int × Int) :=
 (Option.bind (exergueref01_Decode (bytesI x0)) fun y1 => (bif (decide (¬ y1.2.2 = 0)) then (some ((⟨([] : List St33), ([] : List St33), ([] : List St33), ([] : List St33), false, 0, 0, 0, 0, 0, 0, 0, 0, 0, false, 0, 0⟩ : St23), y1.2.1, 3)) else (bif (decide ((y1.1.length : Int) > 120)) then (some ((⟨([] : List St33), ([] : List St33), ([] : List St33), ([] : List St33), false, 0, 0, 0, 0, 0, 0, 0, 0, 0, false, 0, 0⟩ : St23), 0, 11)) else (Option.bind (exergueref10_first y1.1) fun y10 => (Option.bind (Option.bind (bif y10.2.2.2.2 then (Option.bind (exergueref10_at y1.1 y10.2.2.2.1) fun y55 => (some (decide (y55 = 59)))) else (some false)) fun (s47 : Bool) => (bif s47 then (Option.bind (exergueref10_second y10.1 y1.1 (IntKind.wrap .i64 (y10.2.2.2.1 + 1)) y10.2.1 y10.2.2.1) fun y61 => (some (y61.2.1, y61.2.2, y61.1.Pre_, y61.1.Suf_, y61.1.NPre_, y61.1.NSuf_, y61.1.Neg_, y61.1.Hash_, y61.1.MinInt_, y61.1.MinFrac_, y61.1.MaxFrac_, y61.1.G1_, y61.1.G2_, y61.1.MinSig_, y61.1.MaxSig_, y61.1.Exp_, y61.1.ExpPlus_, y61.1.Pad_, y61.1.PadAt_))) else (some (y10.2.2.2.1, y10.2.2.2.2, y10.1.Pre_, y10.1.Suf_, y10.1.NPre_, y10.1.NSuf_, y10.1.Neg_, y10.1.Hash_, y10.1.MinInt_, y10.1.MinFrac_, y10.1.MaxFrac_, y10.1.G1_, y10.1.G2_, y10.1.MinSig_, y10.1.MaxSig_, y10.1.Exp_, y10.1.ExpPlus_, y10.1.Pad_, y10.1.PadAt_)))) fun (s36 : Int × Bool × (List St33) × (List St33) × (List St33) × (List St33) × Bool × Int × Int × Int × Int × Int × Int × Int × Int × Int × Bool × Int × Int) => (Option.bind (Option.bind (bif (!s36.2.1) then (some true) else (some ((decide (s36.1 < (y1.1.length : Int)))))) fun (s87 : Bool) => (bif s87 then (some (.inr ((⟨([] : List St33), ([] : List St33), ([] : List St33), ([] : List St33), false, 0, 0, 0, 0, 0, 0, 0, 0, 0, false, 0, 0⟩ : St23), s36.1, 2))) else (some (.inl ())))) (joinX fun (s79 : Unit) => (Option.bind (Option.bind (bif (decide ((IntKind.wrap .i64 (s36.2.2.2.2.2.2.2.1 + s36.2.2.2.2.2.2.2.2.1)) > 40)) then (some true) else (bif (decide (s36.2.2.2.2.2.2.2.2.2.2.1 > 40)) then (some true) else (bif (decide (s36.2.2.2.2.2.2.2.2.2.2.2.2.2.2.1 > 40)) then (some true) else (some (decide (s36.2.2.2.2.2.2.2.2.2.2.2.2.2.2.2.1 > 40)))))) fun (s140 : Bool) => (bif s140 then (some (.inr ((⟨([] : List St33), ([] : List St33), ([] : List St33), ([] : List St33), false, 0, 0, 0, 0, 0, 0, 0, 0, 0, false, 0, 0⟩ : St23), 0, 11))) else (some (.inl ())))) (joinX fun (s126 : Unit) => (some ((⟨s36.2.2.1, s36.2.2.2.1, s36.2.2.2.2.1, s36.2.2.2.2.2.1, s36.2.2.2.2.2.2.1, s36.2.2.2.2.2.2.2.1, s36.2.2.2.2.2.2.2.2.1, s36.2.2.2.2.2.2.2.2.2.1, s36.2.2.2.2.2.2.2.2.2.2.1, s36.2.2.2.2.2.2.2.2.2.2.2.1, s36.2.2.2.2.2.2.2.2.2.2.2.2.1, s36.2.2.2.2.2.2.2.2.2.2.2.2.2.1, s36.2.2.2.2.2.2.2.2.2.2.2.2.2.2.1, s36.2.2.2.2.2.2.2.2.2.2.2.2.2.2.2.1, s36.2.2.2.2.2.2.2.2.2.2.2.2.2.2.2.2.1, s36.2.2.2.2.2.2.2.2.2.2.2.2.2.2.2.2.2.1, s36.2.2.2.2.2.2.2.2.2.2.2.2.2.2.2.2.2.2⟩ : St23), 0, 0)))))))))))
theorem exergueref10_Parse_ok {x0 : List UInt8} {r : St23 × Int × Int} (h : exergueref10_Parse x0 = some r) : SC Try.prog 22 [.str x0] [] (.tup [.agg (encSt23 r.1), .int .i64 r.2.1, .int .i64 r.2.2]) [] := by
 refine kFn (fn := Try.f22) (fun F hFn hFH hFD => ?_)
 unfold exergueref10_Parse at h
 refine kSR ?_
 refine kC 3 [0,2,3,4] ?_
 refine kEN ?_
 refine kSR ?_
 refine kC 1 [2,3,4,17] ?_
 refine RJ.rel (d := (some 18)) (ef := ⟨.lst x0.length 1 (x0.map byteSV), [], []⟩) (ef' := ⟨lsv (encI .u8) 1 (bytesI x0), [], []⟩) (c := true) (tr2 := []) (H2 := [.box [.nl, .nl, .nl, .nl, .bool false, .int .i64 0, .int .i64 0, .int .i64 0, .int .i64 0, .int .i64 0, .int .i64 0, .int .i64 0, .int .i64 0, .int .i64 0, .bool false, .int .i32 0, .int .i64 0]]) (by kernel_rfl) rfl (fun hc => N.toBytes) (by kernel_rfl) ?_
 obtain ⟨y1, hy2, h3⟩ := bindS h
 refine kA 19 (exergueref01_Decode_ok hy2) ?_
 refine kC 7 [2,3,4,5,6,7] ?_
 refine kEN ?_
 refine kS ?_
 refine kSR ?_
 refine kC 2 [2,3,4,5,6,24] ?_
 refine kEN ?_
 refine kBJ 24 h3 (fun h5 => ?_) (fun h6 => ?_)
 ·refine kT ?_
  refine kSR ?_
  refine kC 5 [2,3,4,5] ?_
  refine kEN ?_
  refine kX ?_
  refine PJ.passRet ?_
  obtain rfl := oi h5
  refine PJ.res (v1 := .tup [.agg [.nl, .nl, .nl, .nl, .bool false, .int .i64 0, .int .i64 0, .int .i64 0, .int .i64 0, .int .i64 0, .int .i64 0, .int .i64 0, .int .i64 0, .int .i64 0, .bool false, .int .i32 0, .int .i64 0], .int .i64 y1.2.1, .int .i64 3]) (Le.tup (.cons (Le.agg (.cons (Le.nl _) (.cons (Le.nl _) (.cons (Le.nl _) (.cons (Le.nl _) (.cons (Le.refl _) (.cons (Le.refl _) (.cons (Le.refl _) (.cons (Le.refl _) (.cons (Le.refl _) (.cons (Le.refl _) (.cons (Le.refl _) (.cons (Le.refl _) (.cons (Le.refl _) (.cons (Le.refl _) (.cons (Le.refl _) (.cons (Le.refl _) (.cons (Le.refl _) .nil)))))))))))))))))) (.cons (Le.refl _) (.cons (Le.refl _) .nil)))) ?_
  exact kZ hFn hFH hFD
 ·refine kF ?_
  refine kK ?_
  refine PJ.next ?_
  refine kS ?_
  refine kSR ?_
  refine kC 3 [2,3,4,5,29] ?_
  refine kEN ?_
  refine kBJ 29 h6 (fun h8 => ?_) (fun h9 => ?_)
  ·refine kT ?_
   refine kSR ?_
   refine kC 4 [2,3,4,5] ?_
   refine kEN ?_
   refine kX ?_
   refine PJ.passRet ?_
   obtain rfl := oi h8
   refine PJ.res (v1 := .tup [.agg [.nl, .nl, .nl, .nl, .bool false, .int .i64 0, .int .i64 0, .int .i64 0, .int .i64 0, .int .i64 0, .int .i64 0, .int .i64 0, .int .i64 0, .int .i64 0, .bool false, .int .i32 0, .int .i64 0], .int .i64 0, .int .i64 11]) (Le.tup (.cons (Le.agg (.cons (Le.nl _) (.cons (Le.nl _) (.cons (Le.nl _) (.cons (Le.nl _) (.cons (Le.refl _) (.cons (Le.refl _) (.cons (Le.refl _) (.cons (Le.refl _) (.cons (Le.refl _) (.cons (Le.refl _) (.cons (Le.refl _) (.cons (Le.refl _) (.cons (Le.refl _) (.cons (Le.refl _) (.cons (Le.refl _) (.cons (Le.refl _) (.cons (Le.refl _) .nil)))))))))))))))))) (.cons (Le.refl _) (.cons (Le.refl _) .nil)))) ?_
   exact kZ hFn hFH hFD
  ·refine kF ?_
   refine kK ?_
   refine PJ.next ?_
   refine kSR ?_
   refine kC 1 [2,3,4,5,32] ?_
   obtain ⟨y10, hy11, h12⟩ := bindS h9
   refine kA 33 (exergueref10_first_ok hy11) ?_
   refine kC 12 [2,3,4,5,8,9,10,11,12] ?_
   refine kEN ?_
   obtain ⟨s36, hy38, h40⟩ := bindS h12
   refine K.cutN (by kernel_rfl) (fun (s36 : Int × Bool × (List St33) × (List St33) × (List St33) × (List St33) × Bool × Int × Int × Int × Int × Int × Int × Int × Int × Int × Bool × Int × Int) => ([(2, .ptr 0 0), (3, .int .i64 0), (4, .int .i64 0), (5, lsv (encI .i32) 1 y1.1), (8, .ptr 1 0), (11, .int .i64 s36.1), (12, .bool s36.2.1)], [.box [.nl, .nl, .nl, .nl, .bool false, .int .i64 0, .int .i64 0, .int .i64 0, .int .i64 0, .int .i64 0, .int .i64 0, .int .i64 0, .int .i64 0, .int .i64 0, .bool false, .int .i32 0, .int .i64 0], .box [lsv encSt33 2 s36.2.2.1, lsv encSt33 2 s36.2.2.2.1, lsv encSt33 2 s36.2.2.2.2.1, lsv encSt33 2 s36.2.2.2.2.2.1, .bool s36.2.2.2.2.2.2.1, .int .i64 s36.2.2.2.2.2.2.2.1, .int .i64 s36.2.2.2.2.2.2.2.2.1, .int .i64 s36.2.2.2.2.2.2.2.2.2.1, .int .i64 s36.2.2.2.2.2.2.2.2.2.2.1, .int .i64 s36.2.2.2.2.2.2.2.2.2.2.2.1, .int .i64 s36.2.2.2.2.2.2.2.2.2.2.2.2.1, .int .i64 s36.2.2.2.2.2.2.2.2.2.2.2.2.2.1, .int .i64 s36.2.2.2.2.2.2.2.2.2.2.2.2.2.2.1, .int .i64 s36.2.2.2.2.2.2.2.2.2.2.2.2.2.2.2.1, .bool s36.2.2.2.2.2.2.2.2.2.2.2.2.2.2.2.2.1, .int .i32 s36.2.2.2.2.2.2.2.2.2.2.2.2.2.2.2.2.2.1, .int .i64 s36.2.2.2.2.2.2.2.2.2.2.2.2.2.2.2.2.2.2]])) s36 ?_ ?_
   ·obtain ⟨s47, hy49, h51⟩ := bindS hy38
    refine K.cutN (by kernel_rfl) (fun (s47 : Bool) => ([(2, .ptr 0 0), (3, .int .i64 0), (4, .int .i64 0), (5, lsv (encI .i32) 1 y1.1), (8, .ptr 1 0), (9, .int .i64 y10.2.1), (10, .int .i64 y10.2.2.1), (11, .int .i64 y10.2.2.2.1), (12, .bool y10.2.2.2.2), (45, .bool s47)], [.box [.nl, .nl, .nl, .nl, .bool false, .int .i64 0, .int .i64 0, .int .i64 0, .int .i64 0, .int .i64 0, .int .i64 0, .int .i64 0, .int .i64 0, .int .i64 0, .bool false, .int .i32 0, .int .i64 0], .box (encSt23 y10.1)])) s47 ?_ ?_
    ·refine kR ?_
     refine kC 2 [2,3,4,5,8,9,10,11,12,40] ?_
     refine kB 40 hy49 (fun h53 => ?_) (fun h54 => ?_)
     ·refine kC 2 [2,3,4,5,8,9,10,11,12,40,41,42] ?_
      obtain ⟨y55, hy56, h57⟩ := bindS h53
      refine kA 43 (exergueref10_at_ok hy56) ?_
      refine kC 2 [2,3,4,5,8,9,10,11,12,45] ?_
      refine kE ?_
      obtain rfl := oi h57
      exact kN [2, 3, 4, 5, 8, 9, 10, 11, 12, 45]
     ·refine kC 5 [2,3,4,5,8,9,10,11,12,45] ?_
      refine kE ?_
      obtain rfl := oi h54
      exact kN [2, 3, 4, 5, 8, 9, 10, 11, 12, 45]
    ·refine kBJ 45 h51 (fun h59 => ?_) (fun h60 => ?_)
     ·refine kT ?_
      refine kSR ?_
      refine kC 6 [2,3,4,5,8,11,12,47,48,50,51,52] ?_
      obtain ⟨y61, hy62, h63⟩ := bindS h59
      refine kA 53 (exergueref10_second_ok hy62) ?_
      refine kC 8 [2,3,4,5,8,11,12,13,14,15] ?_
      refine kEN ?_
      refine kSR ?_
      refine kC 2 [2,3,4,5,8,11,12,14,15] ?_
      refine kEN ?_
      refine kSR ?_
      refine kC 2 [2,3,4,5,8,11,12,15] ?_
      refine kEN ?_
      refine kR ?_
      refine kC 2 [2,3,4,5,8,11,12] ?_
      refine kE ?_
      obtain rfl := oi h63
      refine kW (L2 := [(2, .ptr 0 0), (3, .int .i64 0), (4, .int .i64 0), (5, lsv (encI .i32) 1 y1.1), (8, .ptr 1 0), (11, .int .i64 y61.2.1), (12, .bool y61.2.2)]) (H2 := [.box [.nl, .nl, .nl, .nl, .bool false, .int .i64 0, .int .i64 0, .int .i64 0, .int .i64 0, .int .i64 0, .int .i64 0, .int .i64 0, .int .i64 0, .int .i64 0, .bool false, .int .i32 0, .int .i64 0], .box (encSt23 y61.1)]) hFH hFD [0, 1] ?_
      exact kN [2, 3, 4, 5, 8, 11, 12]
     ·refine kF ?_
      refine kK ?_
      obtain rfl := oi h60
      exact kN [2, 3, 4, 5, 8, 11, 12]
   ·obtain ⟨y80, hy81, h82⟩ := bindS h40
    refine K.cutX (by kernel_rfl) (fun (s79 : Unit) => ([(2, .ptr 0 0), (3, .int .i64 0), (4, .int .i64 0), (8, .ptr 1 0)], [.box [.nl, .nl, .nl, .nl, .bool false, .int .i64 0, .int .i64 0, .int .i64 0, .int .i64 0, .int .i64 0, .int .i64 0, .int .i64 0, .int .i64 0, .int .i64 0, .bool false, .int .i32 0, .int .i64 0], .box [lsv encSt33 2 s36.2.2.1, lsv encSt33 2 s36.2.2.2.1, lsv encSt33 2 s36.2.2.2.2.1, lsv encSt33 2 s36.2.2.2.2.2.1, .bool s36.2.2.2.2.2.2.1, .int .i64 s36.2.2.2.2.2.2.2.1, .int .i64 s36.2.2.2.2.2.2.2.2.1, .int .i64 s36.2.2.2.2.2.2.2.2.2.1, .int .i64 s36.2.2.2.2.2.2.2.2.2.2.1, .int .i64 s36.2.2.2.2.2.2.2.2.2.2.2.1, .int .i64 s36.2.2.2.2.2.2.2.2.2.2.2.2.1, .int .i64 s36.2.2.2.2.2.2.2.2.2.2.2.2.2.1, .int .i64 s36.2.2.2.2.2.2.2.2.2.2.2.2.2.2.1, .int .i64 s36.2.2.2.2.2.2.2.2.2.2.2.2.2.2.2.1, .bool s36.2.2.2.2.2.2.2.2.2.2.2.2.2.2.2.2.1, .int .i32 s36.2.2.2.2.2.2.2.2.2.2.2.2.2.2.2.2.2.1, .int .i64 s36.2.2.2.2.2.2.2.2.2.2.2.2.2.2.2.2.2.2]])) y80 ?_ (fun s79 hs => ?_)
    ·obtain ⟨s87, hy89, h91⟩ := bindS hy81
     refine K.cutN (by kernel_rfl) (fun (s87 : Bool) => ([(2, .ptr 0 0), (3, .int .i64 0), (4, .int .i64 0), (8, .ptr 1 0), (11, .int .i64 s36.1), (67, .bool s87)], [.box [.nl, .nl, .nl, .nl, .bool false, .int .i64 0, .int .i64 0, .int .i64 0, .int .i64 0, .int .i64 0, .int .i64 0, .int .i64 0, .int .i64 0, .int .i64 0, .bool false, .int .i32 0, .int .i64 0], .box [lsv encSt33 2 s36.2.2.1, lsv encSt33 2 s36.2.2.2.1, lsv encSt33 2 s36.2.2.2.2.1, lsv encSt33 2 s36.2.2.2.2.2.1, .bool s36.2.2.2.2.2.2.1, .int .i64 s36.2.2.2.2.2.2.2.1, .int .i64 s36.2.2.2.2.2.2.2.2.1, .int .i64 s36.2.2.2.2.2.2.2.2.2.1, .int .i64 s36.2.2.2.2.2.2.2.2.2.2.1, .int .i64 s36.2.2.2.2.2.2.2.2.2.2.2.1, .int .i64 s36.2.2.2.2.2.2.2.2.2.2.2.2.1, .int .i64 s36.2.2.2.2.2.2.2.2.2.2.2.2.2.1, .int .i64 s36.2.2.2.2.2.2.2.2.2.2.2.2.2.2.1, .int .i64 s36.2.2.2.2.2.2.2.2.2.2.2.2.2.2.2.1, .bool s36.2.2.2.2.2.2.2.2.2.2.2.2.2.2.2.2.1, .int .i32 s36.2.2.2.2.2.2.2.2.2.2.2.2.2.2.2.2.2.1, .int .i64 s36.2.2.2.2.2.2.2.2.2.2.2.2.2.2.2.2.2.2]])) s87 ?_ ?_
     ·refine kR ?_
      refine kC 3 [2,3,4,5,8,11,62] ?_
      refine kB 62 hy89 (fun h93 => ?_) (fun h94 => ?_)
      ·refine kC 5 [2,3,4,8,11,67] ?_
       refine kE ?_
       obtain rfl := oi h93
       exact kN [2, 3, 4, 8, 11, 67]
      ·refine kC 5 [2,3,4,8,11,67] ?_
       refine kE ?_
       obtain rfl := oi h94
       exact kN [2, 3, 4, 8, 11, 67]
     ·refine kBJ 67 h91 (fun h96 => ?_) (fun h97 => ?_)
      ·refine kT ?_
       refine kSR ?_
       refine kC 5 [2,3,4,8] ?_
       refine kEN ?_
       refine kX ?_
       obtain rfl := oi h96
       have h98 := joinX_inr h82
       refine PJ.cutXr (fun e => nomatch e) ?_
       obtain rfl := oi h98
       refine PJ.res (v1 := .tup [.agg [.nl, .nl, .nl, .nl, .bool false, .int .i64 0, .int .i64 0, .int .i64 0, .int .i64 0, .int .i64 0, .int .i64 0, .int .i64 0, .int .i64 0, .int .i64 0, .bool false, .int .i32 0, .int .i64 0], .int .i64 s36.1, .int .i64 2]) (Le.tup (.cons (Le.agg (.cons (Le.nl _) (.cons (Le.nl _) (.cons (Le.nl _) (.cons (Le.nl _) (.cons (Le.refl _) (.cons (Le.refl _) (.cons (Le.refl _) (.cons (Le.refl _) (.cons (Le.refl _) (.cons (Le.refl _) (.cons (Le.refl _) (.cons (Le.refl _) (.cons (Le.refl _) (.cons (Le.refl _) (.cons (Le.refl _) (.cons (Le.refl _) (.cons (Le.refl _) .nil)))))))))))))))))) (.cons (Le.refl _) (.cons (Le.refl _) .nil)))) ?_
       exact kZ hFn hFH hFD
      ·refine kF ?_
       refine kK ?_
       obtain rfl := oi h97
       exact kXl [2, 3, 4, 8]
    ·subst hs
     have h83 := joinX_inl h82
     obtain ⟨y127, hy128, h129⟩ := bindS h83
     refine K.cutX (by kernel_rfl) (fun (s126 : Unit) => ([(2, .ptr 0 0), (3, .int .i64 0), (4, .int .i64 0), (8, .ptr 1 0)], [.box [.nl, .nl, .nl, .nl, .bool false, .int .i64 0, .int .i64 0, .int .i64 0, .int .i64 0, .int .i64 0, .int .i64 0, .int .i64 0, .int .i64 0, .int .i64 0, .bool false, .int .i32 0, .int .i64 0], .box [lsv encSt33 2 s36.2.2.1, lsv encSt33 2 s36.2.2.2.1, lsv encSt33 2 s36.2.2.2.2.1, lsv encSt33 2 s36.2.2.2.2.2.1, .bool s36.2.2.2.2.2.2.1, .int .i64 s36.2.2.2.2.2.2.2.1, .int .i64 s36.2.2.2.2.2.2.2.2.1, .int .i64 s36.2.2.2.2.2.2.2.2.2.1, .int .i64 s36.2.2.2.2.2.2.2.2.2.2.1, .int .i64 s36.2.2.2.2.2.2.2.2.2.2.2.1, .int .i64 s36.2.2.2.2.2.2.2.2.2.2.2.2.1, .int .i64 s36.2.2.2.2.2.2.2.2.2.2.2.2.2.1, .int .i64 s36.2.2.2.2.2.2.2.2.2.2.2.2.2.2.1, .int .i64 s36.2.2.2.2.2.2.2.2.2.2.2.2.2.2.2.1, .bool s36.2.2.2.2.2.2.2.2.2.2.2.2.2.2.2.2.1, .int .i32 s36.2.2.2.2.2.2.2.2.2.2.2.2.2.2.2.2.2.1, .int .i64 s36.2.2.2.2.2.2.2.2.2.2.2.2.2.2.2.2.2.2]])) y127 ?_ (fun s126 hs => ?_)
     ·obtain ⟨s140, hy142, h144⟩ := bindS hy128
      refine K.cutN (by kernel_rfl) (fun (s140 : Bool) => ([(2, .ptr 0 0), (3, .int .i64 0), (4, .int .i64 0), (8, .ptr 1 0), (90, .bool s140)], [.box [.nl, .nl, .nl, .nl, .bool false, .int .i64 0, .int .i64 0, .int .i64 0, .int .i64 0, .int .i64 0, .int .i64 0, .int .i64 0, .int .i64 0, .int .i64 0, .bool false, .int .i32 0, .int .i64 0], .box [lsv encSt33 2 s36.2.2.1, lsv encSt33 2 s36.2.2.2.1, lsv encSt33 2 s36.2.2.2.2.1, lsv encSt33 2 s36.2.2.2.2.2.1, .bool s36.2.2.2.2.2.2.1, .int .i64 s36.2.2.2.2.2.2.2.1, .int .i64 s36.2.2.2.2.2.2.2.2.1, .int .i64 s36.2.2.2.2.2.2.2.2.2.1, .int .i64 s36.2.2.2.2.2.2.2.2.2.2.1, .int .i64 s36.2.2.2.2.2.2.2.2.2.2.2.1, .int .i64 s36.2.2.2.2.2.2.2.2.2.2.2.2.1, .int .i64 s36.2.2.2.2.2.2.2.2.2.2.2.2.2.1, .int .i64 s36.2.2.2.2.2.2.2.2.2.2.2.2.2.2.1, .int .i64 s36.2.2.2.2.2.2.2.2.2.2.2.2.2.2.2.1, .bool s36.2.2.2.2.2.2.2.2.2.2.2.2.2.2.2.2.1, .int .i32 s36.2.2.2.2.2.2.2.2.2.2.2.2.2.2.2.2.2.1, .int .i64 s36.2.2.2.2.2.2.2.2.2.2.2.2.2.2.2.2.2.2]])) s140 ?_ ?_
      ·refine kR ?_
       refine kC 7 [2,3,4,8,76] ?_
       refine kB 76 hy142 (fun h146 => ?_) (fun h147 => ?_)
       ·refine kC 14 [2,3,4,8,90] ?_
        refine kE ?_
        obtain rfl := oi h146
        exact kN [2, 3, 4, 8, 90]
       ·refine kC 5 [2,3,4,8,81] ?_
        refine kB 81 h147 (fun h149 => ?_) (fun h150 => ?_)
        ·refine kC 9 [2,3,4,8,90] ?_
         refine kE ?_
         obtain rfl := oi h149
         exact kN [2, 3, 4, 8, 90]
        ·refine kC 5 [2,3,4,8,86] ?_
         refine kB 86 h150 (fun h152 => ?_) (fun h153 => ?_)
         ·refine kC 4 [2,3,4,8,90] ?_
          refine kE ?_
          obtain rfl := oi h152
          exact kN [2, 3, 4, 8, 90]
         ·refine kC 4 [2,3,4,8,90] ?_
          refine kE ?_
          obtain rfl := oi h153
          exact kN [2, 3, 4, 8, 90]
      ·refine kBJ 90 h144 (fun h155 => ?_) (fun h156 => ?_)
       ·refine kT ?_
        refine kSR ?_
        refine kC 4 [2,3,4,8] ?_
        refine kEN ?_
        refine kX ?_
        obtain rfl := oi h155
        have h157 := joinX_inr h129
        refine PJ.cutXr (fun e => nomatch e) ?_
        obtain rfl := oi h157
        refine PJ.res (v1 := .tup [.agg [.nl, .nl, .nl, .nl, .bool false, .int .i64 0, .int .i64 0, .int .i64 0, .int .i64 0, .int .i64 0, .int .i64 0, .int .i64 0, .int .i64 0, .int .i64 0, .bool false, .int .i32 0, .int .i64 0], .int .i64 0, .int .i64 11]) (Le.tup (.cons (Le.agg (.cons (Le.nl _) (.cons (Le.nl _) (.cons (Le.nl _) (.cons (Le.nl _) (.cons (Le.refl _) (.cons (Le.refl _) (.cons (Le.refl _) (.cons (Le.refl _) (.cons (Le.refl _) (.cons (Le.refl _) (.cons (Le.refl _) (.cons (Le.refl _) (.cons (Le.refl _) (.cons (Le.refl _) (.cons (Le.refl _) (.cons (Le.refl _) (.cons (Le.refl _) .nil)))))))))))))))))) (.cons (Le.refl _) (.cons (Le.refl _) .nil)))) ?_
        exact kZ hFn hFH hFD
       ·refine kF ?_
        refine kK ?_
        obtain rfl := oi h156
        exact kXl [2, 3, 4, 8]
     ·subst hs
      have h130 := joinX_inl h129
      refine kSR ?_
      refine kC 4 [2,3,4] ?_
      refine kEN ?_
      refine kX ?_
      obtain rfl := oi h130
      exact kZ hFn hFH hFD
def exergueref10_Toks (x0 : List St33) (x1 : List St33) : Option (Bool) :=
 (bif (decide (¬ (x0.length : Int) = (x1.length : Int))) then (some false) else (Option.bind (loopN (fun (s51 : Int) => (bif (decide (s51 < (x0.length : Int))) then (bif inR s51 x0.length then (bif inR s51 x1.length then (bif (!((decide (((nth x0 s51).Kind_) = ((nth x1 s51).Kind_))) && ((decide (((nth x0 s51).R_) = ((nth x1 s51).R_))) && true))) then (some (.inr (.inr false))) else (some (.inl (IntKind.wrap .i64 (s51 + 1))))) else none) else none) else (some (.inr (.inl ()))))) big 0) (joinX fun (s46 : Unit) => (some true))))
theorem exergueref10_Toks_ok {x0 : List St33} {x1 : List St33} {r : Bool} (h : exergueref10_Toks x0 x1 = some r) : SC Try.prog 25 [lsv encSt33 2 x0, lsv encSt33 2 x1] [] (.bool r) [] := by
 refine kFn (fn := Try.f25) (fun F hFn hFH hFD => ?_)
 unfold exergueref10_Toks at h
 refine kSR ?_
 refine kC 1 [0,1,4] ?_
 refine kEN ?_
 refine kS ?_
 refine kSR ?_
 refine kC 5 [0,1,4,10] ?_
 refine kEN ?_
 refine kBJ 10 h (fun h2 => ?_) (fun h3 => ?_)
 ·refine kT ?_
  refine kSR ?_
  refine kC 1 [0,1,4] ?_
  refine kEN ?_
  refine kX ?_
  refine PJ.passRet ?_
  obtain rfl := oi h2
  exact kZ hFn hFH hFD
 ·refine kF ?_
  refine kK ?_
  refine PJ.next ?_
  obtain ⟨y47, hy48, h49⟩ := bindS h3
  refine K.cutX (by kernel_rfl) (fun (s46 : Unit) => ([(4, .bool false)], [])) y47 ?_ (fun s46 hs => ?_)
  ·refine kSR ?_
   refine kC 1 [0,1,4,5] ?_
   refine kEN ?_
   refine kb 0 ?_
   refine kl (fun (s51 : Int) => ([(0, lsv encSt33 2 x0), (1, lsv encSt33 2 x1), (4, .bool false), (5, .int .i64 s51)], [])) hy48 [0, 1, 4, 5] (fun s51 x79 hs78 => ?_)
   refine kS ?_
   refine kSR ?_
   refine kC 4 [0,1,4,5,14] ?_
   refine kEN ?_
   refine kBJ 14 hs78 (fun h81 => ?_) (fun h82 => ?_)
   ·refine kT ?_
    refine kK ?_
    refine PJ.next ?_
    refine kS ?_
    refine kb 1 ?_
    refine kS ?_
    refine J.keep [0, 1, 4, 5] (L2 := [(0, lsv encSt33 2 x0), (1, lsv encSt33 2 x1), (4, .bool false), (5, .int .i64 s51)]) (by kernel_rfl) ?_
    refine K.draw (by kernel_rfl) (by kernel_rfl) (by kernel_rfl) (H2 := []) (by kernel_rfl) (n := 0) (by kernel_rfl) ?_
    refine kD 2 ?_
    obtain ⟨hm, h83⟩ := asrt h81
    refine kJ 19 (tr2 := [([], []), ([], []), ([], [])]) encSt33_len hm ?_
    refine kD 3 ?_
    obtain ⟨hm, h84⟩ := asrt h83
    refine kJ 23 (tr2 := [([], []), ([], []), ([], []), ([], []), ([], []), ([], []), ([], [])]) encSt33_len hm ?_
    refine kD 2 ?_
    refine kEN ?_
    refine kBJ 25 h84 (fun h86 => ?_) (fun h87 => ?_)
    ·refine kT ?_
     refine kSR ?_
     refine kC 1 [0,1,4,5] ?_
     refine kEN ?_
     refine kX ?_
     refine PJ.blockRet ?_
     refine PJ.passRet ?_
     obtain rfl := oi h86
     refine PJ.loopOut (fun e => nomatch e) (fun he90 => ?_)
     have h88 := congrArg some he90
     refine PJ.blockRet ?_
     obtain rfl := oi h88
     have h89 := joinX_inr h49
     refine PJ.cutXr (fun e => nomatch e) ?_
     obtain rfl := oi h89
     exact kZ hFn hFH hFD
    ·refine kF ?_
     refine kK ?_
     refine PJ.blockNormal ?_
     refine PJ.next ?_
     refine kR ?_
     refine kC 3 [0,1,4,5] ?_
     refine kE ?_
     obtain rfl := oi h87
     exact kLN [0, 1, 4, 5]
   ·refine kF ?_
    refine K.exit 0 (by kernel_rfl) ?_
    refine PJ.passExit ?_
    obtain rfl := oi h82
    refine PJ.loopOut (fun e => nomatch e) (fun he92 => ?_)
    have h91 := congrArg some he92
    refine PJ.blockOut ?_
    obtain rfl := oi h91
    exact kXl [4]
  ·subst hs
   have h50 := joinX_inl h49
   refine kSR ?_
   refine kC 1 [4] ?_
   refine kEN ?_
   refine kX ?_
   obtain rfl := oi h50
   exact kZ hFn hFH hFD
def exergueref10_Same (x0 : St23) (x1 : St23) : Option (Bool) :=
 (Option.bind (Option.bind (exergueref10_Toks x0.Pre_ x1.Pre_) fun y15 => (bif y15 then (Option.bind (exergueref10_Toks x0.Suf_ x1.Suf_) fun y21 => (some y21)) else (some false))) fun (s10 : Bool) => (Option.bind (Option.bind (exergueref10_Toks x0.NPre_ x1.NPre_) fun y38 => (bif y38 then (Option.bind (exergueref10_Toks x0.NSuf_ x1.NSuf_) fun y44 => (some y44)) else (some false))) fun (s33 : Bool) => (Option.bind (Option.bind (bif (!s10) then (some true) else (bif (!s33) then (some true) else (bif (x0.Neg_ != x1.Neg_) then (some true) else (bif (decide (¬ x0.Pad_ = x1.Pad_)) then (some true) else (bif (decide (¬ x0.PadAt_ = x1.PadAt_)) then (some true) else (some (x0.ExpPlus_ != x1.ExpPlus_))))))) fun (s106 : Bool) => (bif s106 then (some (.inr false)) else (some (.inl ())))) (joinX fun (s86 : Unit) => (Option.bind (bif (decide (x0.Hash_ = x1.Hash_)) then (bif (decide (x0.MinInt_ = x1.MinInt_)) then (bif (decide (x0.G1_ = x1.G1_)) then (some (decide (x0.G2_ = x1.G2_))) else (some false)) else (some false)) else (some false)) fun (s139 : Bool) => (Option.bind (bif s139 then (bif (decide (x0.MinFrac_ = x1.MinFrac_)) then (bif (decide (x0.MaxFrac_ = x1.MaxFrac_)) then (bif (decide (x0.MinSig_ = x1.MinSig_)) then (bif (decide (x0.MaxSig_ = x1.MaxSig_)) then (some (decide (x0.Exp_ = x1.Exp_))) else (some false)) else (some false)) else (some false)) else (some false)) else (some false)) fun (s168 : Bool) => (some s168)))))))
theorem exergueref10_Same_ok {x0 : St23} {x1 : St23} {r : Bool} (h : exergueref10_Same x0 x1 = some r) : SC Try.prog 12 [.agg (encSt23 x0), .agg (encSt23 x1)] [] (.bool r) [] := by
 refine kFn (fn := Try.f12) (fun F hFn hFH hFD => ?_)
 unfold exergueref10_Same at h
 refine kSR ?_
 refine kC 3 [2,3,4] ?_
 refine kEN ?_
 obtain ⟨s10, hy12, h14⟩ := bindS h
 refine K.cutN (by kernel_rfl) (fun (s10 : Bool) => ([(2, .ptr 0 0), (3, .ptr 1 0), (4, .bool false), (5, .bool s10)], [.box (encSt23 x0), .box (encSt23 x1)])) s10 ?_ ?_
 ·refine kR ?_
  refine kC 4 [2,3,4,9,11] ?_
  obtain ⟨y15, hy16, h17⟩ := bindS hy12
  refine kA 12 (exergueref10_Toks_ok hy16) ?_
  refine kC 1 [2,3,4,13] ?_
  refine kB 13 h17 (fun h19 => ?_) (fun h20 => ?_)
  ·refine kC 4 [2,3,4,13,15,17] ?_
   obtain ⟨y21, hy22, h23⟩ := bindS h19
   refine kA 18 (exergueref10_Toks_ok hy22) ?_
   refine kC 2 [2,3,4,5] ?_
   refine kE ?_
   obtain rfl := oi h23
   exact kN [2, 3, 4, 5]
  ·refine kC 7 [2,3,4,5] ?_
   refine kE ?_
   obtain rfl := oi h20
   exact kN [2, 3, 4, 5]
 ·obtain ⟨s33, hy35, h37⟩ := bindS h14
  refine K.cutN (by kernel_rfl) (fun (s33 : Bool) => ([(2, .ptr 0 0), (3, .ptr 1 0), (4, .bool false), (5, .bool s10), (6, .bool s33)], [.box (encSt23 x0), .box (encSt23 x1)])) s33 ?_ ?_
  ·refine kR ?_
   refine kC 4 [2,3,4,5,21,23] ?_
   obtain ⟨y38, hy39, h40⟩ := bindS hy35
   refine kA 24 (exergueref10_Toks_ok hy39) ?_
   refine kC 1 [2,3,4,5,25] ?_
   refine kB 25 h40 (fun h42 => ?_) (fun h43 => ?_)
   ·refine kC 4 [2,3,4,5,25,27,29] ?_
    obtain ⟨y44, hy45, h46⟩ := bindS h42
    refine kA 30 (exergueref10_Toks_ok hy45) ?_
    refine kC 2 [2,3,4,5,6] ?_
    refine kE ?_
    obtain rfl := oi h46
    exact kN [2, 3, 4, 5, 6]
   ·refine kC 7 [2,3,4,5,6] ?_
    refine kE ?_
    obtain rfl := oi h43
    exact kN [2, 3, 4, 5, 6]
  ·obtain ⟨y87, hy88, h89⟩ := bindS h37
   refine K.cutX (by kernel_rfl) (fun (s86 : Unit) => ([(2, .ptr 0 0), (3, .ptr 1 0), (4, .bool false)], [.box (encSt23 x0), .box (encSt23 x1)])) y87 ?_ (fun s86 hs => ?_)
   ·obtain ⟨s106, hy108, h110⟩ := bindS hy88
    refine K.cutN (by kernel_rfl) (fun (s106 : Bool) => ([(2, .ptr 0 0), (3, .ptr 1 0), (4, .bool false), (65, .bool s106)], [.box (encSt23 x0), .box (encSt23 x1)])) s106 ?_ ?_
    ·refine kR ?_
     refine kC 3 [2,3,4,6,34] ?_
     refine kB 34 hy108 (fun h112 => ?_) (fun h113 => ?_)
     ·refine kC 31 [2,3,4,65] ?_
      refine kE ?_
      obtain rfl := oi h112
      exact kN [2, 3, 4, 65]
     ·refine kC 4 [2,3,4,38] ?_
      refine kB 38 h113 (fun h115 => ?_) (fun h116 => ?_)
      ·refine kC 27 [2,3,4,65] ?_
       refine kE ?_
       obtain rfl := oi h115
       exact kN [2, 3, 4, 65]
      ·refine kC 7 [2,3,4,45] ?_
       refine kB 45 h116 (fun h118 => ?_) (fun h119 => ?_)
       ·refine kC 20 [2,3,4,65] ?_
        refine kE ?_
        obtain rfl := oi h118
        exact kN [2, 3, 4, 65]
       ·refine kC 7 [2,3,4,52] ?_
        refine kB 52 h119 (fun h121 => ?_) (fun h122 => ?_)
        ·refine kC 13 [2,3,4,65] ?_
         refine kE ?_
         obtain rfl := oi h121
         exact kN [2, 3, 4, 65]
        ·refine kC 7 [2,3,4,59] ?_
         refine kB 59 h122 (fun h124 => ?_) (fun h125 => ?_)
         ·refine kC 6 [2,3,4,65] ?_
          refine kE ?_
          obtain rfl := oi h124
          exact kN [2, 3, 4, 65]
         ·refine kC 6 [2,3,4,65] ?_
          refine kE ?_
          obtain rfl := oi h125
          exact kN [2, 3, 4, 65]
    ·refine kBJ 65 h110 (fun h127 => ?_) (fun h128 => ?_)
     ·refine kT ?_
      refine kSR ?_
      refine kC 1 [2,3,4] ?_
      refine kEN ?_
      refine kX ?_
      obtain rfl := oi h127
      have h129 := joinX_inr h89
      refine PJ.cutXr (fun e => nomatch e) ?_
      obtain rfl := oi h129
      exact kZ hFn hFH hFD
     ·refine kF ?_
      refine kK ?_
      obtain rfl := oi h128
      exact kXl [2, 3, 4]
   ·subst hs
    have h90 := joinX_inl h89
    obtain ⟨s139, hy141, h143⟩ := bindS h90
    refine K.cutN (by kernel_rfl) (fun (s139 : Bool) => ([(2, .ptr 0 0), (3, .ptr 1 0), (4, .bool false), (7, .bool s139)], [.box (encSt23 x0), .box (encSt23 x1)])) s139 ?_ ?_
    ·refine kR ?_
     refine kC 6 [2,3,4,71] ?_
     refine kB 71 hy141 (fun h145 => ?_) (fun h146 => ?_)
     ·refine kC 7 [2,3,4,78] ?_
      refine kB 78 h145 (fun h148 => ?_) (fun h149 => ?_)
      ·refine kC 7 [2,3,4,85] ?_
       refine kB 85 h148 (fun h151 => ?_) (fun h152 => ?_)
       ·refine kC 7 [2,3,4,7] ?_
        refine kE ?_
        obtain rfl := oi h151
        exact kN [2, 3, 4, 7]
       ·refine kC 7 [2,3,4,7] ?_
        refine kE ?_
        obtain rfl := oi h152
        exact kN [2, 3, 4, 7]
      ·refine kC 14 [2,3,4,7] ?_
       refine kE ?_
       obtain rfl := oi h149
       exact kN [2, 3, 4, 7]
     ·refine kC 21 [2,3,4,7] ?_
      refine kE ?_
      obtain rfl := oi h146
      exact kN [2, 3, 4, 7]
    ·obtain ⟨s168, hy170, h172⟩ := bindS h143
     refine K.cutN (by kernel_rfl) (fun (s168 : Bool) => ([(4, .bool s168)], [])) s168 ?_ ?_
     ·refine kR ?_
      refine kC 2 [2,3,4,93] ?_
      refine kB 93 hy170 (fun h174 => ?_) (fun h175 => ?_)
      ·refine kC 7 [2,3,4,100] ?_
       refine kB 100 h174 (fun h177 => ?_) (fun h178 => ?_)
       ·refine kC 7 [2,3,4,107] ?_
        refine kB 107 h177 (fun h180 => ?_) (fun h181 => ?_)
        ·refine kC 7 [2,3,4,114] ?_
         refine kB 114 h180 (fun h183 => ?_) (fun h184 => ?_)
         ·refine kC 7 [2,3,4,121] ?_
          refine kB 121 h183 (fun h186 => ?_) (fun h187 => ?_)
          ·refine kC 7 [4] ?_
           refine kE ?_
           obtain rfl := oi h186
           refine kW (L2 := [(4, .bool (decide (x0.Exp_ = x1.Exp_)))]) (H2 := []) hFH hFD [] ?_
           exact kN [4]
          ·refine kC 7 [4] ?_
           refine kE ?_
           obtain rfl := oi h187
           refine kW (L2 := [(4, .bool false)]) (H2 := []) hFH hFD [] ?_
           exact kN [4]
         ·refine kC 14 [4] ?_
          refine kE ?_
          obtain rfl := oi h184
          refine kW (L2 := [(4, .bool false)]) (H2 := []) hFH hFD [] ?_
          exact kN [4]
        ·refine kC 21 [4] ?_
         refine kE ?_
         obtain rfl := oi h181
         refine kW (L2 := [(4, .bool false)]) (H2 := []) hFH hFD [] ?_
         exact kN [4]
       ·refine kC 28 [4] ?_
        refine kE ?_
        obtain rfl := oi h178
        refine kW (L2 := [(4, .bool false)]) (H2 := []) hFH hFD [] ?_
        exact kN [4]
      ·refine kC 35 [4] ?_
       refine kE ?_
       obtain rfl := oi h175
       refine kW (L2 := [(4, .bool false)]) (H2 := []) hFH hFD [] ?_
       exact kN [4]
     ·refine kX ?_
      obtain rfl := oi h172
      exact kZ hFn hFH hFD
def exergueref10_Right (x0 : St23) : Option (Bool) :=
 (Option.bind (loopN (fun (s195 : Int) => (bif (decide (s195 < (([x0.Hash_, x0.MinInt_, x0.MinFrac_, x0.MaxFrac_, x0.G1_, x0.G2_, x0.MinSig_, x0.MaxSig_, x0.Exp_] : List Int).length : Int))) then (Option.bind (Option.bind (bif inR s195 ([x0.Hash_, x0.MinInt_, x0.MinFrac_, x0.MaxFrac_, x0.G1_, x0.G2_, x0.MinSig_, x0.MaxSig_, x0.Exp_] : List Int).length then (bif inR s195 ([x0.Hash_, x0.MinInt_, x0.MinFrac_, x0.MaxFrac_, x0.G1_, x0.G2_, x0.MinSig_, x0.MaxSig_, x0.Exp_] : List Int).length then (bif (decide ((nth ([x0.Hash_, x0.MinInt_, x0.MinFrac_, x0.MaxFrac_, x0.G1_, x0.G2_, x0.MinSig_, x0.MaxSig_, x0.Exp_] : List Int) s195) < 0)) then (some true) else (bif inR s195 ([x0.Hash_, x0.MinInt_, x0.MinFrac_, x0.MaxFrac_, x0.G1_, x0.G2_, x0.MinSig_, x0.MaxSig_, x0.Exp_] : List Int).length then (bif inR s195 ([x0.Hash_, x0.MinInt_, x0.MinFrac_, x0.MaxFrac_, x0.G1_, x0.G2_, x0.MinSig_, x0.MaxSig_, x0.Exp_] : List Int).length then (some ((decide ((nth ([x0.Hash_, x0.MinInt_, x0.MinFrac_, x0.MaxFrac_, x0.G1_, x0.G2_, x0.MinSig_, x0.MaxSig_, x0.Exp_] : List Int) s195) > 40)))) else none) else none)) else none) else none) fun (s363 : Bool) => (bif s363 then (some (.inr (.inr (.inr false)))) else (some (.inl ())))) (joinX fun (s351 : Unit) => (some (.inl (IntKind.wrap .i64 (s195 + 1)))))) else (some (.inr (.inl ()))))) big 0) (joinX fun (s190 : Unit) => (Option.bind (exergueref01_Is x0.Pad_) fun y384 => (Option.bind (Option.bind (exergueref10_runes x0.Pre_) fun y401 => (bif y401 then (Option.bind (exergueref10_runes x0.Suf_) fun y407 => (some y407)) else (some false))) fun (s396 : Bool) => (Option.bind (Option.bind (exergueref10_runes x0.NPre_) fun y424 => (bif y424 then (Option.bind (exergueref10_runes x0.NSuf_) fun y430 => (some y430)) else (some false))) fun (s419 : Bool) => (Option.bind (Option.bind (bif (!y384) then (some true) else (bif (!s396) then (some true) else (some (!s419)))) fun (s465 : Bool) => (bif s465 then (some (.inr false)) else (some (.inl ())))) (joinX fun (s454 : Unit) => (Option.bind (exergueref10_Text x0) fun y480 => (Option.bind (exergueref10_Parse y480) fun y483 => (Option.bind (bif (decide (y483.2.2 = 0)) then (Option.bind (exergueref10_Same x0 y483.1) fun y500 => (some y500)) else (some false)) fun (s492 : Bool) => (some s492)))))))))))
theorem exergueref10_Right_ok {x0 : St23} {r : Bool} (h : exergueref10_Right x0 = some r) : SC Try.prog 9 [.agg (encSt23 x0)] [] (.bool r) [] := by
 refine kFn (fn := Try.f9) (fun F hFn hFH hFD => ?_)
 unfold exergueref10_Right at h
 refine kSR ?_
 refine kC 2 [1,2] ?_
 refine kEN ?_
 refine kSR ?_
 refine kC 20 [1,2,3] ?_
 refine kEN ?_
 obtain ⟨y191, hy192, h193⟩ := bindS h
 refine K.cutX (by kernel_rfl) (fun (s190 : Unit) => ([(1, .ptr 0 0), (2, .bool false)], [.box (encSt23 x0)])) y191 ?_ (fun s190 hs => ?_)
 ·refine kSR ?_
  refine kC 1 [1,2,3,4] ?_
  refine kEN ?_
  refine kb 0 ?_
  refine kl (fun (s195 : Int) => ([(1, .ptr 0 0), (2, .bool false), (3, .vc 1), (4, .int .i64 s195)], [.box (encSt23 x0), vecL (encI .i64) 1 3 ([x0.Hash_, x0.MinInt_, x0.MinFrac_, x0.MaxFrac_, x0.G1_, x0.G2_, x0.MinSig_, x0.MaxSig_, x0.Exp_] : List Int)])) hy192 [1, 2, 3, 4] (fun s195 x321 hs320 => ?_)
  refine kS ?_
  refine kSR ?_
  refine kC 4 [1,2,3,4,33] ?_
  refine kEN ?_
  refine kBJ 33 hs320 (fun h323 => ?_) (fun h324 => ?_)
  ·refine kT ?_
   refine kK ?_
   refine PJ.next ?_
   obtain ⟨y352, hy353, h354⟩ := bindS h323
   refine K.cutX (by kernel_rfl) (fun (s351 : Unit) => ([(1, .ptr 0 0), (2, .bool false), (3, .vc 1), (4, .int .i64 s195)], [.box (encSt23 x0), vecL (encI .i64) 1 3 ([x0.Hash_, x0.MinInt_, x0.MinFrac_, x0.MaxFrac_, x0.G1_, x0.G2_, x0.MinSig_, x0.MaxSig_, x0.Exp_] : List Int)])) y352 ?_ (fun s351 hs => ?_)
   ·refine kb 1 ?_
    obtain ⟨s363, hy365, h367⟩ := bindS hy353
    refine K.cutN (by kernel_rfl) (fun (s363 : Bool) => ([(1, .ptr 0 0), (2, .bool false), (3, .vc 1), (4, .int .i64 s195), (47, .bool s363)], [.box (encSt23 x0), vecL (encI .i64) 1 3 ([x0.Hash_, x0.MinInt_, x0.MinFrac_, x0.MaxFrac_, x0.G1_, x0.G2_, x0.MinSig_, x0.MaxSig_, x0.Exp_] : List Int)])) s363 ?_ ?_
    ·refine kR ?_
     refine kC 2 [1,2,3,4,36,37] ?_
     obtain ⟨hm, h368⟩ := asrt hy365
     refine kQ 38 (.ptr 1 ((s195 : Int).toNat * 1)) [1] (tr2 := []) hm ?_
     obtain ⟨hm, h369⟩ := asrt h368
     refine RJ.rel (d := (some 39)) (ef := ⟨(((([x0.Hash_, x0.MinInt_, x0.MinFrac_, x0.MaxFrac_, x0.G1_, x0.G2_, x0.MinSig_, x0.MaxSig_, x0.Exp_] : List Int)).flatMap (encI .i64)).drop ((s195 : Int).toNat * 1)).headD .undef, [1], []⟩) (ef' := ⟨.int .i64 (nth ([x0.Hash_, x0.MinInt_, x0.MinFrac_, x0.MaxFrac_, x0.G1_, x0.G2_, x0.MinSig_, x0.MaxSig_, x0.Exp_] : List Int) s195), [1], []⟩) (c := Nat.blt ((s195 : Int).toNat * 1) (([x0.Hash_, x0.MinInt_, x0.MinFrac_, x0.MaxFrac_, x0.G1_, x0.G2_, x0.MinSig_, x0.MaxSig_, x0.Exp_] : List Int).flatMap (encI .i64)).length) (tr2 := []) (H2 := [.box (encSt23 x0), vecL (encI .i64) 1 3 ([x0.Hash_, x0.MinInt_, x0.MinFrac_, x0.MaxFrac_, x0.G1_, x0.G2_, x0.MinSig_, x0.MaxSig_, x0.Exp_] : List Int)]) (by kernel_rfl) (loadv_ok (encI_len .i64) rfl hm) (fun hc => N.load1 (encI_len .i64) (fun _ => rfl) hm) (by kernel_rfl) ?_
     refine kC 2 [1,2,3,4,41] ?_
     refine kB 41 h369 (fun h371 => ?_) (fun h372 => ?_)
     ·refine kC 6 [1,2,3,4,47] ?_
      refine kE ?_
      obtain rfl := oi h371
      exact kN [1, 2, 3, 4, 47]
     ·refine kC 2 [1,2,3,4,41,42,43] ?_
      obtain ⟨hm, h373⟩ := asrt h372
      refine kQ 44 (.ptr 1 ((s195 : Int).toNat * 1)) [1] (tr2 := []) hm ?_
      obtain ⟨hm, h374⟩ := asrt h373
      refine RJ.rel (d := (some 45)) (ef := ⟨(((([x0.Hash_, x0.MinInt_, x0.MinFrac_, x0.MaxFrac_, x0.G1_, x0.G2_, x0.MinSig_, x0.MaxSig_, x0.Exp_] : List Int)).flatMap (encI .i64)).drop ((s195 : Int).toNat * 1)).headD .undef, [1], []⟩) (ef' := ⟨.int .i64 (nth ([x0.Hash_, x0.MinInt_, x0.MinFrac_, x0.MaxFrac_, x0.G1_, x0.G2_, x0.MinSig_, x0.MaxSig_, x0.Exp_] : List Int) s195), [1], []⟩) (c := Nat.blt ((s195 : Int).toNat * 1) (([x0.Hash_, x0.MinInt_, x0.MinFrac_, x0.MaxFrac_, x0.G1_, x0.G2_, x0.MinSig_, x0.MaxSig_, x0.Exp_] : List Int).flatMap (encI .i64)).length) (tr2 := []) (H2 := [.box (encSt23 x0), vecL (encI .i64) 1 3 ([x0.Hash_, x0.MinInt_, x0.MinFrac_, x0.MaxFrac_, x0.G1_, x0.G2_, x0.MinSig_, x0.MaxSig_, x0.Exp_] : List Int)]) (by kernel_rfl) (loadv_ok (encI_len .i64) rfl hm) (fun hc => N.load1 (encI_len .i64) (fun _ => rfl) hm) (by kernel_rfl) ?_
      refine kC 2 [1,2,3,4,47] ?_
      refine kE ?_
      obtain rfl := oi h374
      exact kN [1, 2, 3, 4, 47]
    ·refine kBJ 47 h367 (fun h376 => ?_) (fun h377 => ?_)
     ·refine kT ?_
      refine kSR ?_
      refine kC 1 [1,2,3,4] ?_
      refine kEN ?_
      refine kX ?_
      refine PJ.blockRet ?_
      obtain rfl := oi h376
      have h378 := joinX_inr h354
      refine PJ.cutXr (fun e => nomatch e) ?_
      obtain rfl := oi h378
      refine PJ.loopOut (fun e => nomatch e) (fun he381 => ?_)
      have h379 := congrArg some he381
      refine PJ.blockRet ?_
      obtain rfl := oi h379
      have h380 := joinX_inr h193
      refine PJ.cutXr (fun e => nomatch e) ?_
      obtain rfl := oi h380
      exact kZ hFn hFH hFD
     ·refine kF ?_
      refine kK ?_
      refine PJ.blockNormal ?_
      obtain rfl := oi h377
      exact kXl [1, 2, 3, 4]
   ·subst hs
    have h355 := joinX_inl h354
    refine kR ?_
    refine kC 3 [1,2,3,4] ?_
    refine kE ?_
    obtain rfl := oi h355
    exact kLN [1, 2, 3, 4]
  ·refine kF ?_
   refine K.exit 0 (by kernel_rfl) ?_
   refine PJ.passExit ?_
   obtain rfl := oi h324
   refine PJ.loopOut (fun e => nomatch e) (fun he383 => ?_)
   have h382 := congrArg some he383
   refine PJ.blockOut ?_
   obtain rfl := oi h382
   refine kW (L2 := [(1, .ptr 0 0), (2, .bool false)]) (H2 := [.box (encSt23 x0)]) hFH hFD [0] ?_
   exact kXl [1, 2]
 ·subst hs
  have h194 := joinX_inl h193
  refine kSR ?_
  refine kC 2 [1,2,49] ?_
  obtain ⟨y384, hy385, h386⟩ := bindS h194
  refine kA 50 (exergueref01_Is_ok hy385) ?_
  refine kC 1 [1,2,5] ?_
  refine kEN ?_
  obtain ⟨s396, hy398, h400⟩ := bindS h386
  refine K.cutN (by kernel_rfl) (fun (s396 : Bool) => ([(1, .ptr 0 0), (2, .bool false), (5, .bool y384), (6, .bool s396)], [.box (encSt23 x0)])) s396 ?_ ?_
  ·refine kR ?_
   refine kC 2 [1,2,5,52] ?_
   obtain ⟨y401, hy402, h403⟩ := bindS hy398
   refine kA 53 (exergueref10_runes_ok hy402) ?_
   refine kC 1 [1,2,5,54] ?_
   refine kB 54 h403 (fun h405 => ?_) (fun h406 => ?_)
   ·refine kC 2 [1,2,5,54,56] ?_
    obtain ⟨y407, hy408, h409⟩ := bindS h405
    refine kA 57 (exergueref10_runes_ok hy408) ?_
    refine kC 2 [1,2,5,6] ?_
    refine kE ?_
    obtain rfl := oi h409
    exact kN [1, 2, 5, 6]
   ·refine kC 5 [1,2,5,6] ?_
    refine kE ?_
    obtain rfl := oi h406
    exact kN [1, 2, 5, 6]
  ·obtain ⟨s419, hy421, h423⟩ := bindS h400
   refine K.cutN (by kernel_rfl) (fun (s419 : Bool) => ([(1, .ptr 0 0), (2, .bool false), (5, .bool y384), (6, .bool s396), (7, .bool s419)], [.box (encSt23 x0)])) s419 ?_ ?_
   ·refine kR ?_
    refine kC 2 [1,2,5,6,60] ?_
    obtain ⟨y424, hy425, h426⟩ := bindS hy421
    refine kA 61 (exergueref10_runes_ok hy425) ?_
    refine kC 1 [1,2,5,6,62] ?_
    refine kB 62 h426 (fun h428 => ?_) (fun h429 => ?_)
    ·refine kC 2 [1,2,5,6,62,64] ?_
     obtain ⟨y430, hy431, h432⟩ := bindS h428
     refine kA 65 (exergueref10_runes_ok hy431) ?_
     refine kC 2 [1,2,5,6,7] ?_
     refine kE ?_
     obtain rfl := oi h432
     exact kN [1, 2, 5, 6, 7]
    ·refine kC 5 [1,2,5,6,7] ?_
     refine kE ?_
     obtain rfl := oi h429
     exact kN [1, 2, 5, 6, 7]
   ·obtain ⟨y455, hy456, h457⟩ := bindS h423
    refine K.cutX (by kernel_rfl) (fun (s454 : Unit) => ([(1, .ptr 0 0), (2, .bool false)], [.box (encSt23 x0)])) y455 ?_ (fun s454 hs => ?_)
    ·obtain ⟨s465, hy467, h469⟩ := bindS hy456
     refine K.cutN (by kernel_rfl) (fun (s465 : Bool) => ([(1, .ptr 0 0), (2, .bool false), (76, .bool s465)], [.box (encSt23 x0)])) s465 ?_ ?_
     ·refine kR ?_
      refine kC 3 [1,2,6,7,69] ?_
      refine kB 69 hy467 (fun h471 => ?_) (fun h472 => ?_)
      ·refine kC 7 [1,2,76] ?_
       refine kE ?_
       obtain rfl := oi h471
       exact kN [1, 2, 76]
      ·refine kC 4 [1,2,7,73] ?_
       refine kB 73 h472 (fun h474 => ?_) (fun h475 => ?_)
       ·refine kC 3 [1,2,76] ?_
        refine kE ?_
        obtain rfl := oi h474
        exact kN [1, 2, 76]
       ·refine kC 3 [1,2,76] ?_
        refine kE ?_
        obtain rfl := oi h475
        exact kN [1, 2, 76]
     ·refine kBJ 76 h469 (fun h477 => ?_) (fun h478 => ?_)
      ·refine kT ?_
       refine kSR ?_
       refine kC 1 [1,2] ?_
       refine kEN ?_
       refine kX ?_
       obtain rfl := oi h477
       have h479 := joinX_inr h457
       refine PJ.cutXr (fun e => nomatch e) ?_
       obtain rfl := oi h479
       exact kZ hFn hFH hFD
      ·refine kF ?_
       refine kK ?_
       obtain rfl := oi h478
       exact kXl [1, 2]
    ·subst hs
     have h458 := joinX_inl h457
     refine kSR ?_
     refine kC 1 [1,2,78] ?_
     obtain ⟨y480, hy481, h482⟩ := bindS h458
     refine kA 79 (exergueref10_Text_ok hy481) ?_
     obtain ⟨y483, hy484, h485⟩ := bindS h482
     refine kA 80 (exergueref10_Parse_ok hy484) ?_
     refine kC 8 [1,2,8,10] ?_
     refine kEN ?_
     obtain ⟨s492, hy494, h496⟩ := bindS h485
     refine K.cutN (by kernel_rfl) (fun (s492 : Bool) => ([(2, .bool s492)], [])) s492 ?_ ?_
     ·refine kR ?_
      refine kC 3 [1,2,8,86] ?_
      refine kB 86 hy494 (fun h498 => ?_) (fun h499 => ?_)
      ·refine kC 2 [2,86,87,88] ?_
       obtain ⟨y500, hy501, h502⟩ := bindS h498
       refine kA 89 (exergueref10_Same_ok hy501) ?_
       refine kC 2 [2] ?_
       refine kE ?_
       obtain rfl := oi h502
       refine kW (L2 := [(2, .bool y500)]) (H2 := []) hFH hFD [] ?_
       exact kN [2]
      ·refine kC 5 [2] ?_
       refine kE ?_
       obtain rfl := oi h499
       refine kW (L2 := [(2, .bool false)]) (H2 := []) hFH hFD [] ?_
       exact kN [2]
     ·refine kX ?_
      obtain rfl := oi h496
      exact kZ hFn hFH hFD
def exergueref10_Width (x0 : St23) : Option (Int) :=
 (Option.bind (exergueref10_Number x0) fun y1 => (some (IntKind.wrap .i64 (((IntKind.wrap .i64 ((y1.length : Int) + (x0.Pre_.length : Int)))) + (x0.Suf_.length : Int)))))
theorem exergueref10_Width_ok {x0 : St23} {r : Int} (h : exergueref10_Width x0 = some r) : SC Try.prog 18 [.agg (encSt23 x0)] [] (.int .i64 r) [] := by
 refine kFn (fn := Try.f18) (fun F hFn hFH hFD => ?_)
 unfold exergueref10_Width at h
 refine kSR ?_
 refine kC 2 [1,2] ?_
 refine kEN ?_
 refine kS ?_
 refine J.keep [1, 2] (L2 := [(1, .ptr 0 0), (2, .int .i64 0)]) (by kernel_rfl) ?_
 refine K.draw (by kernel_rfl) (by kernel_rfl) (by kernel_rfl) (H2 := [.box (encSt23 x0), .res]) (by kernel_rfl) (n := 1) (by kernel_rfl) ?_
 refine kD 1 ?_
 obtain ⟨y1, hy2, h3⟩ := bindS h
 refine RJ.call0 (d := (some 4)) (f := 16) (args := [.agg (encSt23 x0)]) (v := .str y1) (tr2 := [([0, 1], []), ([], [2, 3])]) (by kernel_rfl) (by kernel_rfl) (.cons (Le.refl _) .nil) (exergueref10_Number_ok hy2) (by kernel_rfl) ?_
 refine kD 10 ?_
 refine kEN ?_
 refine kX ?_
 obtain rfl := oi h3
 exact kZ hFn hFH hFD
def exerguelaw10_PatTells (x0 : St23) (x1 : St23) : Option (Bool) :=
 (Option.bind exerguelaw10_shown fun y1 => (Option.bind (Option.bind (Option.bind (exergueref10_Few x0) fun y50 => (bif (!y50) then (some true) else (Option.bind (exergueref10_Few x1) fun y56 => (some (!y56))))) fun (s45 : Bool) => (bif s45 then (some (.inr y1)) else (some (.inl ())))) (joinX fun (s31 : Unit) => (Option.bind (exergueref10_Right x0) fun y63 => (Option.bind (Option.bind (Option.bind (pat_Right x0) fun y121 => (bif (y121 != y63) then (some true) else (Option.bind (pat_Same x0 x1) fun y127 => (Option.bind (exergueref10_Same x0 x1) fun y130 => (some (y127 != y130)))))) fun (s116 : Bool) => (bif s116 then (some (.inr false)) else (some (.inl ())))) (joinX fun (s99 : Unit) => (Option.bind (bif y1 then (bif (!y63) then (some true) else (Option.bind (pat_Text x0) fun y178 => (Option.bind (exergueref10_Text x0) fun y181 => (bif (y178 == y181) then (Option.bind (pat_Number x0) fun y187 => (Option.bind (exergueref10_Number x0) fun y190 => (bif (y187 == y190) then (Option.bind (pat_Width x0) fun y196 => (Option.bind (exergueref10_Width x0) fun y199 => (some (decide (y196 = y199))))) else (some false)))) else (some false))))) else (some false)) fun (s167 : Bool) => (some s167))))))))
theorem exerguelaw10_PatTells_ok {x0 : St23} {x1 : St23} {r : Bool} (h : exerguelaw10_PatTells x0 x1 = some r) : SC Try.prog 3 [.agg (encSt23 x0), .agg (encSt23 x1)] [] (.bool r) [] := by
 refine kFn (fn := Try.f3) (fun F hFn hFH hFD => ?_)
 unfold exerguelaw10_PatTells at h
 refine kSR ?_
 refine kC 3 [2,3,4] ?_
 refine kEN ?_
 refine kSR ?_
 obtain ⟨y1, hy2, h3⟩ := bindS h
 refine kA 7 (exerguelaw10_shown_ok hy2) ?_
 refine kC 1 [2,3,4,5] ?_
 refine kEN ?_
 obtain ⟨y32, hy33, h34⟩ := bindS h3
 refine K.cutX (by kernel_rfl) (fun (s31 : Unit) => ([(2, .ptr 0 0), (3, .ptr 1 0), (4, .bool false), (5, .bool y1)], [.box (encSt23 x0), .box (encSt23 x1)])) y32 ?_ (fun s31 hs => ?_)
 ·obtain ⟨s45, hy47, h49⟩ := bindS hy33
  refine K.cutN (by kernel_rfl) (fun (s45 : Bool) => ([(2, .ptr 0 0), (3, .ptr 1 0), (4, .bool false), (5, .bool y1), (15, .bool s45)], [.box (encSt23 x0), .box (encSt23 x1)])) s45 ?_ ?_
  ·refine kR ?_
   refine kC 1 [2,3,4,5,8] ?_
   obtain ⟨y50, hy51, h52⟩ := bindS hy47
   refine kA 9 (exergueref10_Few_ok hy51) ?_
   refine kC 2 [2,3,4,5,11] ?_
   refine kB 11 h52 (fun h54 => ?_) (fun h55 => ?_)
   ·refine kC 4 [2,3,4,5,15] ?_
    refine kE ?_
    obtain rfl := oi h54
    exact kN [2, 3, 4, 5, 15]
   ·refine kC 1 [2,3,4,5,11,12] ?_
    obtain ⟨y56, hy57, h58⟩ := bindS h55
    refine kA 13 (exergueref10_Few_ok hy57) ?_
    refine kC 2 [2,3,4,5,15] ?_
    refine kE ?_
    obtain rfl := oi h58
    exact kN [2, 3, 4, 5, 15]
  ·refine kBJ 15 h49 (fun h60 => ?_) (fun h61 => ?_)
   ·refine kT ?_
    refine kSR ?_
    refine kC 2 [2,3,4,5] ?_
    refine kEN ?_
    refine kX ?_
    obtain rfl := oi h60
    have h62 := joinX_inr h34
    refine PJ.cutXr (fun e => nomatch e) ?_
    obtain rfl := oi h62
    exact kZ hFn hFH hFD
   ·refine kF ?_
    refine kK ?_
    obtain rfl := oi h61
    exact kXl [2, 3, 4, 5]
 ·subst hs
  have h35 := joinX_inl h34
  refine kSR ?_
  refine kC 1 [2,3,4,5,17] ?_
  obtain ⟨y63, hy64, h65⟩ := bindS h35
  refine kA 18 (exergueref10_Right_ok hy64) ?_
  refine kC 1 [2,3,4,5,6] ?_
  refine kEN ?_
  obtain ⟨y100, hy101, h102⟩ := bindS h65
  refine K.cutX (by kernel_rfl) (fun (s99 : Unit) => ([(2, .ptr 0 0), (4, .bool false), (5, .bool y1), (6, .bool y63)], [.box (encSt23 x0)])) y100 ?_ (fun s99 hs => ?_)
  ·obtain ⟨s116, hy118, h120⟩ := bindS hy101
   refine K.cutN (by kernel_rfl) (fun (s116 : Bool) => ([(2, .ptr 0 0), (4, .bool false), (5, .bool y1), (6, .bool y63), (31, .bool s116)], [.box (encSt23 x0)])) s116 ?_ ?_
   ·refine J.keep [2, 3, 4, 5, 6] (L2 := [(2, .ptr 0 0), (3, .ptr 1 0), (4, .bool false), (5, .bool y1), (6, .bool y63)]) (by kernel_rfl) ?_
    refine K.draw (by kernel_rfl) (by kernel_rfl) (by kernel_rfl) (H2 := [.box (encSt23 x0), .box (encSt23 x1), .res, .res, .res]) (by kernel_rfl) (n := 2) (by kernel_rfl) ?_
    refine kD 1 ?_
    obtain ⟨y121, hy122, h123⟩ := bindS hy118
    refine RJ.call0 (d := (some 20)) (f := 10) (args := [.agg (encSt23 x0)]) (v := .bool y121) (tr2 := [([0, 1], []), ([], [4, 5])]) (by kernel_rfl) (by kernel_rfl) (.cons (Le.refl _) .nil) (pat_Right_ok hy122) (by kernel_rfl) ?_
    refine kD 3 ?_
    refine kB 23 h123 (fun h125 => ?_) (fun h126 => ?_)
    ·refine kD 8 ?_
     refine kE ?_
     obtain rfl := oi h125
     refine kW (L2 := [(2, .ptr 0 0), (4, .bool false), (5, .bool y1), (6, .bool y63), (31, .bool true)]) (H2 := [.box (encSt23 x0)]) hFH hFD [0] ?_
     exact kN [2, 4, 5, 6, 31]
    ·refine kD 2 ?_
     obtain ⟨y127, hy128, h129⟩ := bindS h126
     refine RJ.call0 (d := (some 26)) (f := 11) (args := [.agg (encSt23 x0), .agg (encSt23 x1)]) (v := .bool y127) (tr2 := [([0, 1], []), ([], [4, 5]), ([], []), ([], []), ([], []), ([0, 1], []), ([2, 3], []), ([], [6, 7])]) (by kernel_rfl) (by kernel_rfl) (.cons (Le.refl _) (.cons (Le.refl _) .nil)) (pat_Same_ok hy128) (by kernel_rfl) ?_
     refine kD 2 ?_
     obtain ⟨y130, hy131, h132⟩ := bindS h129
     refine RJ.call0 (d := (some 29)) (f := 12) (args := [.agg (encSt23 x0), .agg (encSt23 x1)]) (v := .bool y130) (tr2 := [([0, 1], []), ([], [4, 5]), ([], []), ([], []), ([], []), ([0, 1], []), ([2, 3], []), ([], [6, 7]), ([0, 1], []), ([2, 3], []), ([], [8, 9])]) (by kernel_rfl) (by kernel_rfl) (.cons (Le.refl _) (.cons (Le.refl _) .nil)) (exergueref10_Same_ok hy131) (by kernel_rfl) ?_
     refine kD 2 ?_
     refine kE ?_
     obtain rfl := oi h132
     refine kW (L2 := [(2, .ptr 0 0), (4, .bool false), (5, .bool y1), (6, .bool y63), (31, .bool (y127 != y130))]) (H2 := [.box (encSt23 x0)]) hFH hFD [0] ?_
     exact kN [2, 4, 5, 6, 31]
   ·refine kBJ 31 h120 (fun h134 => ?_) (fun h135 => ?_)
    ·refine kT ?_
     refine kSR ?_
     refine kC 1 [2,4,5,6] ?_
     refine kEN ?_
     refine kX ?_
     obtain rfl := oi h134
     have h136 := joinX_inr h102
     refine PJ.cutXr (fun e => nomatch e) ?_
     obtain rfl := oi h136
     exact kZ hFn hFH hFD
    ·refine kF ?_
     refine kK ?_
     obtain rfl := oi h135
     exact kXl [2, 4, 5, 6]
  ·subst hs
   have h103 := joinX_inl h102
   obtain ⟨s167, hy169, h171⟩ := bindS h103
   refine K.cutN (by kernel_rfl) (fun (s167 : Bool) => ([(4, .bool s167)], [])) s167 ?_ ?_
   ·refine J.keep [2, 4, 5, 6] (L2 := [(2, .ptr 0 0), (4, .bool false), (5, .bool y1), (6, .bool y63)]) (by kernel_rfl) ?_
    refine K.draw (by kernel_rfl) (by kernel_rfl) (by kernel_rfl) (H2 := [.box (encSt23 x0), .res, .res, .res, .res, .res, .res]) (by kernel_rfl) (n := 1) (by kernel_rfl) ?_
    refine kD 2 ?_
    refine kB 33 hy169 (fun h173 => ?_) (fun h174 => ?_)
    ·refine kD 3 ?_
     refine kB 36 h173 (fun h176 => ?_) (fun h177 => ?_)
     ·refine kD 22 ?_
      refine kE ?_
      obtain rfl := oi h176
      refine kW (L2 := [(4, .bool true)]) (H2 := []) hFH hFD [] ?_
      exact kN [4]
     ·refine kD 1 ?_
      obtain ⟨y178, hy179, h180⟩ := bindS h177
      refine RJ.call0 (d := (some 38)) (f := 13) (args := [.agg (encSt23 x0)]) (v := .str y178) (tr2 := [([], []), ([], []), ([], []), ([], []), ([], []), ([0, 1], []), ([], [2, 3])]) (by kernel_rfl) (by kernel_rfl) (.cons (Le.refl _) .nil) (pat_Text_ok hy179) (by kernel_rfl) ?_
      refine kD 1 ?_
      obtain ⟨y181, hy182, h183⟩ := bindS h180
      refine RJ.call0 (d := (some 40)) (f := 14) (args := [.agg (encSt23 x0)]) (v := .str y181) (tr2 := [([], []), ([], []), ([], []), ([], []), ([], []), ([0, 1], []), ([], [2, 3]), ([0, 1], []), ([], [4, 5])]) (by kernel_rfl) (by kernel_rfl) (.cons (Le.refl _) .nil) (exergueref10_Text_ok hy182) (by kernel_rfl) ?_
      refine kD 2 ?_
      refine kB 42 h183 (fun h185 => ?_) (fun h186 => ?_)
      ·refine kD 1 ?_
       obtain ⟨y187, hy188, h189⟩ := bindS h185
       refine RJ.call0 (d := (some 44)) (f := 15) (args := [.agg (encSt23 x0)]) (v := .str y187) (tr2 := [([], []), ([], []), ([], []), ([], []), ([], []), ([0, 1], []), ([], [2, 3]), ([0, 1], []), ([], [4, 5]), ([], []), ([], []), ([0, 1], []), ([], [6, 7])]) (by kernel_rfl) (by kernel_rfl) (.cons (Le.refl _) .nil) (pat_Number_ok hy188) (by kernel_rfl) ?_
       refine kD 1 ?_
       obtain ⟨y190, hy191, h192⟩ := bindS h189
       refine RJ.call0 (d := (some 46)) (f := 16) (args := [.agg (encSt23 x0)]) (v := .str y190) (tr2 := [([], []), ([], []), ([], []), ([], []), ([], []), ([0, 1], []), ([], [2, 3]), ([0, 1], []), ([], [4, 5]), ([], []), ([], []), ([0, 1], []), ([], [6, 7]), ([0, 1], []), ([], [8, 9])]) (by kernel_rfl) (by kernel_rfl) (.cons (Le.refl _) .nil) (exergueref10_Number_ok hy191) (by kernel_rfl) ?_
       refine kD 3 ?_
       refine kB 49 h192 (fun h194 => ?_) (fun h195 => ?_)
       ·refine kD 1 ?_
        obtain ⟨y196, hy197, h198⟩ := bindS h194
        refine RJ.call0 (d := (some 51)) (f := 17) (args := [.agg (encSt23 x0)]) (v := .int .i64 y196) (tr2 := [([], []), ([], []), ([], []), ([], []), ([], []), ([0, 1], []), ([], [2, 3]), ([0, 1], []), ([], [4, 5]), ([], []), ([], []), ([0, 1], []), ([], [6, 7]), ([0, 1], []), ([], [8, 9]), ([], []), ([], []), ([], []), ([0, 1], []), ([], [10, 11])]) (by kernel_rfl) (by kernel_rfl) (.cons (Le.refl _) .nil) (pat_Width_ok hy197) (by kernel_rfl) ?_
        refine kD 1 ?_
        obtain ⟨y199, hy200, h201⟩ := bindS h198
        refine RJ.call0 (d := (some 53)) (f := 18) (args := [.agg (encSt23 x0)]) (v := .int .i64 y199) (tr2 := [([], []), ([], []), ([], []), ([], []), ([], []), ([0, 1], []), ([], [2, 3]), ([0, 1], []), ([], [4, 5]), ([], []), ([], []), ([0, 1], []), ([], [6, 7]), ([0, 1], []), ([], [8, 9]), ([], []), ([], []), ([], []), ([0, 1], []), ([], [10, 11]), ([0, 1], []), ([], [12, 13])]) (by kernel_rfl) (by kernel_rfl) (.cons (Le.refl _) .nil) (exergueref10_Width_ok hy200) (by kernel_rfl) ?_
        refine kD 5 ?_
        refine kE ?_
        obtain rfl := oi h201
        refine kW (L2 := [(4, .bool (decide (y196 = y199)))]) (H2 := []) hFH hFD [] ?_
        exact kN [4]
       ·refine kD 9 ?_
        refine kE ?_
        obtain rfl := oi h195
        refine kW (L2 := [(4, .bool false)]) (H2 := []) hFH hFD [] ?_
        exact kN [4]
      ·refine kD 16 ?_
       refine kE ?_
       obtain rfl := oi h186
       refine kW (L2 := [(4, .bool false)]) (H2 := []) hFH hFD [] ?_
       exact kN [4]
    ·refine kD 25 ?_
     refine kE ?_
     obtain rfl := oi h174
     refine kW (L2 := [(4, .bool false)]) (H2 := []) hFH hFD [] ?_
     exact kN [4]
   ·refine kX ?_
    obtain rfl := oi h171
    exact kZ hFn hFH hFD
end Go.Proofs.Ytdflcknbelpflaa
