/-
  What the functions of this program come to, as functions of natives, each with the proof that it does. No conditions.
-/
import Derived.Test.YtddkgejgocahjaaProg
import Derived.Test.YtddkgejgocahjaaSyV
import Derived.Test.YtddkgejgocahjaaGb
namespace Go.Proofs.Ytddkgejgocahjaa
open Go Go.Sy Go.RowKit
set_option linter.unusedVariables false
set_option linter.unusedSimpArgs false
set_option maxRecDepth 100000

def exerguelaw07_OperIn (x0 : St50) : Option (Bool) :=
  (Option.bind exerguelaw07_shown fun y1 => (Option.bind (Option.bind (bif (decide ((x0.L_.length : Int) > 1000)) then (some true) else (Option.bind (exergueref07_Figures x0.L_) fun y44 => (some (!y44)))) fun (s36 : Bool) => (bif s36 then (some (.inr y1)) else (some (.inl ())))) (joinX fun (s25 : Unit) => (Option.bind (oper_In x0.L_ x0.A_ x0.B_) fun y51 => (Option.bind (bif y1 then (bif (decide (x0.A_ ≤ x0.B_)) then (bif (!y51) then (bif (decide (x0.A_ > x0.B_)) then (some true) else (bif (decide (x0.C_ < x0.A_)) then (some true) else (bif (decide (x0.C_ > x0.B_)) then (some true) else (Option.bind (oper_In x0.L_ x0.A_ x0.C_) fun y200 => (bif y200 then (some (y51 == true)) else (bif (decide (x0.C_ < x0.B_)) then (Option.bind (oper_In x0.L_ (IntKind.wrap .i64 (x0.C_ + 1)) x0.B_) fun y209 => (some (y51 == y209))) else (some (y51 == false)))))))) else (Option.bind (oper_In x0.L_ (minI x0.A_ x0.C_) x0.B_) fun y212 => (bif y212 then (Option.bind (oper_In x0.L_ x0.A_ (maxI x0.B_ x0.C_)) fun y218 => (bif y218 then (bif (decide (x0.A_ > x0.B_)) then (some true) else (bif (decide (x0.C_ < x0.A_)) then (some true) else (bif (decide (x0.C_ > x0.B_)) then (some true) else (Option.bind (oper_In x0.L_ x0.A_ x0.C_) fun y233 => (bif y233 then (some (y51 == true)) else (bif (decide (x0.C_ < x0.B_)) then (Option.bind (oper_In x0.L_ (IntKind.wrap .i64 (x0.C_ + 1)) x0.B_) fun y242 => (some (y51 == y242))) else (some (y51 == false)))))))) else (some false))) else (some false)))) else (bif (!y51) then (bif (!y51) then (bif (decide (x0.A_ > x0.B_)) then (some true) else (bif (decide (x0.C_ < x0.A_)) then (some true) else (bif (decide (x0.C_ > x0.B_)) then (some true) else (Option.bind (oper_In x0.L_ x0.A_ x0.C_) fun y260 => (bif y260 then (some (y51 == true)) else (bif (decide (x0.C_ < x0.B_)) then (Option.bind (oper_In x0.L_ (IntKind.wrap .i64 (x0.C_ + 1)) x0.B_) fun y269 => (some (y51 == y269))) else (some (y51 == false)))))))) else (Option.bind (oper_In x0.L_ (minI x0.A_ x0.C_) x0.B_) fun y272 => (bif y272 then (Option.bind (oper_In x0.L_ x0.A_ (maxI x0.B_ x0.C_)) fun y278 => (bif y278 then (bif (decide (x0.A_ > x0.B_)) then (some true) else (bif (decide (x0.C_ < x0.A_)) then (some true) else (bif (decide (x0.C_ > x0.B_)) then (some true) else (Option.bind (oper_In x0.L_ x0.A_ x0.C_) fun y293 => (bif y293 then (some (y51 == true)) else (bif (decide (x0.C_ < x0.B_)) then (Option.bind (oper_In x0.L_ (IntKind.wrap .i64 (x0.C_ + 1)) x0.B_) fun y302 => (some (y51 == y302))) else (some (y51 == false)))))))) else (some false))) else (some false)))) else (some false))) else (some false)) fun (s177 : Bool) => (some s177))))))
theorem exerguelaw07_OperIn_ok {x0 : St50} {r : Bool} (h : exerguelaw07_OperIn x0 = some r) : SC Try.prog 8 [.agg [lsv (encI .u8) 1 x0.L_, .int .i64 x0.A_, .int .i64 x0.B_, .int .i64 x0.C_]] [] (.bool r) [] := by
  refine K.fn (fn := Try.f8) (by kernel_rfl) (by kernel_rfl) (by kernel_rfl) (by kernel_rfl) (by kernel_rfl) (fun F hFn hFH hFD => ?_)
  unfold exerguelaw07_OperIn at h
  refine K.seq (by kernel_rfl) ?_
  refine K.region (by kernel_rfl) ?_
  refine RJ.seg 2 [1, 2] (L2 := [(1, .ptr 0 0), (2, .bool false)]) (H2 := [.box [lsv (encI .u8) 1 x0.L_, .int .i64 x0.A_, .int .i64 x0.B_, .int .i64 x0.C_]]) (by kernel_rfl) ?_
  refine RJ.end (by kernel_rfl) ?_
  refine PJ.next ?_
  refine K.seq (by kernel_rfl) ?_
  refine K.region (by kernel_rfl) ?_
  refine RJ.seg 3 [1, 2, 3] (L2 := [(1, .ptr 0 0), (2, .bool false), (3, lsv (encI .u8) 1 x0.L_)]) (H2 := [.box [lsv (encI .u8) 1 x0.L_, .int .i64 x0.A_, .int .i64 x0.B_, .int .i64 x0.C_]]) (by kernel_rfl) ?_
  refine RJ.end (by kernel_rfl) ?_
  refine PJ.next ?_
  refine K.seq (by kernel_rfl) ?_
  refine K.region (by kernel_rfl) ?_
  refine RJ.seg 3 [1, 2, 3, 4] (L2 := [(1, .ptr 0 0), (2, .bool false), (3, lsv (encI .u8) 1 x0.L_), (4, .int .i64 x0.A_)]) (H2 := [.box [lsv (encI .u8) 1 x0.L_, .int .i64 x0.A_, .int .i64 x0.B_, .int .i64 x0.C_]]) (by kernel_rfl) ?_
  refine RJ.end (by kernel_rfl) ?_
  refine PJ.next ?_
  refine K.seq (by kernel_rfl) ?_
  refine K.region (by kernel_rfl) ?_
  refine RJ.seg 3 [1, 2, 3, 4, 5] (L2 := [(1, .ptr 0 0), (2, .bool false), (3, lsv (encI .u8) 1 x0.L_), (4, .int .i64 x0.A_), (5, .int .i64 x0.B_)]) (H2 := [.box [lsv (encI .u8) 1 x0.L_, .int .i64 x0.A_, .int .i64 x0.B_, .int .i64 x0.C_]]) (by kernel_rfl) ?_
  refine RJ.end (by kernel_rfl) ?_
  refine PJ.next ?_
  refine K.seq (by kernel_rfl) ?_
  refine K.region (by kernel_rfl) ?_
  refine RJ.seg 3 [2, 3, 4, 5, 6] (L2 := [(2, .bool false), (3, lsv (encI .u8) 1 x0.L_), (4, .int .i64 x0.A_), (5, .int .i64 x0.B_), (6, .int .i64 x0.C_)]) (H2 := [.box [lsv (encI .u8) 1 x0.L_, .int .i64 x0.A_, .int .i64 x0.B_, .int .i64 x0.C_]]) (by kernel_rfl) ?_
  refine RJ.end (by kernel_rfl) ?_
  refine PJ.next ?_
  refine K.seq (by kernel_rfl) ?_
  refine K.region (by kernel_rfl) ?_
  obtain ⟨y1, hy2, h3⟩ := bindS h
  refine RJ.call0 (d := (some 17)) (f := 10) (args := []) (v := .bool y1) (tr2 := []) (by kernel_rfl) (by kernel_rfl) .nil (exerguelaw07_shown_ok hy2) (by kernel_rfl) ?_
  refine RJ.seg 1 [2, 3, 4, 5, 6, 7] (L2 := [(2, .bool false), (3, lsv (encI .u8) 1 x0.L_), (4, .int .i64 x0.A_), (5, .int .i64 x0.B_), (6, .int .i64 x0.C_), (7, .bool y1)]) (H2 := [.box [lsv (encI .u8) 1 x0.L_, .int .i64 x0.A_, .int .i64 x0.B_, .int .i64 x0.C_]]) (by kernel_rfl) ?_
  refine RJ.end (by kernel_rfl) ?_
  refine PJ.next ?_
  obtain ⟨y26, hy27, h28⟩ := bindS h3
  refine K.cutX (by kernel_rfl) (fun (s25 : Unit) => ([(2, .bool false), (3, lsv (encI .u8) 1 x0.L_), (4, .int .i64 x0.A_), (5, .int .i64 x0.B_), (6, .int .i64 x0.C_), (7, .bool y1)], [])) y26 ?_ (fun s25 hs => ?_)
  · obtain ⟨s36, hy38, h40⟩ := bindS hy27
    refine K.cutN (by kernel_rfl) (fun (s36 : Bool) => ([(2, .bool false), (3, lsv (encI .u8) 1 x0.L_), (4, .int .i64 x0.A_), (5, .int .i64 x0.B_), (6, .int .i64 x0.C_), (7, .bool y1), (25, .bool s36)], [])) s36 ?_ ?_
    · refine K.region (by kernel_rfl) ?_
      refine RJ.seg 4 [2, 3, 4, 5, 6, 7, 21] (L2 := [(2, .bool false), (3, lsv (encI .u8) 1 x0.L_), (4, .int .i64 x0.A_), (5, .int .i64 x0.B_), (6, .int .i64 x0.C_), (7, .bool y1), (21, .bool ((decide ((x0.L_.length : Int) > 1000))))]) (H2 := [.box [lsv (encI .u8) 1 x0.L_, .int .i64 x0.A_, .int .i64 x0.B_, .int .i64 x0.C_]]) (by kernel_rfl) ?_
      refine RJ.caseB 21 (b := (decide ((x0.L_.length : Int) > 1000))) (by kernel_rfl) (fun hb41 => ?_) (fun hb41 => ?_)
      · have h42 := condT hb41 hy38
        refine RJ.seg 4 [2, 3, 4, 5, 6, 7, 25] (L2 := [(2, .bool false), (3, lsv (encI .u8) 1 x0.L_), (4, .int .i64 x0.A_), (5, .int .i64 x0.B_), (6, .int .i64 x0.C_), (7, .bool y1), (25, .bool true)]) (H2 := [.box [lsv (encI .u8) 1 x0.L_, .int .i64 x0.A_, .int .i64 x0.B_, .int .i64 x0.C_]]) (by kernel_rfl) ?_
        refine RJ.end (by kernel_rfl) ?_
        obtain rfl := Option.some.inj h42
        refine PJ.wk (Wk.sel (L2 := [(2, .bool false), (3, lsv (encI .u8) 1 x0.L_), (4, .int .i64 x0.A_), (5, .int .i64 x0.B_), (6, .int .i64 x0.C_), (7, .bool y1), (25, .bool true)]) (H2 := []) 0 (by rw [hFH]; rfl) hFD [] (by kernel_rfl) (by kernel_rfl) (by decide) (by kernel_rfl) (by kernel_rfl) (by kernel_rfl) (by kernel_rfl)) ?_
        exact PJ.cutN [2, 3, 4, 5, 6, 7, 25] (by kernel_rfl) (by kernel_rfl)
      · have h43 := condF hb41 hy38
        refine RJ.seg 1 [2, 3, 4, 5, 6, 7, 21, 22] (L2 := [(2, .bool false), (3, lsv (encI .u8) 1 x0.L_), (4, .int .i64 x0.A_), (5, .int .i64 x0.B_), (6, .int .i64 x0.C_), (7, .bool y1), (21, .bool false), (22, lsv (encI .u8) 1 x0.L_)]) (H2 := [.box [lsv (encI .u8) 1 x0.L_, .int .i64 x0.A_, .int .i64 x0.B_, .int .i64 x0.C_]]) (by kernel_rfl) ?_
        obtain ⟨y44, hy45, h46⟩ := bindS h43
        refine RJ.call0 (d := (some 23)) (f := 21) (args := [lsv (encI .u8) 1 x0.L_]) (v := .bool y44) (tr2 := []) (by kernel_rfl) (by kernel_rfl) (.cons (Le.refl _) .nil) (exergueref07_Figures_ok hy45) (by kernel_rfl) ?_
        refine RJ.seg 2 [2, 3, 4, 5, 6, 7, 25] (L2 := [(2, .bool false), (3, lsv (encI .u8) 1 x0.L_), (4, .int .i64 x0.A_), (5, .int .i64 x0.B_), (6, .int .i64 x0.C_), (7, .bool y1), (25, .bool (!y44))]) (H2 := [.box [lsv (encI .u8) 1 x0.L_, .int .i64 x0.A_, .int .i64 x0.B_, .int .i64 x0.C_]]) (by kernel_rfl) ?_
        refine RJ.end (by kernel_rfl) ?_
        obtain rfl := Option.some.inj h46
        refine PJ.wk (Wk.sel (L2 := [(2, .bool false), (3, lsv (encI .u8) 1 x0.L_), (4, .int .i64 x0.A_), (5, .int .i64 x0.B_), (6, .int .i64 x0.C_), (7, .bool y1), (25, .bool (!y44))]) (H2 := []) 0 (by rw [hFH]; rfl) hFD [] (by kernel_rfl) (by kernel_rfl) (by decide) (by kernel_rfl) (by kernel_rfl) (by kernel_rfl) (by kernel_rfl)) ?_
        exact PJ.cutN [2, 3, 4, 5, 6, 7, 25] (by kernel_rfl) (by kernel_rfl)
    · refine J.caseB 25 (b := s36) (by kernel_rfl) (fun hb47 => ?_) (fun hb47 => ?_)
      · have h48 := condT hb47 h40
        refine K.condT (by kernel_rfl) ?_
        refine K.seq (by kernel_rfl) ?_
        refine K.region (by kernel_rfl) ?_
        refine RJ.seg 2 [2, 3, 4, 5, 6, 7] (L2 := [(2, .bool y1), (3, lsv (encI .u8) 1 x0.L_), (4, .int .i64 x0.A_), (5, .int .i64 x0.B_), (6, .int .i64 x0.C_), (7, .bool y1)]) (H2 := []) (by kernel_rfl) ?_
        refine RJ.end (by kernel_rfl) ?_
        refine PJ.next ?_
        refine K.ret (by kernel_rfl) ?_
        obtain rfl := Option.some.inj h48
        have h50 := joinX_inr h28
        refine PJ.cutXr (fun e => nomatch e) ?_
        obtain rfl := Option.some.inj h50
        exact K.ret0 (.inr rfl) hFn hFH hFD (by kernel_rfl) (by kernel_rfl) (by kernel_rfl)
      · have h49 := condF hb47 h40
        refine K.condF (by kernel_rfl) ?_
        refine K.skip (by kernel_rfl) ?_
        obtain rfl := Option.some.inj h49
        exact PJ.cutXl [2, 3, 4, 5, 6, 7] (by kernel_rfl) (by kernel_rfl)
  · subst hs
    have h29 := joinX_inl h28
    refine K.seq (by kernel_rfl) ?_
    refine K.region (by kernel_rfl) ?_
    refine RJ.seg 3 [2, 3, 4, 5, 6, 7, 27, 28, 29] (L2 := [(2, .bool false), (3, lsv (encI .u8) 1 x0.L_), (4, .int .i64 x0.A_), (5, .int .i64 x0.B_), (6, .int .i64 x0.C_), (7, .bool y1), (27, lsv (encI .u8) 1 x0.L_), (28, .int .i64 x0.A_), (29, .int .i64 x0.B_)]) (H2 := []) (by kernel_rfl) ?_
    obtain ⟨y51, hy52, h53⟩ := bindS h29
    refine RJ.call0 (d := (some 30)) (f := 24) (args := [lsv (encI .u8) 1 x0.L_, .int .i64 x0.A_, .int .i64 x0.B_]) (v := .bool y51) (tr2 := []) (by kernel_rfl) (by kernel_rfl) (.cons (Le.refl _) (.cons (Le.refl _) (.cons (Le.refl _) .nil))) (oper_In_ok hy52) (by kernel_rfl) ?_
    refine RJ.seg 1 [2, 3, 4, 5, 6, 7, 8] (L2 := [(2, .bool false), (3, lsv (encI .u8) 1 x0.L_), (4, .int .i64 x0.A_), (5, .int .i64 x0.B_), (6, .int .i64 x0.C_), (7, .bool y1), (8, .bool y51)]) (H2 := []) (by kernel_rfl) ?_
    refine RJ.end (by kernel_rfl) ?_
    refine PJ.next ?_
    obtain ⟨s177, hy179, h181⟩ := bindS h53
    refine K.cutN (by kernel_rfl) (fun (s177 : Bool) => ([(2, .bool s177)], [])) s177 ?_ ?_
    · refine K.region (by kernel_rfl) ?_
      refine RJ.seg 2 [2, 3, 4, 5, 6, 8, 32] (L2 := [(2, .bool false), (3, lsv (encI .u8) 1 x0.L_), (4, .int .i64 x0.A_), (5, .int .i64 x0.B_), (6, .int .i64 x0.C_), (8, .bool y51), (32, .bool y1)]) (H2 := []) (by kernel_rfl) ?_
      refine RJ.caseB 32 (b := y1) (by kernel_rfl) (fun hb182 => ?_) (fun hb182 => ?_)
      · have h183 := condT hb182 hy179
        refine RJ.seg 4 [2, 3, 4, 5, 6, 8, 32, 36] (L2 := [(2, .bool false), (3, lsv (encI .u8) 1 x0.L_), (4, .int .i64 x0.A_), (5, .int .i64 x0.B_), (6, .int .i64 x0.C_), (8, .bool y51), (32, .bool true), (36, .bool (decide (x0.A_ ≤ x0.B_)))]) (H2 := []) (by kernel_rfl) ?_
        refine RJ.caseB 36 (b := (decide (x0.A_ ≤ x0.B_))) (by kernel_rfl) (fun hb185 => ?_) (fun hb185 => ?_)
        · have h186 := condT hb185 h183
          refine RJ.seg 8 [2, 3, 4, 5, 6, 8, 41, 44] (L2 := [(2, .bool false), (3, lsv (encI .u8) 1 x0.L_), (4, .int .i64 x0.A_), (5, .int .i64 x0.B_), (6, .int .i64 x0.C_), (8, .bool y51), (41, .bool true), (44, .bool (!y51))]) (H2 := []) (by kernel_rfl) ?_
          refine RJ.caseB 44 (b := (!y51)) (by kernel_rfl) (fun hb188 => ?_) (fun hb188 => ?_)
          · have h189 := condT hb188 h186
            refine RJ.seg 21 [2, 3, 4, 5, 6, 8, 61, 65] (L2 := [(2, .bool false), (3, lsv (encI .u8) 1 x0.L_), (4, .int .i64 x0.A_), (5, .int .i64 x0.B_), (6, .int .i64 x0.C_), (8, .bool y51), (61, .bool true), (65, .bool (decide (x0.A_ > x0.B_)))]) (H2 := []) (by kernel_rfl) ?_
            refine RJ.caseB 65 (b := (decide (x0.A_ > x0.B_))) (by kernel_rfl) (fun hb191 => ?_) (fun hb191 => ?_)
            · have h192 := condT hb191 h189
              refine RJ.seg 31 [2] (L2 := [(2, .bool true)]) (H2 := []) (by kernel_rfl) ?_
              refine RJ.end (by kernel_rfl) ?_
              obtain rfl := Option.some.inj h192
              exact PJ.cutN [2] (by kernel_rfl) (by kernel_rfl)
            · have h193 := condF hb191 h189
              refine RJ.seg 5 [2, 3, 4, 5, 6, 8, 61, 70] (L2 := [(2, .bool false), (3, lsv (encI .u8) 1 x0.L_), (4, .int .i64 x0.A_), (5, .int .i64 x0.B_), (6, .int .i64 x0.C_), (8, .bool y51), (61, .bool true), (70, .bool (decide (x0.C_ < x0.A_)))]) (H2 := []) (by kernel_rfl) ?_
              refine RJ.caseB 70 (b := (decide (x0.C_ < x0.A_))) (by kernel_rfl) (fun hb194 => ?_) (fun hb194 => ?_)
              · have h195 := condT hb194 h193
                refine RJ.seg 26 [2] (L2 := [(2, .bool true)]) (H2 := []) (by kernel_rfl) ?_
                refine RJ.end (by kernel_rfl) ?_
                obtain rfl := Option.some.inj h195
                exact PJ.cutN [2] (by kernel_rfl) (by kernel_rfl)
              · have h196 := condF hb194 h193
                refine RJ.seg 5 [2, 3, 4, 5, 6, 8, 61, 75] (L2 := [(2, .bool false), (3, lsv (encI .u8) 1 x0.L_), (4, .int .i64 x0.A_), (5, .int .i64 x0.B_), (6, .int .i64 x0.C_), (8, .bool y51), (61, .bool true), (75, .bool (decide (x0.C_ > x0.B_)))]) (H2 := []) (by kernel_rfl) ?_
                refine RJ.caseB 75 (b := (decide (x0.C_ > x0.B_))) (by kernel_rfl) (fun hb197 => ?_) (fun hb197 => ?_)
                · have h198 := condT hb197 h196
                  refine RJ.seg 21 [2] (L2 := [(2, .bool true)]) (H2 := []) (by kernel_rfl) ?_
                  refine RJ.end (by kernel_rfl) ?_
                  obtain rfl := Option.some.inj h198
                  exact PJ.cutN [2] (by kernel_rfl) (by kernel_rfl)
                · have h199 := condF hb197 h196
                  refine RJ.seg 4 [2, 3, 5, 6, 61, 75, 76, 77, 78, 79] (L2 := [(2, .bool false), (3, lsv (encI .u8) 1 x0.L_), (5, .int .i64 x0.B_), (6, .int .i64 x0.C_), (61, .bool true), (75, .bool false), (76, .bool y51), (77, lsv (encI .u8) 1 x0.L_), (78, .int .i64 x0.A_), (79, .int .i64 x0.C_)]) (H2 := []) (by kernel_rfl) ?_
                  obtain ⟨y200, hy201, h202⟩ := bindS h199
                  refine RJ.call0 (d := (some 80)) (f := 24) (args := [lsv (encI .u8) 1 x0.L_, .int .i64 x0.A_, .int .i64 x0.C_]) (v := .bool y200) (tr2 := []) (by kernel_rfl) (by kernel_rfl) (.cons (Le.refl _) (.cons (Le.refl _) (.cons (Le.refl _) .nil))) (oper_In_ok hy201) (by kernel_rfl) ?_
                  refine RJ.seg 1 [2, 3, 5, 6, 61, 75, 76, 81] (L2 := [(2, .bool false), (3, lsv (encI .u8) 1 x0.L_), (5, .int .i64 x0.B_), (6, .int .i64 x0.C_), (61, .bool true), (75, .bool false), (76, .bool y51), (81, .bool y200)]) (H2 := []) (by kernel_rfl) ?_
                  refine RJ.caseB 81 (b := y200) (by kernel_rfl) (fun hb203 => ?_) (fun hb203 => ?_)
                  · have h204 := condT hb203 h202
                    refine RJ.seg 15 [2] (L2 := [(2, .bool (y51 == true))]) (H2 := []) (by kernel_rfl) ?_
                    refine RJ.end (by kernel_rfl) ?_
                    obtain rfl := Option.some.inj h204
                    exact PJ.cutN [2] (by kernel_rfl) (by kernel_rfl)
                  · have h205 := condF hb203 h202
                    refine RJ.seg 4 [2, 3, 5, 6, 61, 75, 76, 81, 85] (L2 := [(2, .bool false), (3, lsv (encI .u8) 1 x0.L_), (5, .int .i64 x0.B_), (6, .int .i64 x0.C_), (61, .bool true), (75, .bool false), (76, .bool y51), (81, .bool false), (85, .bool (decide (x0.C_ < x0.B_)))]) (H2 := []) (by kernel_rfl) ?_
                    refine RJ.caseB 85 (b := (decide (x0.C_ < x0.B_))) (by kernel_rfl) (fun hb206 => ?_) (fun hb206 => ?_)
                    · have h207 := condT hb206 h205
                      refine RJ.seg 4 [2, 61, 75, 76, 81, 85, 86, 88, 89] (L2 := [(2, .bool false), (61, .bool true), (75, .bool false), (76, .bool y51), (81, .bool false), (85, .bool true), (86, lsv (encI .u8) 1 x0.L_), (88, .int .i64 (IntKind.wrap .i64 (x0.C_ + 1))), (89, .int .i64 x0.B_)]) (H2 := []) (by kernel_rfl) ?_
                      obtain ⟨y209, hy210, h211⟩ := bindS h207
                      refine RJ.call0 (d := (some 90)) (f := 24) (args := [lsv (encI .u8) 1 x0.L_, .int .i64 (IntKind.wrap .i64 (x0.C_ + 1)), .int .i64 x0.B_]) (v := .bool y209) (tr2 := []) (by kernel_rfl) (by kernel_rfl) (.cons (Le.refl _) (.cons (Le.refl _) (.cons (Le.refl _) .nil))) (oper_In_ok hy210) (by kernel_rfl) ?_
                      refine RJ.seg 6 [2] (L2 := [(2, .bool (y51 == y209))]) (H2 := []) (by kernel_rfl) ?_
                      refine RJ.end (by kernel_rfl) ?_
                      obtain rfl := Option.some.inj h211
                      exact PJ.cutN [2] (by kernel_rfl) (by kernel_rfl)
                    · have h208 := condF hb206 h205
                      refine RJ.seg 11 [2] (L2 := [(2, .bool (y51 == false))]) (H2 := []) (by kernel_rfl) ?_
                      refine RJ.end (by kernel_rfl) ?_
                      obtain rfl := Option.some.inj h208
                      exact PJ.cutN [2] (by kernel_rfl) (by kernel_rfl)
          · have h190 := condF hb188 h186
            refine RJ.seg 5 [2, 3, 4, 5, 6, 8, 41, 44, 45, 48, 49] (L2 := [(2, .bool false), (3, lsv (encI .u8) 1 x0.L_), (4, .int .i64 x0.A_), (5, .int .i64 x0.B_), (6, .int .i64 x0.C_), (8, .bool y51), (41, .bool true), (44, .bool false), (45, lsv (encI .u8) 1 x0.L_), (48, .int .i64 (minI x0.A_ x0.C_)), (49, .int .i64 x0.B_)]) (H2 := []) (by kernel_rfl) ?_
            obtain ⟨y212, hy213, h214⟩ := bindS h190
            refine RJ.call0 (d := (some 50)) (f := 24) (args := [lsv (encI .u8) 1 x0.L_, .int .i64 (minI x0.A_ x0.C_), .int .i64 x0.B_]) (v := .bool y212) (tr2 := []) (by kernel_rfl) (by kernel_rfl) (.cons (Le.refl _) (.cons (Le.refl _) (.cons (Le.refl _) .nil))) (oper_In_ok hy213) (by kernel_rfl) ?_
            refine RJ.seg 1 [2, 3, 4, 5, 6, 8, 41, 44, 51] (L2 := [(2, .bool false), (3, lsv (encI .u8) 1 x0.L_), (4, .int .i64 x0.A_), (5, .int .i64 x0.B_), (6, .int .i64 x0.C_), (8, .bool y51), (41, .bool true), (44, .bool false), (51, .bool y212)]) (H2 := []) (by kernel_rfl) ?_
            refine RJ.caseB 51 (b := y212) (by kernel_rfl) (fun hb215 => ?_) (fun hb215 => ?_)
            · have h216 := condT hb215 h214
              refine RJ.seg 5 [2, 3, 4, 5, 6, 8, 41, 44, 51, 52, 53, 56] (L2 := [(2, .bool false), (3, lsv (encI .u8) 1 x0.L_), (4, .int .i64 x0.A_), (5, .int .i64 x0.B_), (6, .int .i64 x0.C_), (8, .bool y51), (41, .bool true), (44, .bool false), (51, .bool true), (52, lsv (encI .u8) 1 x0.L_), (53, .int .i64 x0.A_), (56, .int .i64 (maxI x0.B_ x0.C_))]) (H2 := []) (by kernel_rfl) ?_
              obtain ⟨y218, hy219, h220⟩ := bindS h216
              refine RJ.call0 (d := (some 57)) (f := 24) (args := [lsv (encI .u8) 1 x0.L_, .int .i64 x0.A_, .int .i64 (maxI x0.B_ x0.C_)]) (v := .bool y218) (tr2 := []) (by kernel_rfl) (by kernel_rfl) (.cons (Le.refl _) (.cons (Le.refl _) (.cons (Le.refl _) .nil))) (oper_In_ok hy219) (by kernel_rfl) ?_
              refine RJ.seg 4 [2, 3, 4, 5, 6, 8, 61] (L2 := [(2, .bool false), (3, lsv (encI .u8) 1 x0.L_), (4, .int .i64 x0.A_), (5, .int .i64 x0.B_), (6, .int .i64 x0.C_), (8, .bool y51), (61, .bool y218)]) (H2 := []) (by kernel_rfl) ?_
              refine RJ.caseB 61 (b := y218) (by kernel_rfl) (fun hb221 => ?_) (fun hb221 => ?_)
              · have h222 := condT hb221 h220
                refine RJ.seg 4 [2, 3, 4, 5, 6, 8, 61, 65] (L2 := [(2, .bool false), (3, lsv (encI .u8) 1 x0.L_), (4, .int .i64 x0.A_), (5, .int .i64 x0.B_), (6, .int .i64 x0.C_), (8, .bool y51), (61, .bool true), (65, .bool (decide (x0.A_ > x0.B_)))]) (H2 := []) (by kernel_rfl) ?_
                refine RJ.caseB 65 (b := (decide (x0.A_ > x0.B_))) (by kernel_rfl) (fun hb224 => ?_) (fun hb224 => ?_)
                · have h225 := condT hb224 h222
                  refine RJ.seg 31 [2] (L2 := [(2, .bool true)]) (H2 := []) (by kernel_rfl) ?_
                  refine RJ.end (by kernel_rfl) ?_
                  obtain rfl := Option.some.inj h225
                  exact PJ.cutN [2] (by kernel_rfl) (by kernel_rfl)
                · have h226 := condF hb224 h222
                  refine RJ.seg 5 [2, 3, 4, 5, 6, 8, 61, 70] (L2 := [(2, .bool false), (3, lsv (encI .u8) 1 x0.L_), (4, .int .i64 x0.A_), (5, .int .i64 x0.B_), (6, .int .i64 x0.C_), (8, .bool y51), (61, .bool true), (70, .bool (decide (x0.C_ < x0.A_)))]) (H2 := []) (by kernel_rfl) ?_
                  refine RJ.caseB 70 (b := (decide (x0.C_ < x0.A_))) (by kernel_rfl) (fun hb227 => ?_) (fun hb227 => ?_)
                  · have h228 := condT hb227 h226
                    refine RJ.seg 26 [2] (L2 := [(2, .bool true)]) (H2 := []) (by kernel_rfl) ?_
                    refine RJ.end (by kernel_rfl) ?_
                    obtain rfl := Option.some.inj h228
                    exact PJ.cutN [2] (by kernel_rfl) (by kernel_rfl)
                  · have h229 := condF hb227 h226
                    refine RJ.seg 5 [2, 3, 4, 5, 6, 8, 61, 75] (L2 := [(2, .bool false), (3, lsv (encI .u8) 1 x0.L_), (4, .int .i64 x0.A_), (5, .int .i64 x0.B_), (6, .int .i64 x0.C_), (8, .bool y51), (61, .bool true), (75, .bool (decide (x0.C_ > x0.B_)))]) (H2 := []) (by kernel_rfl) ?_
                    refine RJ.caseB 75 (b := (decide (x0.C_ > x0.B_))) (by kernel_rfl) (fun hb230 => ?_) (fun hb230 => ?_)
                    · have h231 := condT hb230 h229
                      refine RJ.seg 21 [2] (L2 := [(2, .bool true)]) (H2 := []) (by kernel_rfl) ?_
                      refine RJ.end (by kernel_rfl) ?_
                      obtain rfl := Option.some.inj h231
                      exact PJ.cutN [2] (by kernel_rfl) (by kernel_rfl)
                    · have h232 := condF hb230 h229
                      refine RJ.seg 4 [2, 3, 5, 6, 61, 75, 76, 77, 78, 79] (L2 := [(2, .bool false), (3, lsv (encI .u8) 1 x0.L_), (5, .int .i64 x0.B_), (6, .int .i64 x0.C_), (61, .bool true), (75, .bool false), (76, .bool y51), (77, lsv (encI .u8) 1 x0.L_), (78, .int .i64 x0.A_), (79, .int .i64 x0.C_)]) (H2 := []) (by kernel_rfl) ?_
                      obtain ⟨y233, hy234, h235⟩ := bindS h232
                      refine RJ.call0 (d := (some 80)) (f := 24) (args := [lsv (encI .u8) 1 x0.L_, .int .i64 x0.A_, .int .i64 x0.C_]) (v := .bool y233) (tr2 := []) (by kernel_rfl) (by kernel_rfl) (.cons (Le.refl _) (.cons (Le.refl _) (.cons (Le.refl _) .nil))) (oper_In_ok hy234) (by kernel_rfl) ?_
                      refine RJ.seg 1 [2, 3, 5, 6, 61, 75, 76, 81] (L2 := [(2, .bool false), (3, lsv (encI .u8) 1 x0.L_), (5, .int .i64 x0.B_), (6, .int .i64 x0.C_), (61, .bool true), (75, .bool false), (76, .bool y51), (81, .bool y233)]) (H2 := []) (by kernel_rfl) ?_
                      refine RJ.caseB 81 (b := y233) (by kernel_rfl) (fun hb236 => ?_) (fun hb236 => ?_)
                      · have h237 := condT hb236 h235
                        refine RJ.seg 15 [2] (L2 := [(2, .bool (y51 == true))]) (H2 := []) (by kernel_rfl) ?_
                        refine RJ.end (by kernel_rfl) ?_
                        obtain rfl := Option.some.inj h237
                        exact PJ.cutN [2] (by kernel_rfl) (by kernel_rfl)
                      · have h238 := condF hb236 h235
                        refine RJ.seg 4 [2, 3, 5, 6, 61, 75, 76, 81, 85] (L2 := [(2, .bool false), (3, lsv (encI .u8) 1 x0.L_), (5, .int .i64 x0.B_), (6, .int .i64 x0.C_), (61, .bool true), (75, .bool false), (76, .bool y51), (81, .bool false), (85, .bool (decide (x0.C_ < x0.B_)))]) (H2 := []) (by kernel_rfl) ?_
                        refine RJ.caseB 85 (b := (decide (x0.C_ < x0.B_))) (by kernel_rfl) (fun hb239 => ?_) (fun hb239 => ?_)
                        · have h240 := condT hb239 h238
                          refine RJ.seg 4 [2, 61, 75, 76, 81, 85, 86, 88, 89] (L2 := [(2, .bool false), (61, .bool true), (75, .bool false), (76, .bool y51), (81, .bool false), (85, .bool true), (86, lsv (encI .u8) 1 x0.L_), (88, .int .i64 (IntKind.wrap .i64 (x0.C_ + 1))), (89, .int .i64 x0.B_)]) (H2 := []) (by kernel_rfl) ?_
                          obtain ⟨y242, hy243, h244⟩ := bindS h240
                          refine RJ.call0 (d := (some 90)) (f := 24) (args := [lsv (encI .u8) 1 x0.L_, .int .i64 (IntKind.wrap .i64 (x0.C_ + 1)), .int .i64 x0.B_]) (v := .bool y242) (tr2 := []) (by kernel_rfl) (by kernel_rfl) (.cons (Le.refl _) (.cons (Le.refl _) (.cons (Le.refl _) .nil))) (oper_In_ok hy243) (by kernel_rfl) ?_
                          refine RJ.seg 6 [2] (L2 := [(2, .bool (y51 == y242))]) (H2 := []) (by kernel_rfl) ?_
                          refine RJ.end (by kernel_rfl) ?_
                          obtain rfl := Option.some.inj h244
                          exact PJ.cutN [2] (by kernel_rfl) (by kernel_rfl)
                        · have h241 := condF hb239 h238
                          refine RJ.seg 11 [2] (L2 := [(2, .bool (y51 == false))]) (H2 := []) (by kernel_rfl) ?_
                          refine RJ.end (by kernel_rfl) ?_
                          obtain rfl := Option.some.inj h241
                          exact PJ.cutN [2] (by kernel_rfl) (by kernel_rfl)
              · have h223 := condF hb221 h220
                refine RJ.seg 35 [2] (L2 := [(2, .bool false)]) (H2 := []) (by kernel_rfl) ?_
                refine RJ.end (by kernel_rfl) ?_
                obtain rfl := Option.some.inj h223
                exact PJ.cutN [2] (by kernel_rfl) (by kernel_rfl)
            · have h217 := condF hb215 h214
              refine RJ.seg 45 [2] (L2 := [(2, .bool false)]) (H2 := []) (by kernel_rfl) ?_
              refine RJ.end (by kernel_rfl) ?_
              obtain rfl := Option.some.inj h217
              exact PJ.cutN [2] (by kernel_rfl) (by kernel_rfl)
        · have h187 := condF hb185 h183
          refine RJ.seg 5 [2, 3, 4, 5, 6, 8, 41] (L2 := [(2, .bool false), (3, lsv (encI .u8) 1 x0.L_), (4, .int .i64 x0.A_), (5, .int .i64 x0.B_), (6, .int .i64 x0.C_), (8, .bool y51), (41, .bool (!y51))]) (H2 := []) (by kernel_rfl) ?_
          refine RJ.caseB 41 (b := (!y51)) (by kernel_rfl) (fun hb245 => ?_) (fun hb245 => ?_)
          · have h246 := condT hb245 h187
            refine RJ.seg 3 [2, 3, 4, 5, 6, 8, 41, 44] (L2 := [(2, .bool false), (3, lsv (encI .u8) 1 x0.L_), (4, .int .i64 x0.A_), (5, .int .i64 x0.B_), (6, .int .i64 x0.C_), (8, .bool y51), (41, .bool true), (44, .bool (!y51))]) (H2 := []) (by kernel_rfl) ?_
            refine RJ.caseB 44 (b := (!y51)) (by kernel_rfl) (fun hb248 => ?_) (fun hb248 => ?_)
            · have h249 := condT hb248 h246
              refine RJ.seg 21 [2, 3, 4, 5, 6, 8, 61, 65] (L2 := [(2, .bool false), (3, lsv (encI .u8) 1 x0.L_), (4, .int .i64 x0.A_), (5, .int .i64 x0.B_), (6, .int .i64 x0.C_), (8, .bool y51), (61, .bool true), (65, .bool (decide (x0.A_ > x0.B_)))]) (H2 := []) (by kernel_rfl) ?_
              refine RJ.caseB 65 (b := (decide (x0.A_ > x0.B_))) (by kernel_rfl) (fun hb251 => ?_) (fun hb251 => ?_)
              · have h252 := condT hb251 h249
                refine RJ.seg 31 [2] (L2 := [(2, .bool true)]) (H2 := []) (by kernel_rfl) ?_
                refine RJ.end (by kernel_rfl) ?_
                obtain rfl := Option.some.inj h252
                exact PJ.cutN [2] (by kernel_rfl) (by kernel_rfl)
              · have h253 := condF hb251 h249
                refine RJ.seg 5 [2, 3, 4, 5, 6, 8, 61, 70] (L2 := [(2, .bool false), (3, lsv (encI .u8) 1 x0.L_), (4, .int .i64 x0.A_), (5, .int .i64 x0.B_), (6, .int .i64 x0.C_), (8, .bool y51), (61, .bool true), (70, .bool (decide (x0.C_ < x0.A_)))]) (H2 := []) (by kernel_rfl) ?_
                refine RJ.caseB 70 (b := (decide (x0.C_ < x0.A_))) (by kernel_rfl) (fun hb254 => ?_) (fun hb254 => ?_)
                · have h255 := condT hb254 h253
                  refine RJ.seg 26 [2] (L2 := [(2, .bool true)]) (H2 := []) (by kernel_rfl) ?_
                  refine RJ.end (by kernel_rfl) ?_
                  obtain rfl := Option.some.inj h255
                  exact PJ.cutN [2] (by kernel_rfl) (by kernel_rfl)
                · have h256 := condF hb254 h253
                  refine RJ.seg 5 [2, 3, 4, 5, 6, 8, 61, 75] (L2 := [(2, .bool false), (3, lsv (encI .u8) 1 x0.L_), (4, .int .i64 x0.A_), (5, .int .i64 x0.B_), (6, .int .i64 x0.C_), (8, .bool y51), (61, .bool true), (75, .bool (decide (x0.C_ > x0.B_)))]) (H2 := []) (by kernel_rfl) ?_
                  refine RJ.caseB 75 (b := (decide (x0.C_ > x0.B_))) (by kernel_rfl) (fun hb257 => ?_) (fun hb257 => ?_)
                  · have h258 := condT hb257 h256
                    refine RJ.seg 21 [2] (L2 := [(2, .bool true)]) (H2 := []) (by kernel_rfl) ?_
                    refine RJ.end (by kernel_rfl) ?_
                    obtain rfl := Option.some.inj h258
                    exact PJ.cutN [2] (by kernel_rfl) (by kernel_rfl)
                  · have h259 := condF hb257 h256
                    refine RJ.seg 4 [2, 3, 5, 6, 61, 75, 76, 77, 78, 79] (L2 := [(2, .bool false), (3, lsv (encI .u8) 1 x0.L_), (5, .int .i64 x0.B_), (6, .int .i64 x0.C_), (61, .bool true), (75, .bool false), (76, .bool y51), (77, lsv (encI .u8) 1 x0.L_), (78, .int .i64 x0.A_), (79, .int .i64 x0.C_)]) (H2 := []) (by kernel_rfl) ?_
                    obtain ⟨y260, hy261, h262⟩ := bindS h259
                    refine RJ.call0 (d := (some 80)) (f := 24) (args := [lsv (encI .u8) 1 x0.L_, .int .i64 x0.A_, .int .i64 x0.C_]) (v := .bool y260) (tr2 := []) (by kernel_rfl) (by kernel_rfl) (.cons (Le.refl _) (.cons (Le.refl _) (.cons (Le.refl _) .nil))) (oper_In_ok hy261) (by kernel_rfl) ?_
                    refine RJ.seg 1 [2, 3, 5, 6, 61, 75, 76, 81] (L2 := [(2, .bool false), (3, lsv (encI .u8) 1 x0.L_), (5, .int .i64 x0.B_), (6, .int .i64 x0.C_), (61, .bool true), (75, .bool false), (76, .bool y51), (81, .bool y260)]) (H2 := []) (by kernel_rfl) ?_
                    refine RJ.caseB 81 (b := y260) (by kernel_rfl) (fun hb263 => ?_) (fun hb263 => ?_)
                    · have h264 := condT hb263 h262
                      refine RJ.seg 15 [2] (L2 := [(2, .bool (y51 == true))]) (H2 := []) (by kernel_rfl) ?_
                      refine RJ.end (by kernel_rfl) ?_
                      obtain rfl := Option.some.inj h264
                      exact PJ.cutN [2] (by kernel_rfl) (by kernel_rfl)
                    · have h265 := condF hb263 h262
                      refine RJ.seg 4 [2, 3, 5, 6, 61, 75, 76, 81, 85] (L2 := [(2, .bool false), (3, lsv (encI .u8) 1 x0.L_), (5, .int .i64 x0.B_), (6, .int .i64 x0.C_), (61, .bool true), (75, .bool false), (76, .bool y51), (81, .bool false), (85, .bool (decide (x0.C_ < x0.B_)))]) (H2 := []) (by kernel_rfl) ?_
                      refine RJ.caseB 85 (b := (decide (x0.C_ < x0.B_))) (by kernel_rfl) (fun hb266 => ?_) (fun hb266 => ?_)
                      · have h267 := condT hb266 h265
                        refine RJ.seg 4 [2, 61, 75, 76, 81, 85, 86, 88, 89] (L2 := [(2, .bool false), (61, .bool true), (75, .bool false), (76, .bool y51), (81, .bool false), (85, .bool true), (86, lsv (encI .u8) 1 x0.L_), (88, .int .i64 (IntKind.wrap .i64 (x0.C_ + 1))), (89, .int .i64 x0.B_)]) (H2 := []) (by kernel_rfl) ?_
                        obtain ⟨y269, hy270, h271⟩ := bindS h267
                        refine RJ.call0 (d := (some 90)) (f := 24) (args := [lsv (encI .u8) 1 x0.L_, .int .i64 (IntKind.wrap .i64 (x0.C_ + 1)), .int .i64 x0.B_]) (v := .bool y269) (tr2 := []) (by kernel_rfl) (by kernel_rfl) (.cons (Le.refl _) (.cons (Le.refl _) (.cons (Le.refl _) .nil))) (oper_In_ok hy270) (by kernel_rfl) ?_
                        refine RJ.seg 6 [2] (L2 := [(2, .bool (y51 == y269))]) (H2 := []) (by kernel_rfl) ?_
                        refine RJ.end (by kernel_rfl) ?_
                        obtain rfl := Option.some.inj h271
                        exact PJ.cutN [2] (by kernel_rfl) (by kernel_rfl)
                      · have h268 := condF hb266 h265
                        refine RJ.seg 11 [2] (L2 := [(2, .bool (y51 == false))]) (H2 := []) (by kernel_rfl) ?_
                        refine RJ.end (by kernel_rfl) ?_
                        obtain rfl := Option.some.inj h268
                        exact PJ.cutN [2] (by kernel_rfl) (by kernel_rfl)
            · have h250 := condF hb248 h246
              refine RJ.seg 5 [2, 3, 4, 5, 6, 8, 41, 44, 45, 48, 49] (L2 := [(2, .bool false), (3, lsv (encI .u8) 1 x0.L_), (4, .int .i64 x0.A_), (5, .int .i64 x0.B_), (6, .int .i64 x0.C_), (8, .bool y51), (41, .bool true), (44, .bool false), (45, lsv (encI .u8) 1 x0.L_), (48, .int .i64 (minI x0.A_ x0.C_)), (49, .int .i64 x0.B_)]) (H2 := []) (by kernel_rfl) ?_
              obtain ⟨y272, hy273, h274⟩ := bindS h250
              refine RJ.call0 (d := (some 50)) (f := 24) (args := [lsv (encI .u8) 1 x0.L_, .int .i64 (minI x0.A_ x0.C_), .int .i64 x0.B_]) (v := .bool y272) (tr2 := []) (by kernel_rfl) (by kernel_rfl) (.cons (Le.refl _) (.cons (Le.refl _) (.cons (Le.refl _) .nil))) (oper_In_ok hy273) (by kernel_rfl) ?_
              refine RJ.seg 1 [2, 3, 4, 5, 6, 8, 41, 44, 51] (L2 := [(2, .bool false), (3, lsv (encI .u8) 1 x0.L_), (4, .int .i64 x0.A_), (5, .int .i64 x0.B_), (6, .int .i64 x0.C_), (8, .bool y51), (41, .bool true), (44, .bool false), (51, .bool y272)]) (H2 := []) (by kernel_rfl) ?_
              refine RJ.caseB 51 (b := y272) (by kernel_rfl) (fun hb275 => ?_) (fun hb275 => ?_)
              · have h276 := condT hb275 h274
                refine RJ.seg 5 [2, 3, 4, 5, 6, 8, 41, 44, 51, 52, 53, 56] (L2 := [(2, .bool false), (3, lsv (encI .u8) 1 x0.L_), (4, .int .i64 x0.A_), (5, .int .i64 x0.B_), (6, .int .i64 x0.C_), (8, .bool y51), (41, .bool true), (44, .bool false), (51, .bool true), (52, lsv (encI .u8) 1 x0.L_), (53, .int .i64 x0.A_), (56, .int .i64 (maxI x0.B_ x0.C_))]) (H2 := []) (by kernel_rfl) ?_
                obtain ⟨y278, hy279, h280⟩ := bindS h276
                refine RJ.call0 (d := (some 57)) (f := 24) (args := [lsv (encI .u8) 1 x0.L_, .int .i64 x0.A_, .int .i64 (maxI x0.B_ x0.C_)]) (v := .bool y278) (tr2 := []) (by kernel_rfl) (by kernel_rfl) (.cons (Le.refl _) (.cons (Le.refl _) (.cons (Le.refl _) .nil))) (oper_In_ok hy279) (by kernel_rfl) ?_
                refine RJ.seg 4 [2, 3, 4, 5, 6, 8, 61] (L2 := [(2, .bool false), (3, lsv (encI .u8) 1 x0.L_), (4, .int .i64 x0.A_), (5, .int .i64 x0.B_), (6, .int .i64 x0.C_), (8, .bool y51), (61, .bool y278)]) (H2 := []) (by kernel_rfl) ?_
                refine RJ.caseB 61 (b := y278) (by kernel_rfl) (fun hb281 => ?_) (fun hb281 => ?_)
                · have h282 := condT hb281 h280
                  refine RJ.seg 4 [2, 3, 4, 5, 6, 8, 61, 65] (L2 := [(2, .bool false), (3, lsv (encI .u8) 1 x0.L_), (4, .int .i64 x0.A_), (5, .int .i64 x0.B_), (6, .int .i64 x0.C_), (8, .bool y51), (61, .bool true), (65, .bool (decide (x0.A_ > x0.B_)))]) (H2 := []) (by kernel_rfl) ?_
                  refine RJ.caseB 65 (b := (decide (x0.A_ > x0.B_))) (by kernel_rfl) (fun hb284 => ?_) (fun hb284 => ?_)
                  · have h285 := condT hb284 h282
                    refine RJ.seg 31 [2] (L2 := [(2, .bool true)]) (H2 := []) (by kernel_rfl) ?_
                    refine RJ.end (by kernel_rfl) ?_
                    obtain rfl := Option.some.inj h285
                    exact PJ.cutN [2] (by kernel_rfl) (by kernel_rfl)
                  · have h286 := condF hb284 h282
                    refine RJ.seg 5 [2, 3, 4, 5, 6, 8, 61, 70] (L2 := [(2, .bool false), (3, lsv (encI .u8) 1 x0.L_), (4, .int .i64 x0.A_), (5, .int .i64 x0.B_), (6, .int .i64 x0.C_), (8, .bool y51), (61, .bool true), (70, .bool (decide (x0.C_ < x0.A_)))]) (H2 := []) (by kernel_rfl) ?_
                    refine RJ.caseB 70 (b := (decide (x0.C_ < x0.A_))) (by kernel_rfl) (fun hb287 => ?_) (fun hb287 => ?_)
                    · have h288 := condT hb287 h286
                      refine RJ.seg 26 [2] (L2 := [(2, .bool true)]) (H2 := []) (by kernel_rfl) ?_
                      refine RJ.end (by kernel_rfl) ?_
                      obtain rfl := Option.some.inj h288
                      exact PJ.cutN [2] (by kernel_rfl) (by kernel_rfl)
                    · have h289 := condF hb287 h286
                      refine RJ.seg 5 [2, 3, 4, 5, 6, 8, 61, 75] (L2 := [(2, .bool false), (3, lsv (encI .u8) 1 x0.L_), (4, .int .i64 x0.A_), (5, .int .i64 x0.B_), (6, .int .i64 x0.C_), (8, .bool y51), (61, .bool true), (75, .bool (decide (x0.C_ > x0.B_)))]) (H2 := []) (by kernel_rfl) ?_
                      refine RJ.caseB 75 (b := (decide (x0.C_ > x0.B_))) (by kernel_rfl) (fun hb290 => ?_) (fun hb290 => ?_)
                      · have h291 := condT hb290 h289
                        refine RJ.seg 21 [2] (L2 := [(2, .bool true)]) (H2 := []) (by kernel_rfl) ?_
                        refine RJ.end (by kernel_rfl) ?_
                        obtain rfl := Option.some.inj h291
                        exact PJ.cutN [2] (by kernel_rfl) (by kernel_rfl)
                      · have h292 := condF hb290 h289
                        refine RJ.seg 4 [2, 3, 5, 6, 61, 75, 76, 77, 78, 79] (L2 := [(2, .bool false), (3, lsv (encI .u8) 1 x0.L_), (5, .int .i64 x0.B_), (6, .int .i64 x0.C_), (61, .bool true), (75, .bool false), (76, .bool y51), (77, lsv (encI .u8) 1 x0.L_), (78, .int .i64 x0.A_), (79, .int .i64 x0.C_)]) (H2 := []) (by kernel_rfl) ?_
                        obtain ⟨y293, hy294, h295⟩ := bindS h292
                        refine RJ.call0 (d := (some 80)) (f := 24) (args := [lsv (encI .u8) 1 x0.L_, .int .i64 x0.A_, .int .i64 x0.C_]) (v := .bool y293) (tr2 := []) (by kernel_rfl) (by kernel_rfl) (.cons (Le.refl _) (.cons (Le.refl _) (.cons (Le.refl _) .nil))) (oper_In_ok hy294) (by kernel_rfl) ?_
                        refine RJ.seg 1 [2, 3, 5, 6, 61, 75, 76, 81] (L2 := [(2, .bool false), (3, lsv (encI .u8) 1 x0.L_), (5, .int .i64 x0.B_), (6, .int .i64 x0.C_), (61, .bool true), (75, .bool false), (76, .bool y51), (81, .bool y293)]) (H2 := []) (by kernel_rfl) ?_
                        refine RJ.caseB 81 (b := y293) (by kernel_rfl) (fun hb296 => ?_) (fun hb296 => ?_)
                        · have h297 := condT hb296 h295
                          refine RJ.seg 15 [2] (L2 := [(2, .bool (y51 == true))]) (H2 := []) (by kernel_rfl) ?_
                          refine RJ.end (by kernel_rfl) ?_
                          obtain rfl := Option.some.inj h297
                          exact PJ.cutN [2] (by kernel_rfl) (by kernel_rfl)
                        · have h298 := condF hb296 h295
                          refine RJ.seg 4 [2, 3, 5, 6, 61, 75, 76, 81, 85] (L2 := [(2, .bool false), (3, lsv (encI .u8) 1 x0.L_), (5, .int .i64 x0.B_), (6, .int .i64 x0.C_), (61, .bool true), (75, .bool false), (76, .bool y51), (81, .bool false), (85, .bool (decide (x0.C_ < x0.B_)))]) (H2 := []) (by kernel_rfl) ?_
                          refine RJ.caseB 85 (b := (decide (x0.C_ < x0.B_))) (by kernel_rfl) (fun hb299 => ?_) (fun hb299 => ?_)
                          · have h300 := condT hb299 h298
                            refine RJ.seg 4 [2, 61, 75, 76, 81, 85, 86, 88, 89] (L2 := [(2, .bool false), (61, .bool true), (75, .bool false), (76, .bool y51), (81, .bool false), (85, .bool true), (86, lsv (encI .u8) 1 x0.L_), (88, .int .i64 (IntKind.wrap .i64 (x0.C_ + 1))), (89, .int .i64 x0.B_)]) (H2 := []) (by kernel_rfl) ?_
                            obtain ⟨y302, hy303, h304⟩ := bindS h300
                            refine RJ.call0 (d := (some 90)) (f := 24) (args := [lsv (encI .u8) 1 x0.L_, .int .i64 (IntKind.wrap .i64 (x0.C_ + 1)), .int .i64 x0.B_]) (v := .bool y302) (tr2 := []) (by kernel_rfl) (by kernel_rfl) (.cons (Le.refl _) (.cons (Le.refl _) (.cons (Le.refl _) .nil))) (oper_In_ok hy303) (by kernel_rfl) ?_
                            refine RJ.seg 6 [2] (L2 := [(2, .bool (y51 == y302))]) (H2 := []) (by kernel_rfl) ?_
                            refine RJ.end (by kernel_rfl) ?_
                            obtain rfl := Option.some.inj h304
                            exact PJ.cutN [2] (by kernel_rfl) (by kernel_rfl)
                          · have h301 := condF hb299 h298
                            refine RJ.seg 11 [2] (L2 := [(2, .bool (y51 == false))]) (H2 := []) (by kernel_rfl) ?_
                            refine RJ.end (by kernel_rfl) ?_
                            obtain rfl := Option.some.inj h301
                            exact PJ.cutN [2] (by kernel_rfl) (by kernel_rfl)
                · have h283 := condF hb281 h280
                  refine RJ.seg 35 [2] (L2 := [(2, .bool false)]) (H2 := []) (by kernel_rfl) ?_
                  refine RJ.end (by kernel_rfl) ?_
                  obtain rfl := Option.some.inj h283
                  exact PJ.cutN [2] (by kernel_rfl) (by kernel_rfl)
              · have h277 := condF hb275 h274
                refine RJ.seg 45 [2] (L2 := [(2, .bool false)]) (H2 := []) (by kernel_rfl) ?_
                refine RJ.end (by kernel_rfl) ?_
                obtain rfl := Option.some.inj h277
                exact PJ.cutN [2] (by kernel_rfl) (by kernel_rfl)
          · have h247 := condF hb245 h187
            refine RJ.seg 55 [2] (L2 := [(2, .bool false)]) (H2 := []) (by kernel_rfl) ?_
            refine RJ.end (by kernel_rfl) ?_
            obtain rfl := Option.some.inj h247
            exact PJ.cutN [2] (by kernel_rfl) (by kernel_rfl)
      · have h184 := condF hb182 hy179
        refine RJ.seg 64 [2] (L2 := [(2, .bool false)]) (H2 := []) (by kernel_rfl) ?_
        refine RJ.end (by kernel_rfl) ?_
        obtain rfl := Option.some.inj h184
        exact PJ.cutN [2] (by kernel_rfl) (by kernel_rfl)
    · refine K.ret (by kernel_rfl) ?_
      obtain rfl := Option.some.inj h181
      exact K.ret0 (.inr rfl) hFn hFH hFD (by kernel_rfl) (by kernel_rfl) (by kernel_rfl)

def exerguelaw07_OperBack (x0 : St23) : Option (Bool) :=
  (Option.bind exerguelaw07_shown fun y1 => (Option.bind (Option.bind (bif (decide (((IntKind.wrap .i64 ((x0.I_.length : Int) + (x0.F_.length : Int)))) > 1000)) then (some true) else (Option.bind (exergueref07_Right x0) fun y44 => (some (!y44)))) fun (s36 : Bool) => (bif s36 then (some (.inr y1)) else (some (.inl ())))) (joinX fun (s25 : Unit) => (Option.bind (oper_Of x0.I_ x0.F_ x0.C_) fun y51 => (Option.bind (bif y1 then (bif (decide (y51.2 = 0)) then (Option.bind (exergueref07_Same y51.1 x0) fun y86 => (bif y86 then (Option.bind (oper_Same y51.1 x0) fun y92 => (bif y92 then (Option.bind (oper_Right y51.1) fun y98 => (some y98)) else (some false))) else (some false))) else (some false)) else (some false)) fun (s75 : Bool) => (some s75))))))
theorem exerguelaw07_OperBack_ok {x0 : St23} {r : Bool} (h : exerguelaw07_OperBack x0 = some r) : SC Try.prog 9 [.agg [lsv (encI .u8) 1 x0.I_, lsv (encI .u8) 1 x0.F_, .int .i64 x0.W_, .int .i64 x0.C_]] [] (.bool r) [] := by
  refine K.fn (fn := Try.f9) (by kernel_rfl) (by kernel_rfl) (by kernel_rfl) (by kernel_rfl) (by kernel_rfl) (fun F hFn hFH hFD => ?_)
  unfold exerguelaw07_OperBack at h
  refine K.seq (by kernel_rfl) ?_
  refine K.region (by kernel_rfl) ?_
  refine RJ.seg 2 [1, 2] (L2 := [(1, .ptr 0 0), (2, .bool false)]) (H2 := [.box [lsv (encI .u8) 1 x0.I_, lsv (encI .u8) 1 x0.F_, .int .i64 x0.W_, .int .i64 x0.C_]]) (by kernel_rfl) ?_
  refine RJ.end (by kernel_rfl) ?_
  refine PJ.next ?_
  refine K.seq (by kernel_rfl) ?_
  refine K.region (by kernel_rfl) ?_
  obtain ⟨y1, hy2, h3⟩ := bindS h
  refine RJ.call0 (d := (some 6)) (f := 10) (args := []) (v := .bool y1) (tr2 := []) (by kernel_rfl) (by kernel_rfl) .nil (exerguelaw07_shown_ok hy2) (by kernel_rfl) ?_
  refine RJ.seg 1 [1, 2, 3] (L2 := [(1, .ptr 0 0), (2, .bool false), (3, .bool y1)]) (H2 := [.box [lsv (encI .u8) 1 x0.I_, lsv (encI .u8) 1 x0.F_, .int .i64 x0.W_, .int .i64 x0.C_]]) (by kernel_rfl) ?_
  refine RJ.end (by kernel_rfl) ?_
  refine PJ.next ?_
  obtain ⟨y26, hy27, h28⟩ := bindS h3
  refine K.cutX (by kernel_rfl) (fun (s25 : Unit) => ([(1, .ptr 0 0), (2, .bool false), (3, .bool y1)], [.box [lsv (encI .u8) 1 x0.I_, lsv (encI .u8) 1 x0.F_, .int .i64 x0.W_, .int .i64 x0.C_]])) y26 ?_ (fun s25 hs => ?_)
  · obtain ⟨s36, hy38, h40⟩ := bindS hy27
    refine K.cutN (by kernel_rfl) (fun (s36 : Bool) => ([(1, .ptr 0 0), (2, .bool false), (3, .bool y1), (19, .bool s36)], [.box [lsv (encI .u8) 1 x0.I_, lsv (encI .u8) 1 x0.F_, .int .i64 x0.W_, .int .i64 x0.C_]])) s36 ?_ ?_
    · refine K.region (by kernel_rfl) ?_
      refine RJ.seg 9 [1, 2, 3, 15] (L2 := [(1, .ptr 0 0), (2, .bool false), (3, .bool y1), (15, .bool ((decide (((IntKind.wrap .i64 ((x0.I_.length : Int) + (x0.F_.length : Int)))) > 1000))))]) (H2 := [.box [lsv (encI .u8) 1 x0.I_, lsv (encI .u8) 1 x0.F_, .int .i64 x0.W_, .int .i64 x0.C_]]) (by kernel_rfl) ?_
      refine RJ.caseB 15 (b := (decide (((IntKind.wrap .i64 ((x0.I_.length : Int) + (x0.F_.length : Int)))) > 1000))) (by kernel_rfl) (fun hb41 => ?_) (fun hb41 => ?_)
      · have h42 := condT hb41 hy38
        refine RJ.seg 4 [1, 2, 3, 19] (L2 := [(1, .ptr 0 0), (2, .bool false), (3, .bool y1), (19, .bool true)]) (H2 := [.box [lsv (encI .u8) 1 x0.I_, lsv (encI .u8) 1 x0.F_, .int .i64 x0.W_, .int .i64 x0.C_]]) (by kernel_rfl) ?_
        refine RJ.end (by kernel_rfl) ?_
        obtain rfl := Option.some.inj h42
        exact PJ.cutN [1, 2, 3, 19] (by kernel_rfl) (by kernel_rfl)
      · have h43 := condF hb41 hy38
        refine RJ.seg 1 [1, 2, 3, 15, 16] (L2 := [(1, .ptr 0 0), (2, .bool false), (3, .bool y1), (15, .bool false), (16, .agg [lsv (encI .u8) 1 x0.I_, lsv (encI .u8) 1 x0.F_, .int .i64 x0.W_, .int .i64 x0.C_])]) (H2 := [.box [lsv (encI .u8) 1 x0.I_, lsv (encI .u8) 1 x0.F_, .int .i64 x0.W_, .int .i64 x0.C_]]) (by kernel_rfl) ?_
        obtain ⟨y44, hy45, h46⟩ := bindS h43
        refine RJ.call0 (d := (some 17)) (f := 14) (args := [.agg [lsv (encI .u8) 1 x0.I_, lsv (encI .u8) 1 x0.F_, .int .i64 x0.W_, .int .i64 x0.C_]]) (v := .bool y44) (tr2 := []) (by kernel_rfl) (by kernel_rfl) (.cons (Le.refl _) .nil) (exergueref07_Right_ok hy45) (by kernel_rfl) ?_
        refine RJ.seg 2 [1, 2, 3, 19] (L2 := [(1, .ptr 0 0), (2, .bool false), (3, .bool y1), (19, .bool (!y44))]) (H2 := [.box [lsv (encI .u8) 1 x0.I_, lsv (encI .u8) 1 x0.F_, .int .i64 x0.W_, .int .i64 x0.C_]]) (by kernel_rfl) ?_
        refine RJ.end (by kernel_rfl) ?_
        obtain rfl := Option.some.inj h46
        exact PJ.cutN [1, 2, 3, 19] (by kernel_rfl) (by kernel_rfl)
    · refine J.caseB 19 (b := s36) (by kernel_rfl) (fun hb47 => ?_) (fun hb47 => ?_)
      · have h48 := condT hb47 h40
        refine K.condT (by kernel_rfl) ?_
        refine K.seq (by kernel_rfl) ?_
        refine K.region (by kernel_rfl) ?_
        refine RJ.seg 2 [1, 2, 3] (L2 := [(1, .ptr 0 0), (2, .bool y1), (3, .bool y1)]) (H2 := [.box [lsv (encI .u8) 1 x0.I_, lsv (encI .u8) 1 x0.F_, .int .i64 x0.W_, .int .i64 x0.C_]]) (by kernel_rfl) ?_
        refine RJ.end (by kernel_rfl) ?_
        refine PJ.next ?_
        refine K.ret (by kernel_rfl) ?_
        obtain rfl := Option.some.inj h48
        have h50 := joinX_inr h28
        refine PJ.cutXr (fun e => nomatch e) ?_
        obtain rfl := Option.some.inj h50
        exact K.ret0 (.inr rfl) hFn hFH hFD (by kernel_rfl) (by kernel_rfl) (by kernel_rfl)
      · have h49 := condF hb47 h40
        refine K.condF (by kernel_rfl) ?_
        refine K.skip (by kernel_rfl) ?_
        obtain rfl := Option.some.inj h49
        exact PJ.cutXl [1, 2, 3] (by kernel_rfl) (by kernel_rfl)
  · subst hs
    have h29 := joinX_inl h28
    refine K.seq (by kernel_rfl) ?_
    refine K.region (by kernel_rfl) ?_
    refine RJ.seg 6 [1, 2, 3, 23, 25, 27] (L2 := [(1, .ptr 0 0), (2, .bool false), (3, .bool y1), (23, lsv (encI .u8) 1 x0.I_), (25, lsv (encI .u8) 1 x0.F_), (27, .int .i64 x0.C_)]) (H2 := [.box [lsv (encI .u8) 1 x0.I_, lsv (encI .u8) 1 x0.F_, .int .i64 x0.W_, .int .i64 x0.C_]]) (by kernel_rfl) ?_
    obtain ⟨y51, hy52, h53⟩ := bindS h29
    refine RJ.call0 (d := (some 28)) (f := 12) (args := [lsv (encI .u8) 1 x0.I_, lsv (encI .u8) 1 x0.F_, .int .i64 x0.C_]) (v := .tup [.agg [lsv (encI .u8) 1 y51.1.I_, lsv (encI .u8) 1 y51.1.F_, .int .i64 y51.1.W_, .int .i64 y51.1.C_], .int .i64 y51.2]) (tr2 := []) (by kernel_rfl) (by kernel_rfl) (.cons (Le.refl _) (.cons (Le.refl _) (.cons (Le.refl _) .nil))) (oper_Of_ok hy52) (by kernel_rfl) ?_
    refine RJ.seg 6 [1, 2, 3, 4, 5] (L2 := [(1, .ptr 0 0), (2, .bool false), (3, .bool y1), (4, .ptr 1 0), (5, .int .i64 y51.2)]) (H2 := [.box [lsv (encI .u8) 1 x0.I_, lsv (encI .u8) 1 x0.F_, .int .i64 x0.W_, .int .i64 x0.C_], .box [lsv (encI .u8) 1 y51.1.I_, lsv (encI .u8) 1 y51.1.F_, .int .i64 y51.1.W_, .int .i64 y51.1.C_]]) (by kernel_rfl) ?_
    refine RJ.end (by kernel_rfl) ?_
    refine PJ.next ?_
    obtain ⟨s75, hy77, h79⟩ := bindS h53
    refine K.cutN (by kernel_rfl) (fun (s75 : Bool) => ([(2, .bool s75)], [])) s75 ?_ ?_
    · refine K.region (by kernel_rfl) ?_
      refine RJ.seg 2 [1, 2, 4, 5, 32] (L2 := [(1, .ptr 0 0), (2, .bool false), (4, .ptr 1 0), (5, .int .i64 y51.2), (32, .bool y1)]) (H2 := [.box [lsv (encI .u8) 1 x0.I_, lsv (encI .u8) 1 x0.F_, .int .i64 x0.W_, .int .i64 x0.C_], .box [lsv (encI .u8) 1 y51.1.I_, lsv (encI .u8) 1 y51.1.F_, .int .i64 y51.1.W_, .int .i64 y51.1.C_]]) (by kernel_rfl) ?_
      refine RJ.caseB 32 (b := y1) (by kernel_rfl) (fun hb80 => ?_) (fun hb80 => ?_)
      · have h81 := condT hb80 hy77
        refine RJ.seg 4 [1, 2, 4, 36] (L2 := [(1, .ptr 0 0), (2, .bool false), (4, .ptr 1 0), (36, .bool (decide (y51.2 = 0)))]) (H2 := [.box [lsv (encI .u8) 1 x0.I_, lsv (encI .u8) 1 x0.F_, .int .i64 x0.W_, .int .i64 x0.C_], .box [lsv (encI .u8) 1 y51.1.I_, lsv (encI .u8) 1 y51.1.F_, .int .i64 y51.1.W_, .int .i64 y51.1.C_]]) (by kernel_rfl) ?_
        refine RJ.caseB 36 (b := (decide (y51.2 = 0))) (by kernel_rfl) (fun hb83 => ?_) (fun hb83 => ?_)
        · have h84 := condT hb83 h81
          refine RJ.seg 2 [1, 2, 4, 36, 37, 38] (L2 := [(1, .ptr 0 0), (2, .bool false), (4, .ptr 1 0), (36, .bool true), (37, .agg [lsv (encI .u8) 1 y51.1.I_, lsv (encI .u8) 1 y51.1.F_, .int .i64 y51.1.W_, .int .i64 y51.1.C_]), (38, .agg [lsv (encI .u8) 1 x0.I_, lsv (encI .u8) 1 x0.F_, .int .i64 x0.W_, .int .i64 x0.C_])]) (H2 := [.box [lsv (encI .u8) 1 x0.I_, lsv (encI .u8) 1 x0.F_, .int .i64 x0.W_, .int .i64 x0.C_], .box [lsv (encI .u8) 1 y51.1.I_, lsv (encI .u8) 1 y51.1.F_, .int .i64 y51.1.W_, .int .i64 y51.1.C_]]) (by kernel_rfl) ?_
          obtain ⟨y86, hy87, h88⟩ := bindS h84
          refine RJ.call0 (d := (some 39)) (f := 15) (args := [.agg [lsv (encI .u8) 1 y51.1.I_, lsv (encI .u8) 1 y51.1.F_, .int .i64 y51.1.W_, .int .i64 y51.1.C_], .agg [lsv (encI .u8) 1 x0.I_, lsv (encI .u8) 1 x0.F_, .int .i64 x0.W_, .int .i64 x0.C_]]) (v := .bool y86) (tr2 := []) (by kernel_rfl) (by kernel_rfl) (.cons (Le.refl _) (.cons (Le.refl _) .nil)) (exergueref07_Same_ok hy87) (by kernel_rfl) ?_
          refine RJ.seg 2 [1, 2, 4, 41] (L2 := [(1, .ptr 0 0), (2, .bool false), (4, .ptr 1 0), (41, .bool y86)]) (H2 := [.box [lsv (encI .u8) 1 x0.I_, lsv (encI .u8) 1 x0.F_, .int .i64 x0.W_, .int .i64 x0.C_], .box [lsv (encI .u8) 1 y51.1.I_, lsv (encI .u8) 1 y51.1.F_, .int .i64 y51.1.W_, .int .i64 y51.1.C_]]) (by kernel_rfl) ?_
          refine RJ.caseB 41 (b := y86) (by kernel_rfl) (fun hb89 => ?_) (fun hb89 => ?_)
          · have h90 := condT hb89 h88
            refine RJ.seg 2 [2, 4, 41, 42, 43] (L2 := [(2, .bool false), (4, .ptr 1 0), (41, .bool true), (42, .agg [lsv (encI .u8) 1 y51.1.I_, lsv (encI .u8) 1 y51.1.F_, .int .i64 y51.1.W_, .int .i64 y51.1.C_]), (43, .agg [lsv (encI .u8) 1 x0.I_, lsv (encI .u8) 1 x0.F_, .int .i64 x0.W_, .int .i64 x0.C_])]) (H2 := [.box [lsv (encI .u8) 1 x0.I_, lsv (encI .u8) 1 x0.F_, .int .i64 x0.W_, .int .i64 x0.C_], .box [lsv (encI .u8) 1 y51.1.I_, lsv (encI .u8) 1 y51.1.F_, .int .i64 y51.1.W_, .int .i64 y51.1.C_]]) (by kernel_rfl) ?_
            obtain ⟨y92, hy93, h94⟩ := bindS h90
            refine RJ.call0 (d := (some 44)) (f := 17) (args := [.agg [lsv (encI .u8) 1 y51.1.I_, lsv (encI .u8) 1 y51.1.F_, .int .i64 y51.1.W_, .int .i64 y51.1.C_], .agg [lsv (encI .u8) 1 x0.I_, lsv (encI .u8) 1 x0.F_, .int .i64 x0.W_, .int .i64 x0.C_]]) (v := .bool y92) (tr2 := []) (by kernel_rfl) (by kernel_rfl) (.cons (Le.refl _) (.cons (Le.refl _) .nil)) (oper_Same_ok hy93) (by kernel_rfl) ?_
            refine RJ.seg 2 [2, 4, 46] (L2 := [(2, .bool false), (4, .ptr 1 0), (46, .bool y92)]) (H2 := [.box [lsv (encI .u8) 1 x0.I_, lsv (encI .u8) 1 x0.F_, .int .i64 x0.W_, .int .i64 x0.C_], .box [lsv (encI .u8) 1 y51.1.I_, lsv (encI .u8) 1 y51.1.F_, .int .i64 y51.1.W_, .int .i64 y51.1.C_]]) (by kernel_rfl) ?_
            refine RJ.caseB 46 (b := y92) (by kernel_rfl) (fun hb95 => ?_) (fun hb95 => ?_)
            · have h96 := condT hb95 h94
              refine RJ.seg 1 [2, 46, 47] (L2 := [(2, .bool false), (46, .bool true), (47, .agg [lsv (encI .u8) 1 y51.1.I_, lsv (encI .u8) 1 y51.1.F_, .int .i64 y51.1.W_, .int .i64 y51.1.C_])]) (H2 := [.box [lsv (encI .u8) 1 x0.I_, lsv (encI .u8) 1 x0.F_, .int .i64 x0.W_, .int .i64 x0.C_], .box [lsv (encI .u8) 1 y51.1.I_, lsv (encI .u8) 1 y51.1.F_, .int .i64 y51.1.W_, .int .i64 y51.1.C_]]) (by kernel_rfl) ?_
              obtain ⟨y98, hy99, h100⟩ := bindS h96
              refine RJ.call0 (d := (some 48)) (f := 16) (args := [.agg [lsv (encI .u8) 1 y51.1.I_, lsv (encI .u8) 1 y51.1.F_, .int .i64 y51.1.W_, .int .i64 y51.1.C_]]) (v := .bool y98) (tr2 := []) (by kernel_rfl) (by kernel_rfl) (.cons (Le.refl _) .nil) (oper_Right_ok hy99) (by kernel_rfl) ?_
              refine RJ.seg 2 [2] (L2 := [(2, .bool y98)]) (H2 := [.box [lsv (encI .u8) 1 x0.I_, lsv (encI .u8) 1 x0.F_, .int .i64 x0.W_, .int .i64 x0.C_], .box [lsv (encI .u8) 1 y51.1.I_, lsv (encI .u8) 1 y51.1.F_, .int .i64 y51.1.W_, .int .i64 y51.1.C_]]) (by kernel_rfl) ?_
              refine RJ.end (by kernel_rfl) ?_
              obtain rfl := Option.some.inj h100
              refine PJ.wk (Wk.sel (L2 := [(2, .bool y98)]) (H2 := []) 0 (by rw [hFH]; rfl) hFD [] (by kernel_rfl) (by kernel_rfl) (by decide) (by kernel_rfl) (by kernel_rfl) (by kernel_rfl) (by kernel_rfl)) ?_
              exact PJ.cutN [2] (by kernel_rfl) (by kernel_rfl)
            · have h97 := condF hb95 h94
              refine RJ.seg 4 [2] (L2 := [(2, .bool false)]) (H2 := [.box [lsv (encI .u8) 1 x0.I_, lsv (encI .u8) 1 x0.F_, .int .i64 x0.W_, .int .i64 x0.C_], .box [lsv (encI .u8) 1 y51.1.I_, lsv (encI .u8) 1 y51.1.F_, .int .i64 y51.1.W_, .int .i64 y51.1.C_]]) (by kernel_rfl) ?_
              refine RJ.end (by kernel_rfl) ?_
              obtain rfl := Option.some.inj h97
              refine PJ.wk (Wk.sel (L2 := [(2, .bool false)]) (H2 := []) 0 (by rw [hFH]; rfl) hFD [] (by kernel_rfl) (by kernel_rfl) (by decide) (by kernel_rfl) (by kernel_rfl) (by kernel_rfl) (by kernel_rfl)) ?_
              exact PJ.cutN [2] (by kernel_rfl) (by kernel_rfl)
          · have h91 := condF hb89 h88
            refine RJ.seg 9 [2] (L2 := [(2, .bool false)]) (H2 := [.box [lsv (encI .u8) 1 x0.I_, lsv (encI .u8) 1 x0.F_, .int .i64 x0.W_, .int .i64 x0.C_], .box [lsv (encI .u8) 1 y51.1.I_, lsv (encI .u8) 1 y51.1.F_, .int .i64 y51.1.W_, .int .i64 y51.1.C_]]) (by kernel_rfl) ?_
            refine RJ.end (by kernel_rfl) ?_
            obtain rfl := Option.some.inj h91
            refine PJ.wk (Wk.sel (L2 := [(2, .bool false)]) (H2 := []) 0 (by rw [hFH]; rfl) hFD [] (by kernel_rfl) (by kernel_rfl) (by decide) (by kernel_rfl) (by kernel_rfl) (by kernel_rfl) (by kernel_rfl)) ?_
            exact PJ.cutN [2] (by kernel_rfl) (by kernel_rfl)
        · have h85 := condF hb83 h81
          refine RJ.seg 14 [2] (L2 := [(2, .bool false)]) (H2 := [.box [lsv (encI .u8) 1 x0.I_, lsv (encI .u8) 1 x0.F_, .int .i64 x0.W_, .int .i64 x0.C_], .box [lsv (encI .u8) 1 y51.1.I_, lsv (encI .u8) 1 y51.1.F_, .int .i64 y51.1.W_, .int .i64 y51.1.C_]]) (by kernel_rfl) ?_
          refine RJ.end (by kernel_rfl) ?_
          obtain rfl := Option.some.inj h85
          refine PJ.wk (Wk.sel (L2 := [(2, .bool false)]) (H2 := []) 0 (by rw [hFH]; rfl) hFD [] (by kernel_rfl) (by kernel_rfl) (by decide) (by kernel_rfl) (by kernel_rfl) (by kernel_rfl) (by kernel_rfl)) ?_
          exact PJ.cutN [2] (by kernel_rfl) (by kernel_rfl)
      · have h82 := condF hb80 hy77
        refine RJ.seg 18 [2] (L2 := [(2, .bool false)]) (H2 := [.box [lsv (encI .u8) 1 x0.I_, lsv (encI .u8) 1 x0.F_, .int .i64 x0.W_, .int .i64 x0.C_], .box [lsv (encI .u8) 1 y51.1.I_, lsv (encI .u8) 1 y51.1.F_, .int .i64 y51.1.W_, .int .i64 y51.1.C_]]) (by kernel_rfl) ?_
        refine RJ.end (by kernel_rfl) ?_
        obtain rfl := Option.some.inj h82
        refine PJ.wk (Wk.sel (L2 := [(2, .bool false)]) (H2 := []) 0 (by rw [hFH]; rfl) hFD [] (by kernel_rfl) (by kernel_rfl) (by decide) (by kernel_rfl) (by kernel_rfl) (by kernel_rfl) (by kernel_rfl)) ?_
        exact PJ.cutN [2] (by kernel_rfl) (by kernel_rfl)
    · refine K.ret (by kernel_rfl) ?_
      obtain rfl := Option.some.inj h79
      exact K.ret0 (.inr rfl) hFn hFH hFD (by kernel_rfl) (by kernel_rfl) (by kernel_rfl)

end Go.Proofs.Ytddkgejgocahjaa
