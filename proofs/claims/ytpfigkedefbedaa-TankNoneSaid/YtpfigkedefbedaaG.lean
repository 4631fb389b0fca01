/-
  What the functions of this program come to, as functions of natives, each with the proof that it does. No conditions.
-/
import Derived.Test.YtpfigkedefbedaaProg
import Derived.Test.YtpfigkedefbedaaSyT
namespace Go.Proofs.Ytpfigkedefbedaa
open Go Go.Sy Go.RowKit
set_option linter.unusedVariables false
set_option maxRecDepth 100000

structure St23 where
  Fuel_ : Int
  Room_ : Int
  Out_ : List Int
  deriving Inhabited, DecidableEq
def encSt23 (x : St23) : List SV := [.int .i64 x.Fuel_, .int .i64 x.Room_, lsv (encI .i32) 1 x.Out_]
theorem encSt23_len (x : St23) : (encSt23 x).length = 3 := rfl

def tank_New (x0 : Int) (x1 : Int) : Option (St23 × Int) :=
  (Option.bind (Option.bind (bif (decide (x0 < 0)) then (some true) else (some (decide (x1 < 0)))) fun (s24 : Bool) => (bif s24 then (some (.inr ((⟨0, 0, ([] : List Int)⟩ : St23), 1))) else (some (.inl ())))) (joinX fun (s16 : Unit) => (some ((⟨x0, x1, ([] : List Int)⟩ : St23), 0))))
theorem tank_New_ok {x0 : Int} {x1 : Int} {r : St23 × Int} (h : tank_New x0 x1 = some r) : SC Try.prog 14 [.int .i64 x0, .int .i64 x1] [] (.tup [.agg [.int .i64 r.1.Fuel_, .int .i64 r.1.Room_, lsv (encI .i32) 1 r.1.Out_], .int .i64 r.2]) [] := by
  refine K.fn (fn := Try.f14) (by kernel_rfl) (by kernel_rfl) (by kernel_rfl) (by kernel_rfl) (by kernel_rfl) (fun F hFn hFH hFD => ?_)
  unfold tank_New at h
  refine K.seq (by kernel_rfl) ?_
  refine K.region (by kernel_rfl) ?_
  refine RJ.seg 2 [0, 1, 4, 5] (L2 := [(0, .int .i64 x0), (1, .int .i64 x1), (4, .ptr 0 0), (5, .int .i64 0)]) (H2 := [.box [.int .i64 0, .int .i64 0, .nl]]) (by kernel_rfl) ?_
  refine RJ.end (by kernel_rfl) ?_
  refine PJ.next ?_
  obtain ⟨y17, hy18, h19⟩ := bindS h
  refine K.cutX (by kernel_rfl) (fun (s16 : Unit) => ([(0, .int .i64 x0), (1, .int .i64 x1), (4, .ptr 0 0), (5, .int .i64 0)], [.box [.int .i64 0, .int .i64 0, .nl]])) y17 ?_ (fun s16 hs => ?_)
  · obtain ⟨s24, hy26, h28⟩ := bindS hy18
    refine K.cutN (by kernel_rfl) (fun (s24 : Bool) => ([(0, .int .i64 x0), (1, .int .i64 x1), (4, .ptr 0 0), (5, .int .i64 0), (11, .bool s24)], [.box [.int .i64 0, .int .i64 0, .nl]])) s24 ?_ ?_
    · refine K.region (by kernel_rfl) ?_
      refine RJ.seg 3 [0, 1, 4, 5, 8] (L2 := [(0, .int .i64 x0), (1, .int .i64 x1), (4, .ptr 0 0), (5, .int .i64 0), (8, .bool (decide (x0 < 0)))]) (H2 := [.box [.int .i64 0, .int .i64 0, .nl]]) (by kernel_rfl) ?_
      refine RJ.caseB 8 (b := (decide (x0 < 0))) (by kernel_rfl) (fun hb29 => ?_) (fun hb29 => ?_)
      · have h30 := condT hb29 hy26
        refine RJ.seg 3 [0, 1, 4, 5, 11] (L2 := [(0, .int .i64 x0), (1, .int .i64 x1), (4, .ptr 0 0), (5, .int .i64 0), (11, .bool true)]) (H2 := [.box [.int .i64 0, .int .i64 0, .nl]]) (by kernel_rfl) ?_
        refine RJ.end (by kernel_rfl) ?_
        obtain rfl := Option.some.inj h30
        exact PJ.cutN [0, 1, 4, 5, 11] (by kernel_rfl) (by kernel_rfl)
      · have h31 := condF hb29 hy26
        refine RJ.seg 3 [0, 1, 4, 5, 11] (L2 := [(0, .int .i64 x0), (1, .int .i64 x1), (4, .ptr 0 0), (5, .int .i64 0), (11, .bool (decide (x1 < 0)))]) (H2 := [.box [.int .i64 0, .int .i64 0, .nl]]) (by kernel_rfl) ?_
        refine RJ.end (by kernel_rfl) ?_
        obtain rfl := Option.some.inj h31
        exact PJ.cutN [0, 1, 4, 5, 11] (by kernel_rfl) (by kernel_rfl)
    · refine J.caseB 11 (b := s24) (by kernel_rfl) (fun hb32 => ?_) (fun hb32 => ?_)
      · have h33 := condT hb32 h28
        refine K.condT (by kernel_rfl) ?_
        refine K.seq (by kernel_rfl) ?_
        refine K.region (by kernel_rfl) ?_
        refine RJ.seg 3 [0, 1, 4, 5] (L2 := [(0, .int .i64 x0), (1, .int .i64 x1), (4, .ptr 0 0), (5, .int .i64 1)]) (H2 := [.box [.int .i64 0, .int .i64 0, .nl]]) (by kernel_rfl) ?_
        refine RJ.end (by kernel_rfl) ?_
        refine PJ.next ?_
        refine K.ret (by kernel_rfl) ?_
        obtain rfl := Option.some.inj h33
        have h35 := joinX_inr h19
        refine PJ.cutXr (fun e => nomatch e) ?_
        obtain rfl := Option.some.inj h35
        refine PJ.res (v1 := .tup [.agg [.int .i64 0, .int .i64 0, .nl], .int .i64 1]) (Le.tup (.cons (Le.agg (.cons (Le.refl _) (.cons (Le.refl _) (.cons (Le.nl _) .nil)))) (.cons (Le.refl _) .nil))) ?_
        exact K.ret0 (.inr rfl) hFn hFH hFD (by kernel_rfl) (by kernel_rfl) (by kernel_rfl)
      · have h34 := condF hb32 h28
        refine K.condF (by kernel_rfl) ?_
        refine K.skip (by kernel_rfl) ?_
        obtain rfl := Option.some.inj h34
        exact PJ.cutXl [0, 1, 4, 5] (by kernel_rfl) (by kernel_rfl)
  · subst hs
    have h20 := joinX_inl h19
    refine K.seq (by kernel_rfl) ?_
    refine K.region (by kernel_rfl) ?_
    refine RJ.seg 5 [4, 5] (L2 := [(4, .ptr 0 0), (5, .int .i64 0)]) (H2 := [.box [.int .i64 x0, .int .i64 x1, .nl]]) (by kernel_rfl) ?_
    refine RJ.end (by kernel_rfl) ?_
    refine PJ.next ?_
    refine K.ret (by kernel_rfl) ?_
    obtain rfl := Option.some.inj h20
    refine PJ.res (v1 := .tup [.agg [.int .i64 x0, .int .i64 x1, .nl], .int .i64 0]) (Le.tup (.cons (Le.agg (.cons (Le.refl _) (.cons (Le.refl _) (.cons (Le.nl _) .nil)))) (.cons (Le.refl _) .nil))) ?_
    exact K.ret0 (.inr rfl) hFn hFH hFD (by kernel_rfl) (by kernel_rfl) (by kernel_rfl)

def tank_own (x0 : St23) (x1 : Int) : Option (St23) :=
  (bif mk (x0.Out_.length : Int) ((IntKind.wrap .i64 ((x0.Out_.length : Int) + x1))) then (some (⟨x0.Fuel_, x0.Room_, (over (rep (x0.Out_.length : Int) (0 : Int)) x0.Out_)⟩ : St23)) else none)
theorem tank_own_ok_o {x0 : St23} {x1 : Int} {r : St23} (h : tank_own x0 x1 = some r) : SC Try.prog 16 [.agg [.int .i64 x0.Fuel_, .int .i64 x0.Room_, lsv (encI .i32) 1 x0.Out_], .int .i64 x1] [] (.agg [.int .i64 r.Fuel_, .int .i64 r.Room_, .vc 0]) [vecL (encI .i32) 1 21 r.Out_] := by
  refine K.fn (fn := Try.f16) (by kernel_rfl) (by kernel_rfl) (by kernel_rfl) (by kernel_rfl) (by kernel_rfl) (fun F hFn hFH hFD => ?_)
  unfold tank_own at h
  refine K.seq (by kernel_rfl) ?_
  refine K.region (by kernel_rfl) ?_
  refine RJ.seg 2 [1, 2, 4] (L2 := [(1, .int .i64 x1), (2, .ptr 0 0), (4, .ptr 1 0)]) (H2 := [.box [.int .i64 x0.Fuel_, .int .i64 x0.Room_, lsv (encI .i32) 1 x0.Out_], .box [.int .i64 0, .int .i64 0, .nl]]) (by kernel_rfl) ?_
  refine RJ.end (by kernel_rfl) ?_
  refine PJ.next ?_
  refine K.seq (by kernel_rfl) ?_
  refine K.region (by kernel_rfl) ?_
  refine RJ.seg 8 [2, 4, 8, 13] (L2 := [(2, .ptr 0 0), (4, .ptr 1 0), (8, .int .i64 (x0.Out_.length : Int)), (13, .int .i64 ((IntKind.wrap .i64 ((x0.Out_.length : Int) + x1))))]) (H2 := [.box [.int .i64 x0.Fuel_, .int .i64 x0.Room_, lsv (encI .i32) 1 x0.Out_], .box [.int .i64 0, .int .i64 0, .nl]]) (by kernel_rfl) ?_
  obtain ⟨hm, h1⟩ := asrt h
  refine RJ.rel (d := (some 14)) (ef := ⟨.vc 2, [], [(2, .vec ((x0.Out_.length : Int) : Int).toNat 1 21 (List.replicate ((x0.Out_.length : Int) : Int).toNat ((encI .i32) (0 : Int))).flatten)]⟩) (ef' := ⟨.vc 2, [], [(2, vecL (encI .i32) 1 21 (rep (x0.Out_.length : Int) (0 : Int)))]⟩) (c := mk (x0.Out_.length : Int) ((IntKind.wrap .i64 ((x0.Out_.length : Int) + x1)))) (tr2 := []) (H2 := [.box [.int .i64 x0.Fuel_, .int .i64 x0.Room_, lsv (encI .i32) 1 x0.Out_], .box [.int .i64 0, .int .i64 0, .nl], vecL (encI .i32) 1 21 (rep (x0.Out_.length : Int) (0 : Int))]) (by kernel_rfl) hm (fun hc => N.make) (by kernel_rfl) ?_
  refine RJ.seg 1 [2, 4, 5] (L2 := [(2, .ptr 0 0), (4, .ptr 1 0), (5, .vc 2)]) (H2 := [.box [.int .i64 x0.Fuel_, .int .i64 x0.Room_, lsv (encI .i32) 1 x0.Out_], .box [.int .i64 0, .int .i64 0, .nl], vecL (encI .i32) 1 21 (rep (x0.Out_.length : Int) (0 : Int))]) (by kernel_rfl) ?_
  refine RJ.end (by kernel_rfl) ?_
  refine PJ.next ?_
  refine K.seq (by kernel_rfl) ?_
  refine K.region (by kernel_rfl) ?_
  refine RJ.seg 3 [2, 4, 5, 15, 17] (L2 := [(2, .ptr 0 0), (4, .ptr 1 0), (5, .vc 2), (15, .vc 2), (17, lsv (encI .i32) 1 x0.Out_)]) (H2 := [.box [.int .i64 x0.Fuel_, .int .i64 x0.Room_, lsv (encI .i32) 1 x0.Out_], .box [.int .i64 0, .int .i64 0, .nl], vecL (encI .i32) 1 21 (rep (x0.Out_.length : Int) (0 : Int))]) (by kernel_rfl) ?_
  refine RJ.rel (d := (some 18)) (ef := ⟨.int .i64 (((min x0.Out_.length (rep (x0.Out_.length : Int) (0 : Int)).length : Nat) : Int)), [2], [(2, .vec (rep (x0.Out_.length : Int) (0 : Int)).length 1 21 (splice ((rep (x0.Out_.length : Int) (0 : Int)).flatMap (encI .i32)) 0 ((x0.Out_.flatMap (encI .i32)).take (min x0.Out_.length (rep (x0.Out_.length : Int) (0 : Int)).length * 1))))]⟩) (ef' := ⟨.int .i64 (((min x0.Out_.length (rep (x0.Out_.length : Int) (0 : Int)).length : Nat) : Int)), [2], [(2, vecL (encI .i32) 1 21 (over (rep (x0.Out_.length : Int) (0 : Int)) x0.Out_))]⟩) (c := true) (tr2 := []) (H2 := [.box [.int .i64 x0.Fuel_, .int .i64 x0.Room_, lsv (encI .i32) 1 x0.Out_], .box [.int .i64 0, .int .i64 0, .nl], vecL (encI .i32) 1 21 ((over (rep (x0.Out_.length : Int) (0 : Int)) x0.Out_))]) (by kernel_rfl) rfl (fun hc => N.copy (encI_len .i32)) (by kernel_rfl) ?_
  refine RJ.end (by kernel_rfl) ?_
  refine PJ.next ?_
  refine K.seq (by kernel_rfl) ?_
  refine K.region (by kernel_rfl) ?_
  refine RJ.seg 3 [2, 4] (L2 := [(2, .ptr 0 0), (4, .ptr 1 0)]) (H2 := [.box [.int .i64 x0.Fuel_, .int .i64 x0.Room_, .vc 2], .box [.int .i64 0, .int .i64 0, .nl], vecL (encI .i32) 1 21 ((over (rep (x0.Out_.length : Int) (0 : Int)) x0.Out_))]) (by kernel_rfl) ?_
  refine RJ.end (by kernel_rfl) ?_
  refine PJ.next ?_
  refine K.seq (by kernel_rfl) ?_
  refine K.region (by kernel_rfl) ?_
  refine RJ.seg 2 [4] (L2 := [(4, .ptr 1 0)]) (H2 := [.box [.int .i64 x0.Fuel_, .int .i64 x0.Room_, .vc 2], .box [.int .i64 x0.Fuel_, .int .i64 x0.Room_, .vc 2], vecL (encI .i32) 1 21 ((over (rep (x0.Out_.length : Int) (0 : Int)) x0.Out_))]) (by kernel_rfl) ?_
  refine RJ.end (by kernel_rfl) ?_
  refine PJ.next ?_
  refine K.ret (by kernel_rfl) ?_
  obtain rfl := Option.some.inj h1
  exact K.retV (H0 := []) [2] (.inr rfl) hFn hFH hFD (by kernel_rfl) (v1 := .agg [.int .i64 x0.Fuel_, .int .i64 x0.Room_, .vc 2]) (by kernel_rfl) (by kernel_rfl) (by kernel_rfl) (by decide) (by kernel_rfl) (by kernel_rfl) (by kernel_rfl) (by kernel_rfl) (by kernel_rfl)

def tank_burn (x0 : St23) (x1 : Int) : Option (St23 × Int) :=
  (bif (decide (x0.Fuel_ < x1)) then (some ((⟨0, x0.Room_, x0.Out_⟩ : St23), 4)) else (some ((⟨(IntKind.wrap .i64 (x0.Fuel_ - x1)), x0.Room_, x0.Out_⟩ : St23), 0)))
theorem tank_burn_ok_0o {x0 : St23} {x1 : Int} {r : St23 × Int} (h : tank_burn x0 x1 = some r) : SC Try.prog 17 [.agg [.int .i64 x0.Fuel_, .int .i64 x0.Room_, .vc 0], .int .i64 x1] [vecL (encI .i32) 1 21 x0.Out_] (.tup [.agg [.int .i64 r.1.Fuel_, .int .i64 r.1.Room_, .vc 0], .int .i64 r.2]) [vecL (encI .i32) 1 21 r.1.Out_] := by
  refine K.fn (fn := Try.f17) (by kernel_rfl) (by kernel_rfl) (by kernel_rfl) (by kernel_rfl) (by kernel_rfl) (fun F hFn hFH hFD => ?_)
  unfold tank_burn at h
  refine K.seq (by kernel_rfl) ?_
  refine K.region (by kernel_rfl) ?_
  refine RJ.seg 3 [1, 2, 4, 5] (L2 := [(1, .int .i64 x1), (2, .ptr 1 0), (4, .ptr 2 0), (5, .int .i64 0)]) (H2 := [vecL (encI .i32) 1 21 x0.Out_, .box [.int .i64 x0.Fuel_, .int .i64 x0.Room_, .vc 0], .box [.int .i64 0, .int .i64 0, .nl]]) (by kernel_rfl) ?_
  refine RJ.end (by kernel_rfl) ?_
  refine PJ.next ?_
  refine K.seq (by kernel_rfl) ?_
  refine K.seq (by kernel_rfl) ?_
  refine K.region (by kernel_rfl) ?_
  refine RJ.seg 4 [1, 2, 4, 5, 9] (L2 := [(1, .int .i64 x1), (2, .ptr 1 0), (4, .ptr 2 0), (5, .int .i64 0), (9, .bool (decide (x0.Fuel_ < x1)))]) (H2 := [vecL (encI .i32) 1 21 x0.Out_, .box [.int .i64 x0.Fuel_, .int .i64 x0.Room_, .vc 0], .box [.int .i64 0, .int .i64 0, .nl]]) (by kernel_rfl) ?_
  refine RJ.end (by kernel_rfl) ?_
  refine PJ.next ?_
  refine J.caseB 9 (b := (decide (x0.Fuel_ < x1))) (by kernel_rfl) (fun hb1 => ?_) (fun hb1 => ?_)
  · have h2 := condT hb1 h
    refine K.condT (by kernel_rfl) ?_
    refine K.seq (by kernel_rfl) ?_
    refine K.region (by kernel_rfl) ?_
    refine RJ.seg 2 [1, 2, 4, 5] (L2 := [(1, .int .i64 x1), (2, .ptr 1 0), (4, .ptr 2 0), (5, .int .i64 0)]) (H2 := [vecL (encI .i32) 1 21 x0.Out_, .box [.int .i64 0, .int .i64 x0.Room_, .vc 0], .box [.int .i64 0, .int .i64 0, .nl]]) (by kernel_rfl) ?_
    refine RJ.end (by kernel_rfl) ?_
    refine PJ.next ?_
    refine K.seq (by kernel_rfl) ?_
    refine K.region (by kernel_rfl) ?_
    refine RJ.seg 3 [1, 2, 4, 5] (L2 := [(1, .int .i64 x1), (2, .ptr 1 0), (4, .ptr 2 0), (5, .int .i64 4)]) (H2 := [vecL (encI .i32) 1 21 x0.Out_, .box [.int .i64 0, .int .i64 x0.Room_, .vc 0], .box [.int .i64 0, .int .i64 x0.Room_, .vc 0]]) (by kernel_rfl) ?_
    refine RJ.end (by kernel_rfl) ?_
    refine PJ.next ?_
    refine K.ret (by kernel_rfl) ?_
    refine PJ.passRet ?_
    obtain rfl := Option.some.inj h2
    exact K.retV (H0 := [vecL (encI .i32) 1 21 x0.Out_]) [0] (.inr rfl) hFn hFH hFD (by kernel_rfl) (v1 := .tup [.agg [.int .i64 0, .int .i64 x0.Room_, .vc 0], .int .i64 4]) (by kernel_rfl) (by kernel_rfl) (by kernel_rfl) (by decide) (by kernel_rfl) (by kernel_rfl) (by kernel_rfl) (by kernel_rfl) (by kernel_rfl)
  · have h3 := condF hb1 h
    refine K.condF (by kernel_rfl) ?_
    refine K.skip (by kernel_rfl) ?_
    refine PJ.next ?_
    refine K.seq (by kernel_rfl) ?_
    refine K.region (by kernel_rfl) ?_
    refine RJ.seg 6 [2, 4, 5] (L2 := [(2, .ptr 1 0), (4, .ptr 2 0), (5, .int .i64 0)]) (H2 := [vecL (encI .i32) 1 21 x0.Out_, .box [.int .i64 (IntKind.wrap .i64 (x0.Fuel_ - x1)), .int .i64 x0.Room_, .vc 0], .box [.int .i64 0, .int .i64 0, .nl]]) (by kernel_rfl) ?_
    refine RJ.end (by kernel_rfl) ?_
    refine PJ.next ?_
    refine K.seq (by kernel_rfl) ?_
    refine K.region (by kernel_rfl) ?_
    refine RJ.seg 3 [4, 5] (L2 := [(4, .ptr 2 0), (5, .int .i64 0)]) (H2 := [vecL (encI .i32) 1 21 x0.Out_, .box [.int .i64 (IntKind.wrap .i64 (x0.Fuel_ - x1)), .int .i64 x0.Room_, .vc 0], .box [.int .i64 (IntKind.wrap .i64 (x0.Fuel_ - x1)), .int .i64 x0.Room_, .vc 0]]) (by kernel_rfl) ?_
    refine RJ.end (by kernel_rfl) ?_
    refine PJ.next ?_
    refine K.ret (by kernel_rfl) ?_
    obtain rfl := Option.some.inj h3
    exact K.retV (H0 := [vecL (encI .i32) 1 21 x0.Out_]) [0] (.inr rfl) hFn hFH hFD (by kernel_rfl) (v1 := .tup [.agg [.int .i64 (IntKind.wrap .i64 (x0.Fuel_ - x1)), .int .i64 x0.Room_, .vc 0], .int .i64 0]) (by kernel_rfl) (by kernel_rfl) (by kernel_rfl) (by decide) (by kernel_rfl) (by kernel_rfl) (by kernel_rfl) (by kernel_rfl) (by kernel_rfl)

def tank_Put (x0 : St23) (x1 : List Int) : Option (St23 × Int) :=
  (Option.bind (tank_own x0 (x1.length : Int)) fun y1 => (Option.bind (loopN (fun (s78 : Int × Int × Int × (List Int)) => (bif (decide (s78.1 < (x1.length : Int))) then (bif inR s78.1 x1.length then (Option.bind (tank_burn (⟨s78.2.1, s78.2.2.1, s78.2.2.2⟩ : St23) 1) fun y129 => (bif (decide (¬ y129.2 = 0)) then (some (.inr (.inr (y129.1, y129.2)))) else (bif (decide (y129.1.Room_ ≤ 0)) then (some (.inr (.inr (y129.1, 5)))) else (bif room (y129.1.Out_.length + ([(nth x1 s78.1)] : List Int).length) then (some (.inl ((IntKind.wrap .i64 (s78.1 + 1)), y129.1.Fuel_, (IntKind.wrap .i64 (y129.1.Room_ - 1)), (y129.1.Out_ ++ ([(nth x1 s78.1)] : List Int))))) else none)))) else none) else (some (.inr (.inl (s78.2.1, s78.2.2.1, s78.2.2.2)))))) big (0, y1.Fuel_, y1.Room_, y1.Out_)) (joinX fun (s73 : Int × Int × (List Int)) => (some ((⟨s73.1, s73.2.1, s73.2.2⟩ : St23), 0)))))
theorem tank_Put_ok {x0 : St23} {x1 : List Int} {r : St23 × Int} (h : tank_Put x0 x1 = some r) : SC Try.prog 10 [.agg [.int .i64 x0.Fuel_, .int .i64 x0.Room_, lsv (encI .i32) 1 x0.Out_], lsv (encI .i32) 1 x1] [] (.tup [.agg [.int .i64 r.1.Fuel_, .int .i64 r.1.Room_, lsv (encI .i32) 1 r.1.Out_], .int .i64 r.2]) [] := by
  refine K.fn (fn := Try.f10) (by kernel_rfl) (by kernel_rfl) (by kernel_rfl) (by kernel_rfl) (by kernel_rfl) (fun F hFn hFH hFD => ?_)
  unfold tank_Put at h
  refine K.seq (by kernel_rfl) ?_
  refine K.region (by kernel_rfl) ?_
  refine RJ.seg 3 [1, 2, 4, 5] (L2 := [(1, lsv (encI .i32) 1 x1), (2, .ptr 0 0), (4, .ptr 1 0), (5, .int .i64 0)]) (H2 := [.box [.int .i64 x0.Fuel_, .int .i64 x0.Room_, lsv (encI .i32) 1 x0.Out_], .box [.int .i64 0, .int .i64 0, .nl]]) (by kernel_rfl) ?_
  refine RJ.end (by kernel_rfl) ?_
  refine PJ.next ?_
  refine K.seq (by kernel_rfl) ?_
  refine K.region (by kernel_rfl) ?_
  refine RJ.seg 3 [1, 2, 4, 5, 9, 11] (L2 := [(1, lsv (encI .i32) 1 x1), (2, .ptr 0 0), (4, .ptr 1 0), (5, .int .i64 0), (9, .agg [.int .i64 x0.Fuel_, .int .i64 x0.Room_, lsv (encI .i32) 1 x0.Out_]), (11, .int .i64 (x1.length : Int))]) (H2 := [.box [.int .i64 x0.Fuel_, .int .i64 x0.Room_, lsv (encI .i32) 1 x0.Out_], .box [.int .i64 0, .int .i64 0, .nl]]) (by kernel_rfl) ?_
  obtain ⟨y1, hy2, h3⟩ := bindS h
  refine RJ.callG (d := (some 12)) (f := 16) (args := [.agg [.int .i64 x0.Fuel_, .int .i64 x0.Room_, lsv (encI .i32) 1 x0.Out_], .int .i64 (x1.length : Int)]) (args0 := [.agg [.int .i64 x0.Fuel_, .int .i64 x0.Room_, lsv (encI .i32) 1 x0.Out_], .int .i64 (x1.length : Int)]) (v0 := .agg [.int .i64 y1.Fuel_, .int .i64 y1.Room_, .vc 0]) (v := .agg [.int .i64 y1.Fuel_, .int .i64 y1.Room_, .vc 2]) (tr2 := []) (H0 := []) (H0' := [vecL (encI .i32) 1 21 y1.Out_]) (H2 := [.box [.int .i64 x0.Fuel_, .int .i64 x0.Room_, lsv (encI .i32) 1 x0.Out_], .box [.int .i64 0, .int .i64 0, .nl], vecL (encI .i32) 1 21 y1.Out_]) [] (by kernel_rfl) (by kernel_rfl) (by kernel_rfl) (by kernel_rfl) (by decide) (by kernel_rfl) (by kernel_rfl) (by kernel_rfl) (.cons (Le.refl _) (.cons (Le.refl _) .nil)) (tank_own_ok_o hy2) (by kernel_rfl) (by kernel_rfl) (by kernel_rfl) ?_
  refine RJ.seg 1 [1, 2, 4, 5] (L2 := [(1, lsv (encI .i32) 1 x1), (2, .ptr 0 0), (4, .ptr 1 0), (5, .int .i64 0)]) (H2 := [.box [.int .i64 y1.Fuel_, .int .i64 y1.Room_, .vc 2], .box [.int .i64 0, .int .i64 0, .nl], vecL (encI .i32) 1 21 y1.Out_]) (by kernel_rfl) ?_
  refine RJ.end (by kernel_rfl) ?_
  refine PJ.next ?_
  obtain ⟨y74, hy75, h76⟩ := bindS h3
  refine K.cutX (by kernel_rfl) (fun (s73 : Int × Int × (List Int)) => ([(2, .ptr 0 0), (4, .ptr 2 0), (5, .int .i64 0)], [.box [.int .i64 s73.1, .int .i64 s73.2.1, .vc 1], vecL (encI .i32) 1 21 s73.2.2, .box [.int .i64 0, .int .i64 0, .nl]])) y74 ?_ (fun s73 hs => ?_)
  · refine K.seq (by kernel_rfl) ?_
    refine K.region (by kernel_rfl) ?_
    refine RJ.seg 3 [2, 4, 5, 13, 14, 15] (L2 := [(2, .ptr 0 0), (4, .ptr 1 0), (5, .int .i64 0), (13, lsv (encI .i32) 1 x1), (14, .int .i64 (x1.length : Int)), (15, .int .i64 0)]) (H2 := [.box [.int .i64 y1.Fuel_, .int .i64 y1.Room_, .vc 2], .box [.int .i64 0, .int .i64 0, .nl], vecL (encI .i32) 1 21 y1.Out_]) (by kernel_rfl) ?_
    refine RJ.end (by kernel_rfl) ?_
    refine PJ.next ?_
    refine K.block 0 (by kernel_rfl) ?_
    refine J.wk (Wk.sel (L2 := [(2, .ptr 0 0), (4, .ptr 2 0), (5, .int .i64 0), (13, lsv (encI .i32) 1 x1), (14, .int .i64 (x1.length : Int)), (15, .int .i64 0)]) (H2 := [.box [.int .i64 y1.Fuel_, .int .i64 y1.Room_, .vc 1], vecL (encI .i32) 1 21 y1.Out_, .box [.int .i64 0, .int .i64 0, .nl]]) 0 (by rw [hFH]; rfl) hFD [0, 2, 1] (by kernel_rfl) (by kernel_rfl) (by decide) (by kernel_rfl) (by kernel_rfl) (by kernel_rfl) (by kernel_rfl)) ?_
    refine K.loop (by kernel_rfl) (fun (s78 : Int × Int × Int × (List Int)) => ([(2, .ptr 0 0), (4, .ptr 2 0), (5, .int .i64 0), (13, lsv (encI .i32) 1 x1), (14, .int .i64 (x1.length : Int)), (15, .int .i64 s78.1)], [.box [.int .i64 s78.2.1, .int .i64 s78.2.2.1, .vc 1], vecL (encI .i32) 1 21 s78.2.2.2, .box [.int .i64 0, .int .i64 0, .nl]])) hy75 [2, 4, 5, 13, 14, 15] (by kernel_rfl) (by kernel_rfl) (fun s78 x124 hs123 => ?_)
    refine K.seq (by kernel_rfl) ?_
    refine K.region (by kernel_rfl) ?_
    refine RJ.seg 1 [2, 4, 5, 13, 14, 15, 16] (L2 := [(2, .ptr 0 0), (4, .ptr 2 0), (5, .int .i64 0), (13, lsv (encI .i32) 1 x1), (14, .int .i64 (x1.length : Int)), (15, .int .i64 s78.1), (16, .bool ((decide (s78.1 < (x1.length : Int)))))]) (H2 := [.box [.int .i64 s78.2.1, .int .i64 s78.2.2.1, .vc 1], vecL (encI .i32) 1 21 s78.2.2.2, .box [.int .i64 0, .int .i64 0, .nl]]) (by kernel_rfl) ?_
    refine RJ.end (by kernel_rfl) ?_
    refine PJ.next ?_
    refine K.seq (by kernel_rfl) ?_
    refine J.caseB 16 (b := (decide (s78.1 < (x1.length : Int)))) (by kernel_rfl) (fun hb125 => ?_) (fun hb125 => ?_)
    · have h126 := condT hb125 hs123
      refine K.condT (by kernel_rfl) ?_
      refine K.skip (by kernel_rfl) ?_
      refine PJ.next ?_
      refine K.seq (by kernel_rfl) ?_
      refine K.block 1 (by kernel_rfl) ?_
      refine K.seq (by kernel_rfl) ?_
      refine K.region (by kernel_rfl) ?_
      obtain ⟨hm, h128⟩ := asrt h126
      refine RJ.rel (d := (some 17)) (ef := ⟨.ep (((x1.flatMap (encI .i32)).drop ((s78.1 : Int).toNat * 1)).take 1), [], []⟩) (ef' := ⟨.ep ((encI .i32) (nth x1 s78.1)), [], []⟩) (c := inR s78.1 x1.length) (tr2 := []) (H2 := [.box [.int .i64 s78.2.1, .int .i64 s78.2.2.1, .vc 1], vecL (encI .i32) 1 21 s78.2.2.2, .box [.int .i64 0, .int .i64 0, .nl]]) (by kernel_rfl) hm (fun hc => N.idx (encI_len .i32) hc) (by kernel_rfl) ?_
      refine RJ.seg 2 [2, 4, 5, 7, 13, 14, 15] (L2 := [(2, .ptr 0 0), (4, .ptr 2 0), (5, .int .i64 0), (7, .int .i32 (nth x1 s78.1)), (13, lsv (encI .i32) 1 x1), (14, .int .i64 (x1.length : Int)), (15, .int .i64 s78.1)]) (H2 := [.box [.int .i64 s78.2.1, .int .i64 s78.2.2.1, .vc 1], vecL (encI .i32) 1 21 s78.2.2.2, .box [.int .i64 0, .int .i64 0, .nl]]) (by kernel_rfl) ?_
      refine RJ.end (by kernel_rfl) ?_
      refine PJ.next ?_
      refine K.seq (by kernel_rfl) ?_
      refine K.region (by kernel_rfl) ?_
      refine RJ.seg 1 [2, 4, 5, 7, 8, 13, 14, 15] (L2 := [(2, .ptr 0 0), (4, .ptr 2 0), (5, .int .i64 0), (7, .int .i32 (nth x1 s78.1)), (8, .int .i64 0), (13, lsv (encI .i32) 1 x1), (14, .int .i64 (x1.length : Int)), (15, .int .i64 s78.1)]) (H2 := [.box [.int .i64 s78.2.1, .int .i64 s78.2.2.1, .vc 1], vecL (encI .i32) 1 21 s78.2.2.2, .box [.int .i64 0, .int .i64 0, .nl]]) (by kernel_rfl) ?_
      refine RJ.end (by kernel_rfl) ?_
      refine PJ.next ?_
      refine K.seq (by kernel_rfl) ?_
      refine K.seq (by kernel_rfl) ?_
      refine K.region (by kernel_rfl) ?_
      refine RJ.seg 1 [2, 4, 5, 7, 8, 13, 14, 15, 20] (L2 := [(2, .ptr 0 0), (4, .ptr 2 0), (5, .int .i64 0), (7, .int .i32 (nth x1 s78.1)), (8, .int .i64 0), (13, lsv (encI .i32) 1 x1), (14, .int .i64 (x1.length : Int)), (15, .int .i64 s78.1), (20, .agg [.int .i64 s78.2.1, .int .i64 s78.2.2.1, .vc 1])]) (H2 := [.box [.int .i64 s78.2.1, .int .i64 s78.2.2.1, .vc 1], vecL (encI .i32) 1 21 s78.2.2.2, .box [.int .i64 0, .int .i64 0, .nl]]) (by kernel_rfl) ?_
      obtain ⟨y129, hy130, h131⟩ := bindS h128
      refine RJ.callG (d := (some 21)) (f := 17) (args := [.agg [.int .i64 s78.2.1, .int .i64 s78.2.2.1, .vc 1], .int .i64 1]) (args0 := [.agg [.int .i64 s78.2.1, .int .i64 s78.2.2.1, .vc 0], .int .i64 1]) (v0 := .tup [.agg [.int .i64 y129.1.Fuel_, .int .i64 y129.1.Room_, .vc 0], .int .i64 y129.2]) (v := .tup [.agg [.int .i64 y129.1.Fuel_, .int .i64 y129.1.Room_, .vc 1], .int .i64 y129.2]) (tr2 := []) (H0 := [vecL (encI .i32) 1 21 s78.2.2.2]) (H0' := [vecL (encI .i32) 1 21 y129.1.Out_]) (H2 := [.box [.int .i64 s78.2.1, .int .i64 s78.2.2.1, .vc 1], vecL (encI .i32) 1 21 y129.1.Out_, .box [.int .i64 0, .int .i64 0, .nl]]) [1] (by kernel_rfl) (by kernel_rfl) (by kernel_rfl) (by kernel_rfl) (by decide) (by kernel_rfl) (by kernel_rfl) (by kernel_rfl) (.cons (Le.refl _) (.cons (Le.refl _) .nil)) (tank_burn_ok_0o hy130) (by kernel_rfl) (by kernel_rfl) (by kernel_rfl) ?_
      refine RJ.seg 5 [2, 4, 5, 7, 8, 13, 14, 15] (L2 := [(2, .ptr 0 0), (4, .ptr 2 0), (5, .int .i64 0), (7, .int .i32 (nth x1 s78.1)), (8, .int .i64 y129.2), (13, lsv (encI .i32) 1 x1), (14, .int .i64 (x1.length : Int)), (15, .int .i64 s78.1)]) (H2 := [.box [.int .i64 y129.1.Fuel_, .int .i64 y129.1.Room_, .vc 1], vecL (encI .i32) 1 21 y129.1.Out_, .box [.int .i64 0, .int .i64 0, .nl]]) (by kernel_rfl) ?_
      refine RJ.end (by kernel_rfl) ?_
      refine PJ.next ?_
      refine K.seq (by kernel_rfl) ?_
      refine K.region (by kernel_rfl) ?_
      refine RJ.seg 2 [2, 4, 5, 7, 8, 13, 14, 15, 25] (L2 := [(2, .ptr 0 0), (4, .ptr 2 0), (5, .int .i64 0), (7, .int .i32 (nth x1 s78.1)), (8, .int .i64 y129.2), (13, lsv (encI .i32) 1 x1), (14, .int .i64 (x1.length : Int)), (15, .int .i64 s78.1), (25, .bool (decide (¬ y129.2 = 0)))]) (H2 := [.box [.int .i64 y129.1.Fuel_, .int .i64 y129.1.Room_, .vc 1], vecL (encI .i32) 1 21 y129.1.Out_, .box [.int .i64 0, .int .i64 0, .nl]]) (by kernel_rfl) ?_
      refine RJ.end (by kernel_rfl) ?_
      refine PJ.next ?_
      refine J.caseB 25 (b := (decide (¬ y129.2 = 0))) (by kernel_rfl) (fun hb132 => ?_) (fun hb132 => ?_)
      · have h133 := condT hb132 h131
        refine K.condT (by kernel_rfl) ?_
        refine K.seq (by kernel_rfl) ?_
        refine K.region (by kernel_rfl) ?_
        refine RJ.seg 4 [2, 4, 5, 7, 13, 14, 15] (L2 := [(2, .ptr 0 0), (4, .ptr 2 0), (5, .int .i64 y129.2), (7, .int .i32 (nth x1 s78.1)), (13, lsv (encI .i32) 1 x1), (14, .int .i64 (x1.length : Int)), (15, .int .i64 s78.1)]) (H2 := [.box [.int .i64 y129.1.Fuel_, .int .i64 y129.1.Room_, .vc 1], vecL (encI .i32) 1 21 y129.1.Out_, .box [.int .i64 y129.1.Fuel_, .int .i64 y129.1.Room_, .vc 1]]) (by kernel_rfl) ?_
        refine RJ.end (by kernel_rfl) ?_
        refine PJ.next ?_
        refine K.ret (by kernel_rfl) ?_
        refine PJ.passRet ?_
        refine PJ.blockRet ?_
        refine PJ.passRet ?_
        obtain rfl := Option.some.inj h133
        refine PJ.loopOut (fun e => nomatch e) (fun he137 => ?_)
        have h135 := congrArg some he137
        refine PJ.blockRet ?_
        obtain rfl := Option.some.inj h135
        have h136 := joinX_inr h76
        refine PJ.cutXr (fun e => nomatch e) ?_
        obtain rfl := Option.some.inj h136
        refine PJ.wk (Wk.freeze 1 (n := y129.1.Out_.length) (k := 1) (e := 21) (cs := y129.1.Out_.flatMap (encI .i32)) (by kernel_rfl)) ?_
        exact K.ret0 (.inr rfl) hFn hFH hFD (by kernel_rfl) (by kernel_rfl) (by kernel_rfl)
      · have h134 := condF hb132 h131
        refine K.condF (by kernel_rfl) ?_
        refine K.skip (by kernel_rfl) ?_
        refine PJ.next ?_
        refine K.seq (by kernel_rfl) ?_
        refine K.seq (by kernel_rfl) ?_
        refine K.region (by kernel_rfl) ?_
        refine RJ.seg 3 [2, 4, 5, 7, 13, 14, 15, 30] (L2 := [(2, .ptr 0 0), (4, .ptr 2 0), (5, .int .i64 0), (7, .int .i32 (nth x1 s78.1)), (13, lsv (encI .i32) 1 x1), (14, .int .i64 (x1.length : Int)), (15, .int .i64 s78.1), (30, .bool (decide (y129.1.Room_ ≤ 0)))]) (H2 := [.box [.int .i64 y129.1.Fuel_, .int .i64 y129.1.Room_, .vc 1], vecL (encI .i32) 1 21 y129.1.Out_, .box [.int .i64 0, .int .i64 0, .nl]]) (by kernel_rfl) ?_
        refine RJ.end (by kernel_rfl) ?_
        refine PJ.next ?_
        refine J.caseB 30 (b := (decide (y129.1.Room_ ≤ 0))) (by kernel_rfl) (fun hb138 => ?_) (fun hb138 => ?_)
        · have h139 := condT hb138 h134
          refine K.condT (by kernel_rfl) ?_
          refine K.seq (by kernel_rfl) ?_
          refine K.region (by kernel_rfl) ?_
          refine RJ.seg 3 [2, 4, 5, 7, 13, 14, 15] (L2 := [(2, .ptr 0 0), (4, .ptr 2 0), (5, .int .i64 5), (7, .int .i32 (nth x1 s78.1)), (13, lsv (encI .i32) 1 x1), (14, .int .i64 (x1.length : Int)), (15, .int .i64 s78.1)]) (H2 := [.box [.int .i64 y129.1.Fuel_, .int .i64 y129.1.Room_, .vc 1], vecL (encI .i32) 1 21 y129.1.Out_, .box [.int .i64 y129.1.Fuel_, .int .i64 y129.1.Room_, .vc 1]]) (by kernel_rfl) ?_
          refine RJ.end (by kernel_rfl) ?_
          refine PJ.next ?_
          refine K.ret (by kernel_rfl) ?_
          refine PJ.passRet ?_
          refine PJ.blockRet ?_
          refine PJ.passRet ?_
          obtain rfl := Option.some.inj h139
          refine PJ.loopOut (fun e => nomatch e) (fun he143 => ?_)
          have h141 := congrArg some he143
          refine PJ.blockRet ?_
          obtain rfl := Option.some.inj h141
          have h142 := joinX_inr h76
          refine PJ.cutXr (fun e => nomatch e) ?_
          obtain rfl := Option.some.inj h142
          refine PJ.wk (Wk.freeze 1 (n := y129.1.Out_.length) (k := 1) (e := 21) (cs := y129.1.Out_.flatMap (encI .i32)) (by kernel_rfl)) ?_
          exact K.ret0 (.inr rfl) hFn hFH hFD (by kernel_rfl) (by kernel_rfl) (by kernel_rfl)
        · have h140 := condF hb138 h134
          refine K.condF (by kernel_rfl) ?_
          refine K.skip (by kernel_rfl) ?_
          refine PJ.next ?_
          refine K.seq (by kernel_rfl) ?_
          refine K.region (by kernel_rfl) ?_
          refine RJ.seg 5 [2, 4, 5, 7, 13, 14, 15] (L2 := [(2, .ptr 0 0), (4, .ptr 2 0), (5, .int .i64 0), (7, .int .i32 (nth x1 s78.1)), (13, lsv (encI .i32) 1 x1), (14, .int .i64 (x1.length : Int)), (15, .int .i64 s78.1)]) (H2 := [.box [.int .i64 y129.1.Fuel_, .int .i64 (IntKind.wrap .i64 (y129.1.Room_ - 1)), .vc 1], vecL (encI .i32) 1 21 y129.1.Out_, .box [.int .i64 0, .int .i64 0, .nl]]) (by kernel_rfl) ?_
          refine RJ.end (by kernel_rfl) ?_
          refine PJ.next ?_
          refine K.region (by kernel_rfl) ?_
          refine RJ.seg 4 [2, 4, 5, 13, 14, 15, 37, 39] (L2 := [(2, .ptr 0 0), (4, .ptr 2 0), (5, .int .i64 0), (13, lsv (encI .i32) 1 x1), (14, .int .i64 (x1.length : Int)), (15, .int .i64 s78.1), (37, .vc 1), (39, .vc 3)]) (H2 := [.box [.int .i64 y129.1.Fuel_, .int .i64 (IntKind.wrap .i64 (y129.1.Room_ - 1)), .vc 1], vecL (encI .i32) 1 21 y129.1.Out_, .box [.int .i64 0, .int .i64 0, .nl], vecL (encI .i32) 1 21 ([(nth x1 s78.1)] : List Int)]) (by kernel_rfl) ?_
          obtain ⟨hm, h144⟩ := asrt h140
          refine RJ.rel (d := (some 40)) (ef := ⟨.vc 4, [1, 3], [(1, .gone), (4, .vec (y129.1.Out_.length + ([(nth x1 s78.1)] : List Int).length) 1 21 (y129.1.Out_.flatMap (encI .i32) ++ ([(nth x1 s78.1)] : List Int).flatMap (encI .i32)))]⟩) (ef' := ⟨.vc 4, [1, 3], [(1, .gone), (4, vecL (encI .i32) 1 21 (y129.1.Out_ ++ ([(nth x1 s78.1)] : List Int)))]⟩) (c := room (y129.1.Out_.length + ([(nth x1 s78.1)] : List Int).length)) (tr2 := []) (H2 := [.box [.int .i64 y129.1.Fuel_, .int .i64 (IntKind.wrap .i64 (y129.1.Room_ - 1)), .vc 1], .gone, .box [.int .i64 0, .int .i64 0, .nl], vecL (encI .i32) 1 21 ([(nth x1 s78.1)] : List Int), vecL (encI .i32) 1 21 ((y129.1.Out_ ++ ([(nth x1 s78.1)] : List Int)))]) (by kernel_rfl) hm (fun hc => N.app) (by kernel_rfl) ?_
          refine RJ.seg 2 [2, 4, 5, 13, 14, 15] (L2 := [(2, .ptr 0 0), (4, .ptr 2 0), (5, .int .i64 0), (13, lsv (encI .i32) 1 x1), (14, .int .i64 (x1.length : Int)), (15, .int .i64 s78.1)]) (H2 := [.box [.int .i64 y129.1.Fuel_, .int .i64 (IntKind.wrap .i64 (y129.1.Room_ - 1)), .vc 4], .gone, .box [.int .i64 0, .int .i64 0, .nl], vecL (encI .i32) 1 21 ([(nth x1 s78.1)] : List Int), vecL (encI .i32) 1 21 ((y129.1.Out_ ++ ([(nth x1 s78.1)] : List Int)))]) (by kernel_rfl) ?_
          refine RJ.end (by kernel_rfl) ?_
          refine PJ.blockNormal ?_
          refine PJ.next ?_
          refine K.region (by kernel_rfl) ?_
          refine RJ.seg 2 [2, 4, 5, 13, 14, 15] (L2 := [(2, .ptr 0 0), (4, .ptr 2 0), (5, .int .i64 0), (13, lsv (encI .i32) 1 x1), (14, .int .i64 (x1.length : Int)), (15, .int .i64 (IntKind.wrap .i64 (s78.1 + 1)))]) (H2 := [.box [.int .i64 y129.1.Fuel_, .int .i64 (IntKind.wrap .i64 (y129.1.Room_ - 1)), .vc 4], .gone, .box [.int .i64 0, .int .i64 0, .nl], vecL (encI .i32) 1 21 ([(nth x1 s78.1)] : List Int), vecL (encI .i32) 1 21 ((y129.1.Out_ ++ ([(nth x1 s78.1)] : List Int)))]) (by kernel_rfl) ?_
          refine RJ.end (by kernel_rfl) ?_
          obtain rfl := Option.some.inj h144
          refine PJ.wk (Wk.sel (L2 := [(2, .ptr 0 0), (4, .ptr 2 0), (5, .int .i64 0), (13, lsv (encI .i32) 1 x1), (14, .int .i64 (x1.length : Int)), (15, .int .i64 (IntKind.wrap .i64 (s78.1 + 1)))]) (H2 := [.box [.int .i64 y129.1.Fuel_, .int .i64 (IntKind.wrap .i64 (y129.1.Room_ - 1)), .vc 1], vecL (encI .i32) 1 21 ((y129.1.Out_ ++ ([(nth x1 s78.1)] : List Int))), .box [.int .i64 0, .int .i64 0, .nl]]) 0 (by rw [hFH]; rfl) hFD [0, 4, 2] (by kernel_rfl) (by kernel_rfl) (by decide) (by kernel_rfl) (by kernel_rfl) (by kernel_rfl) (by kernel_rfl)) ?_
          exact PJ.loopNext [2, 4, 5, 13, 14, 15] (by kernel_rfl) (by kernel_rfl)
    · have h127 := condF hb125 hs123
      refine K.condF (by kernel_rfl) ?_
      refine K.exit 0 (by kernel_rfl) ?_
      refine PJ.passExit ?_
      obtain rfl := Option.some.inj h127
      refine PJ.loopOut (fun e => nomatch e) (fun he146 => ?_)
      have h145 := congrArg some he146
      refine PJ.blockOut ?_
      obtain rfl := Option.some.inj h145
      exact PJ.cutXl [2, 4, 5] (by kernel_rfl) (by kernel_rfl)
  · subst hs
    have h77 := joinX_inl h76
    refine K.seq (by kernel_rfl) ?_
    refine K.region (by kernel_rfl) ?_
    refine RJ.seg 3 [4, 5] (L2 := [(4, .ptr 2 0), (5, .int .i64 0)]) (H2 := [.box [.int .i64 s73.1, .int .i64 s73.2.1, .vc 1], vecL (encI .i32) 1 21 s73.2.2, .box [.int .i64 s73.1, .int .i64 s73.2.1, .vc 1]]) (by kernel_rfl) ?_
    refine RJ.end (by kernel_rfl) ?_
    refine PJ.next ?_
    refine K.ret (by kernel_rfl) ?_
    obtain rfl := Option.some.inj h77
    refine PJ.wk (Wk.freeze 1 (n := s73.2.2.length) (k := 1) (e := 21) (cs := s73.2.2.flatMap (encI .i32)) (by kernel_rfl)) ?_
    exact K.ret0 (.inr rfl) hFn hFH hFD (by kernel_rfl) (by kernel_rfl) (by kernel_rfl)

def slices_Equal (x0 : List Int) (x1 : List Int) : Option (Bool) :=
  (bif (decide (¬ (x0.length : Int) = (x1.length : Int))) then (some false) else (Option.bind (loopN (fun (s51 : Int) => (bif (decide (s51 < (x0.length : Int))) then (bif inR s51 x0.length then (bif inR s51 x1.length then (bif (decide (¬ (nth x0 s51) = (nth x1 s51))) then (some (.inr (.inr false))) else (some (.inl (IntKind.wrap .i64 (s51 + 1))))) else none) else none) else (some (.inr (.inl ()))))) big 0) (joinX fun (s46 : Unit) => (some true))))
theorem slices_Equal_ok {x0 : List Int} {x1 : List Int} {r : Bool} (h : slices_Equal x0 x1 = some r) : SC Try.prog 18 [lsv (encI .i32) 1 x0, lsv (encI .i32) 1 x1] [] (.bool r) [] := by
  refine K.fn (fn := Try.f18) (by kernel_rfl) (by kernel_rfl) (by kernel_rfl) (by kernel_rfl) (by kernel_rfl) (fun F hFn hFH hFD => ?_)
  unfold slices_Equal at h
  refine K.seq (by kernel_rfl) ?_
  refine K.region (by kernel_rfl) ?_
  refine RJ.seg 1 [0, 1, 4] (L2 := [(0, lsv (encI .i32) 1 x0), (1, lsv (encI .i32) 1 x1), (4, .bool false)]) (H2 := []) (by kernel_rfl) ?_
  refine RJ.end (by kernel_rfl) ?_
  refine PJ.next ?_
  refine K.seq (by kernel_rfl) ?_
  refine K.seq (by kernel_rfl) ?_
  refine K.region (by kernel_rfl) ?_
  refine RJ.seg 5 [0, 1, 4, 10] (L2 := [(0, lsv (encI .i32) 1 x0), (1, lsv (encI .i32) 1 x1), (4, .bool false), (10, .bool ((decide (¬ (x0.length : Int) = (x1.length : Int)))))]) (H2 := []) (by kernel_rfl) ?_
  refine RJ.end (by kernel_rfl) ?_
  refine PJ.next ?_
  refine J.caseB 10 (b := (decide (¬ (x0.length : Int) = (x1.length : Int)))) (by kernel_rfl) (fun hb1 => ?_) (fun hb1 => ?_)
  · have h2 := condT hb1 h
    refine K.condT (by kernel_rfl) ?_
    refine K.seq (by kernel_rfl) ?_
    refine K.region (by kernel_rfl) ?_
    refine RJ.seg 1 [0, 1, 4] (L2 := [(0, lsv (encI .i32) 1 x0), (1, lsv (encI .i32) 1 x1), (4, .bool false)]) (H2 := []) (by kernel_rfl) ?_
    refine RJ.end (by kernel_rfl) ?_
    refine PJ.next ?_
    refine K.ret (by kernel_rfl) ?_
    refine PJ.passRet ?_
    obtain rfl := Option.some.inj h2
    exact K.ret0 (.inr rfl) hFn hFH hFD (by kernel_rfl) (by kernel_rfl) (by kernel_rfl)
  · have h3 := condF hb1 h
    refine K.condF (by kernel_rfl) ?_
    refine K.skip (by kernel_rfl) ?_
    refine PJ.next ?_
    obtain ⟨y47, hy48, h49⟩ := bindS h3
    refine K.cutX (by kernel_rfl) (fun (s46 : Unit) => ([(4, .bool false)], [])) y47 ?_ (fun s46 hs => ?_)
    · refine K.seq (by kernel_rfl) ?_
      refine K.region (by kernel_rfl) ?_
      refine RJ.seg 3 [0, 1, 4, 12, 13] (L2 := [(0, lsv (encI .i32) 1 x0), (1, lsv (encI .i32) 1 x1), (4, .bool false), (12, .int .i64 (x0.length : Int)), (13, .int .i64 0)]) (H2 := []) (by kernel_rfl) ?_
      refine RJ.end (by kernel_rfl) ?_
      refine PJ.next ?_
      refine K.block 0 (by kernel_rfl) ?_
      refine K.loop (by kernel_rfl) (fun (s51 : Int) => ([(0, lsv (encI .i32) 1 x0), (1, lsv (encI .i32) 1 x1), (4, .bool false), (12, .int .i64 (x0.length : Int)), (13, .int .i64 s51)], [])) hy48 [0, 1, 4, 12, 13] (by kernel_rfl) (by kernel_rfl) (fun s51 x79 hs78 => ?_)
      refine K.seq (by kernel_rfl) ?_
      refine K.region (by kernel_rfl) ?_
      refine RJ.seg 1 [0, 1, 4, 12, 13, 14] (L2 := [(0, lsv (encI .i32) 1 x0), (1, lsv (encI .i32) 1 x1), (4, .bool false), (12, .int .i64 (x0.length : Int)), (13, .int .i64 s51), (14, .bool ((decide (s51 < (x0.length : Int)))))]) (H2 := []) (by kernel_rfl) ?_
      refine RJ.end (by kernel_rfl) ?_
      refine PJ.next ?_
      refine K.seq (by kernel_rfl) ?_
      refine J.caseB 14 (b := (decide (s51 < (x0.length : Int)))) (by kernel_rfl) (fun hb80 => ?_) (fun hb80 => ?_)
      · have h81 := condT hb80 hs78
        refine K.condT (by kernel_rfl) ?_
        refine K.skip (by kernel_rfl) ?_
        refine PJ.next ?_
        refine K.seq (by kernel_rfl) ?_
        refine K.block 1 (by kernel_rfl) ?_
        refine K.seq (by kernel_rfl) ?_
        refine K.region (by kernel_rfl) ?_
        refine RJ.seg 2 [0, 1, 4, 5, 12, 13] (L2 := [(0, lsv (encI .i32) 1 x0), (1, lsv (encI .i32) 1 x1), (4, .bool false), (5, .int .i64 s51), (12, .int .i64 (x0.length : Int)), (13, .int .i64 s51)]) (H2 := []) (by kernel_rfl) ?_
        refine RJ.end (by kernel_rfl) ?_
        refine PJ.next ?_
        refine K.seq (by kernel_rfl) ?_
        refine J.keep [0, 1, 4, 5, 12, 13] (L2 := [(0, lsv (encI .i32) 1 x0), (1, lsv (encI .i32) 1 x1), (4, .bool false), (5, .int .i64 s51), (12, .int .i64 (x0.length : Int)), (13, .int .i64 s51)]) (by kernel_rfl) ?_
        refine K.draw (by kernel_rfl) (by kernel_rfl) (by kernel_rfl) (H2 := []) (by kernel_rfl) (n := 0) (by kernel_rfl) ?_
        refine RJ.segD 2 (tr2 := [([], []), ([], [])]) (L2 := [(17, .int .i64 s51), (16, lsv (encI .i32) 1 x0), (0, lsv (encI .i32) 1 x0), (1, lsv (encI .i32) 1 x1), (4, .bool false), (5, .int .i64 s51), (12, .int .i64 (x0.length : Int)), (13, .int .i64 s51)]) (H2 := []) (by kernel_rfl) ?_
        obtain ⟨hm, h83⟩ := asrt h81
        refine RJ.rel (d := (some 18)) (ef := ⟨.ep (((x0.flatMap (encI .i32)).drop ((s51 : Int).toNat * 1)).take 1), [], []⟩) (ef' := ⟨.ep ((encI .i32) (nth x0 s51)), [], []⟩) (c := inR s51 x0.length) (tr2 := [([], []), ([], []), ([], [])]) (H2 := []) (by kernel_rfl) hm (fun hc => N.idx (encI_len .i32) hc) (by kernel_rfl) ?_
        refine RJ.segD 3 (tr2 := [([], []), ([], []), ([], []), ([], []), ([], []), ([], [])]) (L2 := [(21, .int .i64 s51), (20, lsv (encI .i32) 1 x1), (19, .int .i32 (nth x0 s51)), (18, .ep [.int .i32 (nth x0 s51)]), (17, .int .i64 s51), (16, lsv (encI .i32) 1 x0), (0, lsv (encI .i32) 1 x0), (1, lsv (encI .i32) 1 x1), (4, .bool false), (5, .int .i64 s51), (12, .int .i64 (x0.length : Int)), (13, .int .i64 s51)]) (H2 := []) (by kernel_rfl) ?_
        obtain ⟨hm, h84⟩ := asrt h83
        refine RJ.rel (d := (some 22)) (ef := ⟨.ep (((x1.flatMap (encI .i32)).drop ((s51 : Int).toNat * 1)).take 1), [], []⟩) (ef' := ⟨.ep ((encI .i32) (nth x1 s51)), [], []⟩) (c := inR s51 x1.length) (tr2 := [([], []), ([], []), ([], []), ([], []), ([], []), ([], []), ([], [])]) (H2 := []) (by kernel_rfl) hm (fun hc => N.idx (encI_len .i32) hc) (by kernel_rfl) ?_
        refine RJ.segD 2 (tr2 := [([], []), ([], []), ([], []), ([], []), ([], []), ([], []), ([], []), ([], []), ([], [])]) (L2 := [(24, .bool ((decide (¬ (nth x0 s51) = (nth x1 s51))))), (23, .int .i32 (nth x1 s51)), (22, .ep [.int .i32 (nth x1 s51)]), (21, .int .i64 s51), (20, lsv (encI .i32) 1 x1), (19, .int .i32 (nth x0 s51)), (18, .ep [.int .i32 (nth x0 s51)]), (17, .int .i64 s51), (16, lsv (encI .i32) 1 x0), (0, lsv (encI .i32) 1 x0), (1, lsv (encI .i32) 1 x1), (4, .bool false), (5, .int .i64 s51), (12, .int .i64 (x0.length : Int)), (13, .int .i64 s51)]) (H2 := []) (by kernel_rfl) ?_
        refine RJ.end (by kernel_rfl) ?_
        refine PJ.next ?_
        refine J.caseB 24 (b := (decide (¬ (nth x0 s51) = (nth x1 s51)))) (by kernel_rfl) (fun hb85 => ?_) (fun hb85 => ?_)
        · have h86 := condT hb85 h84
          refine K.condT (by kernel_rfl) ?_
          refine K.seq (by kernel_rfl) ?_
          refine K.region (by kernel_rfl) ?_
          refine RJ.seg 1 [0, 1, 4, 12, 13] (L2 := [(0, lsv (encI .i32) 1 x0), (1, lsv (encI .i32) 1 x1), (4, .bool false), (12, .int .i64 (x0.length : Int)), (13, .int .i64 s51)]) (H2 := []) (by kernel_rfl) ?_
          refine RJ.end (by kernel_rfl) ?_
          refine PJ.next ?_
          refine K.ret (by kernel_rfl) ?_
          refine PJ.blockRet ?_
          refine PJ.passRet ?_
          obtain rfl := Option.some.inj h86
          refine PJ.loopOut (fun e => nomatch e) (fun he90 => ?_)
          have h88 := congrArg some he90
          refine PJ.blockRet ?_
          obtain rfl := Option.some.inj h88
          have h89 := joinX_inr h49
          refine PJ.cutXr (fun e => nomatch e) ?_
          obtain rfl := Option.some.inj h89
          exact K.ret0 (.inr rfl) hFn hFH hFD (by kernel_rfl) (by kernel_rfl) (by kernel_rfl)
        · have h87 := condF hb85 h84
          refine K.condF (by kernel_rfl) ?_
          refine K.skip (by kernel_rfl) ?_
          refine PJ.blockNormal ?_
          refine PJ.next ?_
          refine K.region (by kernel_rfl) ?_
          refine RJ.seg 2 [0, 1, 4, 12, 13] (L2 := [(0, lsv (encI .i32) 1 x0), (1, lsv (encI .i32) 1 x1), (4, .bool false), (12, .int .i64 (x0.length : Int)), (13, .int .i64 (IntKind.wrap .i64 (s51 + 1)))]) (H2 := []) (by kernel_rfl) ?_
          refine RJ.end (by kernel_rfl) ?_
          obtain rfl := Option.some.inj h87
          exact PJ.loopNext [0, 1, 4, 12, 13] (by kernel_rfl) (by kernel_rfl)
      · have h82 := condF hb80 hs78
        refine K.condF (by kernel_rfl) ?_
        refine K.exit 0 (by kernel_rfl) ?_
        refine PJ.passExit ?_
        obtain rfl := Option.some.inj h82
        refine PJ.loopOut (fun e => nomatch e) (fun he92 => ?_)
        have h91 := congrArg some he92
        refine PJ.blockOut ?_
        obtain rfl := Option.some.inj h91
        exact PJ.cutXl [4] (by kernel_rfl) (by kernel_rfl)
    · subst hs
      have h50 := joinX_inl h49
      refine K.seq (by kernel_rfl) ?_
      refine K.region (by kernel_rfl) ?_
      refine RJ.seg 1 [4] (L2 := [(4, .bool true)]) (H2 := []) (by kernel_rfl) ?_
      refine RJ.end (by kernel_rfl) ?_
      refine PJ.next ?_
      refine K.ret (by kernel_rfl) ?_
      obtain rfl := Option.some.inj h50
      exact K.ret0 (.inr rfl) hFn hFH hFD (by kernel_rfl) (by kernel_rfl) (by kernel_rfl)

def tank_Same (x0 : St23) (x1 : St23) : Option (Bool) :=
  (Option.bind (bif (decide (x0.Fuel_ = x1.Fuel_)) then (bif (decide (x0.Room_ = x1.Room_)) then (Option.bind (slices_Equal x0.Out_ x1.Out_) fun y21 => (some y21)) else (some false)) else (some false)) fun (s10 : Bool) => (some s10))
theorem tank_Same_ok {x0 : St23} {x1 : St23} {r : Bool} (h : tank_Same x0 x1 = some r) : SC Try.prog 15 [.agg [.int .i64 x0.Fuel_, .int .i64 x0.Room_, lsv (encI .i32) 1 x0.Out_], .agg [.int .i64 x1.Fuel_, .int .i64 x1.Room_, lsv (encI .i32) 1 x1.Out_]] [] (.bool r) [] := by
  refine K.fn (fn := Try.f15) (by kernel_rfl) (by kernel_rfl) (by kernel_rfl) (by kernel_rfl) (by kernel_rfl) (fun F hFn hFH hFD => ?_)
  unfold tank_Same at h
  refine K.seq (by kernel_rfl) ?_
  refine K.region (by kernel_rfl) ?_
  refine RJ.seg 3 [2, 3, 4] (L2 := [(2, .ptr 0 0), (3, .ptr 1 0), (4, .bool false)]) (H2 := [.box [.int .i64 x0.Fuel_, .int .i64 x0.Room_, lsv (encI .i32) 1 x0.Out_], .box [.int .i64 x1.Fuel_, .int .i64 x1.Room_, lsv (encI .i32) 1 x1.Out_]]) (by kernel_rfl) ?_
  refine RJ.end (by kernel_rfl) ?_
  refine PJ.next ?_
  obtain ⟨s10, hy12, h14⟩ := bindS h
  refine K.cutN (by kernel_rfl) (fun (s10 : Bool) => ([(4, .bool s10)], [])) s10 ?_ ?_
  · refine K.region (by kernel_rfl) ?_
    refine RJ.seg 6 [2, 3, 4, 10] (L2 := [(2, .ptr 0 0), (3, .ptr 1 0), (4, .bool false), (10, .bool (decide (x0.Fuel_ = x1.Fuel_)))]) (H2 := [.box [.int .i64 x0.Fuel_, .int .i64 x0.Room_, lsv (encI .i32) 1 x0.Out_], .box [.int .i64 x1.Fuel_, .int .i64 x1.Room_, lsv (encI .i32) 1 x1.Out_]]) (by kernel_rfl) ?_
    refine RJ.caseB 10 (b := (decide (x0.Fuel_ = x1.Fuel_))) (by kernel_rfl) (fun hb15 => ?_) (fun hb15 => ?_)
    · have h16 := condT hb15 hy12
      refine RJ.seg 7 [2, 3, 4, 17] (L2 := [(2, .ptr 0 0), (3, .ptr 1 0), (4, .bool false), (17, .bool (decide (x0.Room_ = x1.Room_)))]) (H2 := [.box [.int .i64 x0.Fuel_, .int .i64 x0.Room_, lsv (encI .i32) 1 x0.Out_], .box [.int .i64 x1.Fuel_, .int .i64 x1.Room_, lsv (encI .i32) 1 x1.Out_]]) (by kernel_rfl) ?_
      refine RJ.caseB 17 (b := (decide (x0.Room_ = x1.Room_))) (by kernel_rfl) (fun hb18 => ?_) (fun hb18 => ?_)
      · have h19 := condT hb18 h16
        refine RJ.seg 4 [4, 17, 19, 21] (L2 := [(4, .bool false), (17, .bool true), (19, lsv (encI .i32) 1 x0.Out_), (21, lsv (encI .i32) 1 x1.Out_)]) (H2 := [.box [.int .i64 x0.Fuel_, .int .i64 x0.Room_, lsv (encI .i32) 1 x0.Out_], .box [.int .i64 x1.Fuel_, .int .i64 x1.Room_, lsv (encI .i32) 1 x1.Out_]]) (by kernel_rfl) ?_
        obtain ⟨y21, hy22, h23⟩ := bindS h19
        refine RJ.call0 (d := (some 22)) (f := 18) (args := [lsv (encI .i32) 1 x0.Out_, lsv (encI .i32) 1 x1.Out_]) (v := .bool y21) (tr2 := []) (by kernel_rfl) (by kernel_rfl) (.cons (Le.refl _) (.cons (Le.refl _) .nil)) (slices_Equal_ok hy22) (by kernel_rfl) ?_
        refine RJ.seg 2 [4] (L2 := [(4, .bool y21)]) (H2 := [.box [.int .i64 x0.Fuel_, .int .i64 x0.Room_, lsv (encI .i32) 1 x0.Out_], .box [.int .i64 x1.Fuel_, .int .i64 x1.Room_, lsv (encI .i32) 1 x1.Out_]]) (by kernel_rfl) ?_
        refine RJ.end (by kernel_rfl) ?_
        obtain rfl := Option.some.inj h23
        refine PJ.wk (Wk.sel (L2 := [(4, .bool y21)]) (H2 := []) 0 (by rw [hFH]; rfl) hFD [] (by kernel_rfl) (by kernel_rfl) (by decide) (by kernel_rfl) (by kernel_rfl) (by kernel_rfl) (by kernel_rfl)) ?_
        exact PJ.cutN [4] (by kernel_rfl) (by kernel_rfl)
      · have h20 := condF hb18 h16
        refine RJ.seg 7 [4] (L2 := [(4, .bool false)]) (H2 := [.box [.int .i64 x0.Fuel_, .int .i64 x0.Room_, lsv (encI .i32) 1 x0.Out_], .box [.int .i64 x1.Fuel_, .int .i64 x1.Room_, lsv (encI .i32) 1 x1.Out_]]) (by kernel_rfl) ?_
        refine RJ.end (by kernel_rfl) ?_
        obtain rfl := Option.some.inj h20
        refine PJ.wk (Wk.sel (L2 := [(4, .bool false)]) (H2 := []) 0 (by rw [hFH]; rfl) hFD [] (by kernel_rfl) (by kernel_rfl) (by decide) (by kernel_rfl) (by kernel_rfl) (by kernel_rfl) (by kernel_rfl)) ?_
        exact PJ.cutN [4] (by kernel_rfl) (by kernel_rfl)
    · have h17 := condF hb15 hy12
      refine RJ.seg 14 [4] (L2 := [(4, .bool false)]) (H2 := [.box [.int .i64 x0.Fuel_, .int .i64 x0.Room_, lsv (encI .i32) 1 x0.Out_], .box [.int .i64 x1.Fuel_, .int .i64 x1.Room_, lsv (encI .i32) 1 x1.Out_]]) (by kernel_rfl) ?_
      refine RJ.end (by kernel_rfl) ?_
      obtain rfl := Option.some.inj h17
      refine PJ.wk (Wk.sel (L2 := [(4, .bool false)]) (H2 := []) 0 (by rw [hFH]; rfl) hFD [] (by kernel_rfl) (by kernel_rfl) (by decide) (by kernel_rfl) (by kernel_rfl) (by kernel_rfl) (by kernel_rfl)) ?_
      exact PJ.cutN [4] (by kernel_rfl) (by kernel_rfl)
  · refine K.ret (by kernel_rfl) ?_
    obtain rfl := Option.some.inj h14
    exact K.ret0 (.inr rfl) hFn hFH hFD (by kernel_rfl) (by kernel_rfl) (by kernel_rfl)

def exerguelaw04_shown  : Option (Bool) :=
  (Option.bind (tank_New 5 2) fun y1 => (Option.bind (tank_Put y1.1 ([97, 98, 99] : List Int)) fun y4 => (Option.bind (bif (decide (y1.2 = 0)) then (bif (decide (y4.2 = 5)) then (bif (decide ((y4.1.Out_.length : Int) = 2)) then (bif inR 1 y4.1.Out_.length then (bif (decide ((nth y4.1.Out_ 1) = 98)) then (bif (decide (y4.1.Fuel_ = 2)) then (bif (decide (y4.1.Room_ = 0)) then (Option.bind (tank_Same y4.1 y4.1) fun y53 => (some y53)) else (some false)) else (some false)) else (some false)) else none) else (some false)) else (some false)) else (some false)) fun (s29 : Bool) => (some s29))))
theorem exerguelaw04_shown_ok  {r : Bool} (h : exerguelaw04_shown = some r) : SC Try.prog 8 [] [] (.bool r) [] := by
  refine K.fn (fn := Try.f8) (by kernel_rfl) (by kernel_rfl) (by kernel_rfl) (by kernel_rfl) (by kernel_rfl) (fun F hFn hFH hFD => ?_)
  unfold exerguelaw04_shown at h
  refine K.seq (by kernel_rfl) ?_
  refine K.region (by kernel_rfl) ?_
  refine RJ.seg 1 [0] (L2 := [(0, .bool false)]) (H2 := []) (by kernel_rfl) ?_
  refine RJ.end (by kernel_rfl) ?_
  refine PJ.next ?_
  refine K.seq (by kernel_rfl) ?_
  refine K.region (by kernel_rfl) ?_
  obtain ⟨y1, hy2, h3⟩ := bindS h
  refine RJ.call0 (d := (some 6)) (f := 14) (args := [.int .i64 5, .int .i64 2]) (v := .tup [.agg [.int .i64 y1.1.Fuel_, .int .i64 y1.1.Room_, lsv (encI .i32) 1 y1.1.Out_], .int .i64 y1.2]) (tr2 := []) (by kernel_rfl) (by kernel_rfl) (.cons (Le.refl _) (.cons (Le.refl _) .nil)) (tank_New_ok hy2) (by kernel_rfl) ?_
  refine RJ.seg 6 [0, 1, 2] (L2 := [(0, .bool false), (1, .ptr 0 0), (2, .int .i64 y1.2)]) (H2 := [.box [.int .i64 y1.1.Fuel_, .int .i64 y1.1.Room_, lsv (encI .i32) 1 y1.1.Out_]]) (by kernel_rfl) ?_
  refine RJ.end (by kernel_rfl) ?_
  refine PJ.next ?_
  refine K.seq (by kernel_rfl) ?_
  refine K.region (by kernel_rfl) ?_
  refine RJ.seg 2 [0, 2, 10, 11] (L2 := [(0, .bool false), (2, .int .i64 y1.2), (10, .agg [.int .i64 y1.1.Fuel_, .int .i64 y1.1.Room_, lsv (encI .i32) 1 y1.1.Out_]), (11, .vc 1)]) (H2 := [.box [.int .i64 y1.1.Fuel_, .int .i64 y1.1.Room_, lsv (encI .i32) 1 y1.1.Out_], vecL (encI .i32) 1 21 ([97, 98, 99] : List Int)]) (by kernel_rfl) ?_
  obtain ⟨y4, hy5, h6⟩ := bindS h3
  refine RJ.wk (Wk.freeze 1 (n := ([97, 98, 99] : List Int).length) (k := 1) (e := 21) (cs := ([97, 98, 99] : List Int).flatMap (encI .i32)) (by kernel_rfl)) ?_
  refine RJ.call0 (d := (some 12)) (f := 10) (args := [.agg [.int .i64 y1.1.Fuel_, .int .i64 y1.1.Room_, lsv (encI .i32) 1 y1.1.Out_], lsv (encI .i32) 1 ([97, 98, 99] : List Int)]) (v := .tup [.agg [.int .i64 y4.1.Fuel_, .int .i64 y4.1.Room_, lsv (encI .i32) 1 y4.1.Out_], .int .i64 y4.2]) (tr2 := []) (by kernel_rfl) (by kernel_rfl) (.cons (Le.refl _) (.cons (Le.refl _) .nil)) (tank_Put_ok hy5) (by kernel_rfl) ?_
  refine RJ.seg 6 [0, 2, 3, 4] (L2 := [(0, .bool false), (2, .int .i64 y1.2), (3, .ptr 2 0), (4, .int .i64 y4.2)]) (H2 := [.box [.int .i64 y1.1.Fuel_, .int .i64 y1.1.Room_, lsv (encI .i32) 1 y1.1.Out_], .gone, .box [.int .i64 y4.1.Fuel_, .int .i64 y4.1.Room_, lsv (encI .i32) 1 y4.1.Out_]]) (by kernel_rfl) ?_
  refine RJ.end (by kernel_rfl) ?_
  refine PJ.next ?_
  obtain ⟨s29, hy31, h33⟩ := bindS h6
  refine K.cutN (by kernel_rfl) (fun (s29 : Bool) => ([(0, .bool s29)], [])) s29 ?_ ?_
  · refine K.region (by kernel_rfl) ?_
    refine RJ.seg 3 [0, 3, 4, 17] (L2 := [(0, .bool false), (3, .ptr 2 0), (4, .int .i64 y4.2), (17, .bool (decide (y1.2 = 0)))]) (H2 := [.box [.int .i64 y1.1.Fuel_, .int .i64 y1.1.Room_, lsv (encI .i32) 1 y1.1.Out_], .gone, .box [.int .i64 y4.1.Fuel_, .int .i64 y4.1.Room_, lsv (encI .i32) 1 y4.1.Out_]]) (by kernel_rfl) ?_
    refine RJ.caseB 17 (b := (decide (y1.2 = 0))) (by kernel_rfl) (fun hb34 => ?_) (fun hb34 => ?_)
    · have h35 := condT hb34 hy31
      refine RJ.seg 4 [0, 3, 21] (L2 := [(0, .bool false), (3, .ptr 2 0), (21, .bool (decide (y4.2 = 5)))]) (H2 := [.box [.int .i64 y1.1.Fuel_, .int .i64 y1.1.Room_, lsv (encI .i32) 1 y1.1.Out_], .gone, .box [.int .i64 y4.1.Fuel_, .int .i64 y4.1.Room_, lsv (encI .i32) 1 y4.1.Out_]]) (by kernel_rfl) ?_
      refine RJ.caseB 21 (b := (decide (y4.2 = 5))) (by kernel_rfl) (fun hb37 => ?_) (fun hb37 => ?_)
      · have h38 := condT hb37 h35
        refine RJ.seg 6 [0, 3, 27] (L2 := [(0, .bool false), (3, .ptr 2 0), (27, .bool ((decide ((y4.1.Out_.length : Int) = 2))))]) (H2 := [.box [.int .i64 y1.1.Fuel_, .int .i64 y1.1.Room_, lsv (encI .i32) 1 y1.1.Out_], .gone, .box [.int .i64 y4.1.Fuel_, .int .i64 y4.1.Room_, lsv (encI .i32) 1 y4.1.Out_]]) (by kernel_rfl) ?_
        refine RJ.caseB 27 (b := (decide ((y4.1.Out_.length : Int) = 2))) (by kernel_rfl) (fun hb40 => ?_) (fun hb40 => ?_)
        · have h41 := condT hb40 h38
          refine RJ.seg 2 [0, 3, 27, 29] (L2 := [(0, .bool false), (3, .ptr 2 0), (27, .bool true), (29, lsv (encI .i32) 1 y4.1.Out_)]) (H2 := [.box [.int .i64 y1.1.Fuel_, .int .i64 y1.1.Room_, lsv (encI .i32) 1 y1.1.Out_], .gone, .box [.int .i64 y4.1.Fuel_, .int .i64 y4.1.Room_, lsv (encI .i32) 1 y4.1.Out_]]) (by kernel_rfl) ?_
          obtain ⟨hm, h43⟩ := asrt h41
          refine RJ.rel (d := (some 30)) (ef := ⟨.ep (((y4.1.Out_.flatMap (encI .i32)).drop ((1 : Int).toNat * 1)).take 1), [], []⟩) (ef' := ⟨.ep ((encI .i32) (nth y4.1.Out_ 1)), [], []⟩) (c := inR 1 y4.1.Out_.length) (tr2 := []) (H2 := [.box [.int .i64 y1.1.Fuel_, .int .i64 y1.1.Room_, lsv (encI .i32) 1 y1.1.Out_], .gone, .box [.int .i64 y4.1.Fuel_, .int .i64 y4.1.Room_, lsv (encI .i32) 1 y4.1.Out_]]) (by kernel_rfl) hm (fun hc => N.idx (encI_len .i32) hc) (by kernel_rfl) ?_
          refine RJ.seg 4 [0, 3, 34] (L2 := [(0, .bool false), (3, .ptr 2 0), (34, .bool ((decide ((nth y4.1.Out_ 1) = 98))))]) (H2 := [.box [.int .i64 y1.1.Fuel_, .int .i64 y1.1.Room_, lsv (encI .i32) 1 y1.1.Out_], .gone, .box [.int .i64 y4.1.Fuel_, .int .i64 y4.1.Room_, lsv (encI .i32) 1 y4.1.Out_]]) (by kernel_rfl) ?_
          refine RJ.caseB 34 (b := (decide ((nth y4.1.Out_ 1) = 98))) (by kernel_rfl) (fun hb44 => ?_) (fun hb44 => ?_)
          · have h45 := condT hb44 h43
            refine RJ.seg 5 [0, 3, 39] (L2 := [(0, .bool false), (3, .ptr 2 0), (39, .bool (decide (y4.1.Fuel_ = 2)))]) (H2 := [.box [.int .i64 y1.1.Fuel_, .int .i64 y1.1.Room_, lsv (encI .i32) 1 y1.1.Out_], .gone, .box [.int .i64 y4.1.Fuel_, .int .i64 y4.1.Room_, lsv (encI .i32) 1 y4.1.Out_]]) (by kernel_rfl) ?_
            refine RJ.caseB 39 (b := (decide (y4.1.Fuel_ = 2))) (by kernel_rfl) (fun hb47 => ?_) (fun hb47 => ?_)
            · have h48 := condT hb47 h45
              refine RJ.seg 5 [0, 3, 44] (L2 := [(0, .bool false), (3, .ptr 2 0), (44, .bool (decide (y4.1.Room_ = 0)))]) (H2 := [.box [.int .i64 y1.1.Fuel_, .int .i64 y1.1.Room_, lsv (encI .i32) 1 y1.1.Out_], .gone, .box [.int .i64 y4.1.Fuel_, .int .i64 y4.1.Room_, lsv (encI .i32) 1 y4.1.Out_]]) (by kernel_rfl) ?_
              refine RJ.caseB 44 (b := (decide (y4.1.Room_ = 0))) (by kernel_rfl) (fun hb50 => ?_) (fun hb50 => ?_)
              · have h51 := condT hb50 h48
                refine RJ.seg 2 [0, 44, 45, 46] (L2 := [(0, .bool false), (44, .bool true), (45, .agg [.int .i64 y4.1.Fuel_, .int .i64 y4.1.Room_, lsv (encI .i32) 1 y4.1.Out_]), (46, .agg [.int .i64 y4.1.Fuel_, .int .i64 y4.1.Room_, lsv (encI .i32) 1 y4.1.Out_])]) (H2 := [.box [.int .i64 y1.1.Fuel_, .int .i64 y1.1.Room_, lsv (encI .i32) 1 y1.1.Out_], .gone, .box [.int .i64 y4.1.Fuel_, .int .i64 y4.1.Room_, lsv (encI .i32) 1 y4.1.Out_]]) (by kernel_rfl) ?_
                obtain ⟨y53, hy54, h55⟩ := bindS h51
                refine RJ.call0 (d := (some 47)) (f := 15) (args := [.agg [.int .i64 y4.1.Fuel_, .int .i64 y4.1.Room_, lsv (encI .i32) 1 y4.1.Out_], .agg [.int .i64 y4.1.Fuel_, .int .i64 y4.1.Room_, lsv (encI .i32) 1 y4.1.Out_]]) (v := .bool y53) (tr2 := []) (by kernel_rfl) (by kernel_rfl) (.cons (Le.refl _) (.cons (Le.refl _) .nil)) (tank_Same_ok hy54) (by kernel_rfl) ?_
                refine RJ.seg 2 [0] (L2 := [(0, .bool y53)]) (H2 := [.box [.int .i64 y1.1.Fuel_, .int .i64 y1.1.Room_, lsv (encI .i32) 1 y1.1.Out_], .gone, .box [.int .i64 y4.1.Fuel_, .int .i64 y4.1.Room_, lsv (encI .i32) 1 y4.1.Out_]]) (by kernel_rfl) ?_
                refine RJ.end (by kernel_rfl) ?_
                obtain rfl := Option.some.inj h55
                refine PJ.wk (Wk.sel (L2 := [(0, .bool y53)]) (H2 := []) 0 (by rw [hFH]; rfl) hFD [] (by kernel_rfl) (by kernel_rfl) (by decide) (by kernel_rfl) (by kernel_rfl) (by kernel_rfl) (by kernel_rfl)) ?_
                exact PJ.cutN [0] (by kernel_rfl) (by kernel_rfl)
              · have h52 := condF hb50 h48
                refine RJ.seg 5 [0] (L2 := [(0, .bool false)]) (H2 := [.box [.int .i64 y1.1.Fuel_, .int .i64 y1.1.Room_, lsv (encI .i32) 1 y1.1.Out_], .gone, .box [.int .i64 y4.1.Fuel_, .int .i64 y4.1.Room_, lsv (encI .i32) 1 y4.1.Out_]]) (by kernel_rfl) ?_
                refine RJ.end (by kernel_rfl) ?_
                obtain rfl := Option.some.inj h52
                refine PJ.wk (Wk.sel (L2 := [(0, .bool false)]) (H2 := []) 0 (by rw [hFH]; rfl) hFD [] (by kernel_rfl) (by kernel_rfl) (by decide) (by kernel_rfl) (by kernel_rfl) (by kernel_rfl) (by kernel_rfl)) ?_
                exact PJ.cutN [0] (by kernel_rfl) (by kernel_rfl)
            · have h49 := condF hb47 h45
              refine RJ.seg 10 [0] (L2 := [(0, .bool false)]) (H2 := [.box [.int .i64 y1.1.Fuel_, .int .i64 y1.1.Room_, lsv (encI .i32) 1 y1.1.Out_], .gone, .box [.int .i64 y4.1.Fuel_, .int .i64 y4.1.Room_, lsv (encI .i32) 1 y4.1.Out_]]) (by kernel_rfl) ?_
              refine RJ.end (by kernel_rfl) ?_
              obtain rfl := Option.some.inj h49
              refine PJ.wk (Wk.sel (L2 := [(0, .bool false)]) (H2 := []) 0 (by rw [hFH]; rfl) hFD [] (by kernel_rfl) (by kernel_rfl) (by decide) (by kernel_rfl) (by kernel_rfl) (by kernel_rfl) (by kernel_rfl)) ?_
              exact PJ.cutN [0] (by kernel_rfl) (by kernel_rfl)
          · have h46 := condF hb44 h43
            refine RJ.seg 15 [0] (L2 := [(0, .bool false)]) (H2 := [.box [.int .i64 y1.1.Fuel_, .int .i64 y1.1.Room_, lsv (encI .i32) 1 y1.1.Out_], .gone, .box [.int .i64 y4.1.Fuel_, .int .i64 y4.1.Room_, lsv (encI .i32) 1 y4.1.Out_]]) (by kernel_rfl) ?_
            refine RJ.end (by kernel_rfl) ?_
            obtain rfl := Option.some.inj h46
            refine PJ.wk (Wk.sel (L2 := [(0, .bool false)]) (H2 := []) 0 (by rw [hFH]; rfl) hFD [] (by kernel_rfl) (by kernel_rfl) (by decide) (by kernel_rfl) (by kernel_rfl) (by kernel_rfl) (by kernel_rfl)) ?_
            exact PJ.cutN [0] (by kernel_rfl) (by kernel_rfl)
        · have h42 := condF hb40 h38
          refine RJ.seg 22 [0] (L2 := [(0, .bool false)]) (H2 := [.box [.int .i64 y1.1.Fuel_, .int .i64 y1.1.Room_, lsv (encI .i32) 1 y1.1.Out_], .gone, .box [.int .i64 y4.1.Fuel_, .int .i64 y4.1.Room_, lsv (encI .i32) 1 y4.1.Out_]]) (by kernel_rfl) ?_
          refine RJ.end (by kernel_rfl) ?_
          obtain rfl := Option.some.inj h42
          refine PJ.wk (Wk.sel (L2 := [(0, .bool false)]) (H2 := []) 0 (by rw [hFH]; rfl) hFD [] (by kernel_rfl) (by kernel_rfl) (by decide) (by kernel_rfl) (by kernel_rfl) (by kernel_rfl) (by kernel_rfl)) ?_
          exact PJ.cutN [0] (by kernel_rfl) (by kernel_rfl)
      · have h39 := condF hb37 h35
        refine RJ.seg 28 [0] (L2 := [(0, .bool false)]) (H2 := [.box [.int .i64 y1.1.Fuel_, .int .i64 y1.1.Room_, lsv (encI .i32) 1 y1.1.Out_], .gone, .box [.int .i64 y4.1.Fuel_, .int .i64 y4.1.Room_, lsv (encI .i32) 1 y4.1.Out_]]) (by kernel_rfl) ?_
        refine RJ.end (by kernel_rfl) ?_
        obtain rfl := Option.some.inj h39
        refine PJ.wk (Wk.sel (L2 := [(0, .bool false)]) (H2 := []) 0 (by rw [hFH]; rfl) hFD [] (by kernel_rfl) (by kernel_rfl) (by decide) (by kernel_rfl) (by kernel_rfl) (by kernel_rfl) (by kernel_rfl)) ?_
        exact PJ.cutN [0] (by kernel_rfl) (by kernel_rfl)
    · have h36 := condF hb34 hy31
      refine RJ.seg 32 [0] (L2 := [(0, .bool false)]) (H2 := [.box [.int .i64 y1.1.Fuel_, .int .i64 y1.1.Room_, lsv (encI .i32) 1 y1.1.Out_], .gone, .box [.int .i64 y4.1.Fuel_, .int .i64 y4.1.Room_, lsv (encI .i32) 1 y4.1.Out_]]) (by kernel_rfl) ?_
      refine RJ.end (by kernel_rfl) ?_
      obtain rfl := Option.some.inj h36
      refine PJ.wk (Wk.sel (L2 := [(0, .bool false)]) (H2 := []) 0 (by rw [hFH]; rfl) hFD [] (by kernel_rfl) (by kernel_rfl) (by decide) (by kernel_rfl) (by kernel_rfl) (by kernel_rfl) (by kernel_rfl)) ?_
      exact PJ.cutN [0] (by kernel_rfl) (by kernel_rfl)
  · refine K.ret (by kernel_rfl) ?_
    obtain rfl := Option.some.inj h33
    exact K.ret0 (.inr rfl) hFn hFH hFD (by kernel_rfl) (by kernel_rfl) (by kernel_rfl)

def exergueref04_Right (x0 : St23) : Option (Bool) :=
  (Option.bind (bif (decide (x0.Fuel_ ≥ 0)) then (bif (decide (x0.Room_ ≥ 0)) then (some ((decide ((x0.Out_.length : Int) ≤ 1000)))) else (some false)) else (some false)) fun (s7 : Bool) => (some s7))
theorem exergueref04_Right_ok {x0 : St23} {r : Bool} (h : exergueref04_Right x0 = some r) : SC Try.prog 9 [.agg [.int .i64 x0.Fuel_, .int .i64 x0.Room_, lsv (encI .i32) 1 x0.Out_]] [] (.bool r) [] := by
  refine K.fn (fn := Try.f9) (by kernel_rfl) (by kernel_rfl) (by kernel_rfl) (by kernel_rfl) (by kernel_rfl) (fun F hFn hFH hFD => ?_)
  unfold exergueref04_Right at h
  refine K.seq (by kernel_rfl) ?_
  refine K.region (by kernel_rfl) ?_
  refine RJ.seg 2 [1, 2] (L2 := [(1, .ptr 0 0), (2, .bool false)]) (H2 := [.box [.int .i64 x0.Fuel_, .int .i64 x0.Room_, lsv (encI .i32) 1 x0.Out_]]) (by kernel_rfl) ?_
  refine RJ.end (by kernel_rfl) ?_
  refine PJ.next ?_
  obtain ⟨s7, hy9, h11⟩ := bindS h
  refine K.cutN (by kernel_rfl) (fun (s7 : Bool) => ([(2, .bool s7)], [])) s7 ?_ ?_
  · refine K.region (by kernel_rfl) ?_
    refine RJ.seg 4 [1, 2, 6] (L2 := [(1, .ptr 0 0), (2, .bool false), (6, .bool (decide (x0.Fuel_ ≥ 0)))]) (H2 := [.box [.int .i64 x0.Fuel_, .int .i64 x0.Room_, lsv (encI .i32) 1 x0.Out_]]) (by kernel_rfl) ?_
    refine RJ.caseB 6 (b := (decide (x0.Fuel_ ≥ 0))) (by kernel_rfl) (fun hb12 => ?_) (fun hb12 => ?_)
    · have h13 := condT hb12 hy9
      refine RJ.seg 5 [1, 2, 11] (L2 := [(1, .ptr 0 0), (2, .bool false), (11, .bool (decide (x0.Room_ ≥ 0)))]) (H2 := [.box [.int .i64 x0.Fuel_, .int .i64 x0.Room_, lsv (encI .i32) 1 x0.Out_]]) (by kernel_rfl) ?_
      refine RJ.caseB 11 (b := (decide (x0.Room_ ≥ 0))) (by kernel_rfl) (fun hb15 => ?_) (fun hb15 => ?_)
      · have h16 := condT hb15 h13
        refine RJ.seg 6 [2] (L2 := [(2, .bool ((decide ((x0.Out_.length : Int) ≤ 1000))))]) (H2 := [.box [.int .i64 x0.Fuel_, .int .i64 x0.Room_, lsv (encI .i32) 1 x0.Out_]]) (by kernel_rfl) ?_
        refine RJ.end (by kernel_rfl) ?_
        obtain rfl := Option.some.inj h16
        refine PJ.wk (Wk.sel (L2 := [(2, .bool ((decide ((x0.Out_.length : Int) ≤ 1000))))]) (H2 := []) 0 (by rw [hFH]; rfl) hFD [] (by kernel_rfl) (by kernel_rfl) (by decide) (by kernel_rfl) (by kernel_rfl) (by kernel_rfl) (by kernel_rfl)) ?_
        exact PJ.cutN [2] (by kernel_rfl) (by kernel_rfl)
      · have h17 := condF hb15 h13
        refine RJ.seg 6 [2] (L2 := [(2, .bool false)]) (H2 := [.box [.int .i64 x0.Fuel_, .int .i64 x0.Room_, lsv (encI .i32) 1 x0.Out_]]) (by kernel_rfl) ?_
        refine RJ.end (by kernel_rfl) ?_
        obtain rfl := Option.some.inj h17
        refine PJ.wk (Wk.sel (L2 := [(2, .bool false)]) (H2 := []) 0 (by rw [hFH]; rfl) hFD [] (by kernel_rfl) (by kernel_rfl) (by decide) (by kernel_rfl) (by kernel_rfl) (by kernel_rfl) (by kernel_rfl)) ?_
        exact PJ.cutN [2] (by kernel_rfl) (by kernel_rfl)
    · have h14 := condF hb12 hy9
      refine RJ.seg 11 [2] (L2 := [(2, .bool false)]) (H2 := [.box [.int .i64 x0.Fuel_, .int .i64 x0.Room_, lsv (encI .i32) 1 x0.Out_]]) (by kernel_rfl) ?_
      refine RJ.end (by kernel_rfl) ?_
      obtain rfl := Option.some.inj h14
      refine PJ.wk (Wk.sel (L2 := [(2, .bool false)]) (H2 := []) 0 (by rw [hFH]; rfl) hFD [] (by kernel_rfl) (by kernel_rfl) (by decide) (by kernel_rfl) (by kernel_rfl) (by kernel_rfl) (by kernel_rfl)) ?_
      exact PJ.cutN [2] (by kernel_rfl) (by kernel_rfl)
  · refine K.ret (by kernel_rfl) ?_
    obtain rfl := Option.some.inj h11
    exact K.ret0 (.inr rfl) hFn hFH hFD (by kernel_rfl) (by kernel_rfl) (by kernel_rfl)

def exergueref01_Same (x0 : List Int) (x1 : List Int) : Option (Bool) :=
  (bif (decide (¬ (x0.length : Int) = (x1.length : Int))) then (some false) else (Option.bind (loopN (fun (s51 : Int) => (bif (decide (s51 < (x0.length : Int))) then (bif inR s51 x0.length then (bif inR s51 x1.length then (bif (decide (¬ (nth x0 s51) = (nth x1 s51))) then (some (.inr (.inr false))) else (some (.inl (IntKind.wrap .i64 (s51 + 1))))) else none) else none) else (some (.inr (.inl ()))))) big 0) (joinX fun (s46 : Unit) => (some true))))
theorem exergueref01_Same_ok {x0 : List Int} {x1 : List Int} {r : Bool} (h : exergueref01_Same x0 x1 = some r) : SC Try.prog 12 [lsv (encI .i32) 1 x0, lsv (encI .i32) 1 x1] [] (.bool r) [] := by
  refine K.fn (fn := Try.f12) (by kernel_rfl) (by kernel_rfl) (by kernel_rfl) (by kernel_rfl) (by kernel_rfl) (fun F hFn hFH hFD => ?_)
  unfold exergueref01_Same at h
  refine K.seq (by kernel_rfl) ?_
  refine K.region (by kernel_rfl) ?_
  refine RJ.seg 1 [0, 1, 4] (L2 := [(0, lsv (encI .i32) 1 x0), (1, lsv (encI .i32) 1 x1), (4, .bool false)]) (H2 := []) (by kernel_rfl) ?_
  refine RJ.end (by kernel_rfl) ?_
  refine PJ.next ?_
  refine K.seq (by kernel_rfl) ?_
  refine K.seq (by kernel_rfl) ?_
  refine K.region (by kernel_rfl) ?_
  refine RJ.seg 5 [0, 1, 4, 10] (L2 := [(0, lsv (encI .i32) 1 x0), (1, lsv (encI .i32) 1 x1), (4, .bool false), (10, .bool ((decide (¬ (x0.length : Int) = (x1.length : Int)))))]) (H2 := []) (by kernel_rfl) ?_
  refine RJ.end (by kernel_rfl) ?_
  refine PJ.next ?_
  refine J.caseB 10 (b := (decide (¬ (x0.length : Int) = (x1.length : Int)))) (by kernel_rfl) (fun hb1 => ?_) (fun hb1 => ?_)
  · have h2 := condT hb1 h
    refine K.condT (by kernel_rfl) ?_
    refine K.seq (by kernel_rfl) ?_
    refine K.region (by kernel_rfl) ?_
    refine RJ.seg 1 [0, 1, 4] (L2 := [(0, lsv (encI .i32) 1 x0), (1, lsv (encI .i32) 1 x1), (4, .bool false)]) (H2 := []) (by kernel_rfl) ?_
    refine RJ.end (by kernel_rfl) ?_
    refine PJ.next ?_
    refine K.ret (by kernel_rfl) ?_
    refine PJ.passRet ?_
    obtain rfl := Option.some.inj h2
    exact K.ret0 (.inr rfl) hFn hFH hFD (by kernel_rfl) (by kernel_rfl) (by kernel_rfl)
  · have h3 := condF hb1 h
    refine K.condF (by kernel_rfl) ?_
    refine K.skip (by kernel_rfl) ?_
    refine PJ.next ?_
    obtain ⟨y47, hy48, h49⟩ := bindS h3
    refine K.cutX (by kernel_rfl) (fun (s46 : Unit) => ([(4, .bool false)], [])) y47 ?_ (fun s46 hs => ?_)
    · refine K.seq (by kernel_rfl) ?_
      refine K.region (by kernel_rfl) ?_
      refine RJ.seg 1 [0, 1, 4, 5] (L2 := [(0, lsv (encI .i32) 1 x0), (1, lsv (encI .i32) 1 x1), (4, .bool false), (5, .int .i64 0)]) (H2 := []) (by kernel_rfl) ?_
      refine RJ.end (by kernel_rfl) ?_
      refine PJ.next ?_
      refine K.block 0 (by kernel_rfl) ?_
      refine K.loop (by kernel_rfl) (fun (s51 : Int) => ([(0, lsv (encI .i32) 1 x0), (1, lsv (encI .i32) 1 x1), (4, .bool false), (5, .int .i64 s51)], [])) hy48 [0, 1, 4, 5] (by kernel_rfl) (by kernel_rfl) (fun s51 x79 hs78 => ?_)
      refine K.seq (by kernel_rfl) ?_
      refine K.seq (by kernel_rfl) ?_
      refine K.region (by kernel_rfl) ?_
      refine RJ.seg 4 [0, 1, 4, 5, 14] (L2 := [(0, lsv (encI .i32) 1 x0), (1, lsv (encI .i32) 1 x1), (4, .bool false), (5, .int .i64 s51), (14, .bool ((decide (s51 < (x0.length : Int)))))]) (H2 := []) (by kernel_rfl) ?_
      refine RJ.end (by kernel_rfl) ?_
      refine PJ.next ?_
      refine J.caseB 14 (b := (decide (s51 < (x0.length : Int)))) (by kernel_rfl) (fun hb80 => ?_) (fun hb80 => ?_)
      · have h81 := condT hb80 hs78
        refine K.condT (by kernel_rfl) ?_
        refine K.skip (by kernel_rfl) ?_
        refine PJ.next ?_
        refine K.seq (by kernel_rfl) ?_
        refine K.block 1 (by kernel_rfl) ?_
        refine K.seq (by kernel_rfl) ?_
        refine J.keep [0, 1, 4, 5] (L2 := [(0, lsv (encI .i32) 1 x0), (1, lsv (encI .i32) 1 x1), (4, .bool false), (5, .int .i64 s51)]) (by kernel_rfl) ?_
        refine K.draw (by kernel_rfl) (by kernel_rfl) (by kernel_rfl) (H2 := []) (by kernel_rfl) (n := 0) (by kernel_rfl) ?_
        refine RJ.segD 2 (tr2 := [([], []), ([], [])]) (L2 := [(18, .int .i64 s51), (17, lsv (encI .i32) 1 x0), (0, lsv (encI .i32) 1 x0), (1, lsv (encI .i32) 1 x1), (4, .bool false), (5, .int .i64 s51)]) (H2 := []) (by kernel_rfl) ?_
        obtain ⟨hm, h83⟩ := asrt h81
        refine RJ.rel (d := (some 19)) (ef := ⟨.ep (((x0.flatMap (encI .i32)).drop ((s51 : Int).toNat * 1)).take 1), [], []⟩) (ef' := ⟨.ep ((encI .i32) (nth x0 s51)), [], []⟩) (c := inR s51 x0.length) (tr2 := [([], []), ([], []), ([], [])]) (H2 := []) (by kernel_rfl) hm (fun hc => N.idx (encI_len .i32) hc) (by kernel_rfl) ?_
        refine RJ.segD 3 (tr2 := [([], []), ([], []), ([], []), ([], []), ([], []), ([], [])]) (L2 := [(22, .int .i64 s51), (21, lsv (encI .i32) 1 x1), (20, .int .i32 (nth x0 s51)), (19, .ep [.int .i32 (nth x0 s51)]), (18, .int .i64 s51), (17, lsv (encI .i32) 1 x0), (0, lsv (encI .i32) 1 x0), (1, lsv (encI .i32) 1 x1), (4, .bool false), (5, .int .i64 s51)]) (H2 := []) (by kernel_rfl) ?_
        obtain ⟨hm, h84⟩ := asrt h83
        refine RJ.rel (d := (some 23)) (ef := ⟨.ep (((x1.flatMap (encI .i32)).drop ((s51 : Int).toNat * 1)).take 1), [], []⟩) (ef' := ⟨.ep ((encI .i32) (nth x1 s51)), [], []⟩) (c := inR s51 x1.length) (tr2 := [([], []), ([], []), ([], []), ([], []), ([], []), ([], []), ([], [])]) (H2 := []) (by kernel_rfl) hm (fun hc => N.idx (encI_len .i32) hc) (by kernel_rfl) ?_
        refine RJ.segD 2 (tr2 := [([], []), ([], []), ([], []), ([], []), ([], []), ([], []), ([], []), ([], []), ([], [])]) (L2 := [(25, .bool ((decide (¬ (nth x0 s51) = (nth x1 s51))))), (24, .int .i32 (nth x1 s51)), (23, .ep [.int .i32 (nth x1 s51)]), (22, .int .i64 s51), (21, lsv (encI .i32) 1 x1), (20, .int .i32 (nth x0 s51)), (19, .ep [.int .i32 (nth x0 s51)]), (18, .int .i64 s51), (17, lsv (encI .i32) 1 x0), (0, lsv (encI .i32) 1 x0), (1, lsv (encI .i32) 1 x1), (4, .bool false), (5, .int .i64 s51)]) (H2 := []) (by kernel_rfl) ?_
        refine RJ.end (by kernel_rfl) ?_
        refine PJ.next ?_
        refine J.caseB 25 (b := (decide (¬ (nth x0 s51) = (nth x1 s51)))) (by kernel_rfl) (fun hb85 => ?_) (fun hb85 => ?_)
        · have h86 := condT hb85 h84
          refine K.condT (by kernel_rfl) ?_
          refine K.seq (by kernel_rfl) ?_
          refine K.region (by kernel_rfl) ?_
          refine RJ.seg 1 [0, 1, 4, 5] (L2 := [(0, lsv (encI .i32) 1 x0), (1, lsv (encI .i32) 1 x1), (4, .bool false), (5, .int .i64 s51)]) (H2 := []) (by kernel_rfl) ?_
          refine RJ.end (by kernel_rfl) ?_
          refine PJ.next ?_
          refine K.ret (by kernel_rfl) ?_
          refine PJ.blockRet ?_
          refine PJ.passRet ?_
          obtain rfl := Option.some.inj h86
          refine PJ.loopOut (fun e => nomatch e) (fun he90 => ?_)
          have h88 := congrArg some he90
          refine PJ.blockRet ?_
          obtain rfl := Option.some.inj h88
          have h89 := joinX_inr h49
          refine PJ.cutXr (fun e => nomatch e) ?_
          obtain rfl := Option.some.inj h89
          exact K.ret0 (.inr rfl) hFn hFH hFD (by kernel_rfl) (by kernel_rfl) (by kernel_rfl)
        · have h87 := condF hb85 h84
          refine K.condF (by kernel_rfl) ?_
          refine K.skip (by kernel_rfl) ?_
          refine PJ.blockNormal ?_
          refine PJ.next ?_
          refine K.region (by kernel_rfl) ?_
          refine RJ.seg 3 [0, 1, 4, 5] (L2 := [(0, lsv (encI .i32) 1 x0), (1, lsv (encI .i32) 1 x1), (4, .bool false), (5, .int .i64 (IntKind.wrap .i64 (s51 + 1)))]) (H2 := []) (by kernel_rfl) ?_
          refine RJ.end (by kernel_rfl) ?_
          obtain rfl := Option.some.inj h87
          exact PJ.loopNext [0, 1, 4, 5] (by kernel_rfl) (by kernel_rfl)
      · have h82 := condF hb80 hs78
        refine K.condF (by kernel_rfl) ?_
        refine K.exit 0 (by kernel_rfl) ?_
        refine PJ.passExit ?_
        obtain rfl := Option.some.inj h82
        refine PJ.loopOut (fun e => nomatch e) (fun he92 => ?_)
        have h91 := congrArg some he92
        refine PJ.blockOut ?_
        obtain rfl := Option.some.inj h91
        exact PJ.cutXl [4] (by kernel_rfl) (by kernel_rfl)
    · subst hs
      have h50 := joinX_inl h49
      refine K.seq (by kernel_rfl) ?_
      refine K.region (by kernel_rfl) ?_
      refine RJ.seg 1 [4] (L2 := [(4, .bool true)]) (H2 := []) (by kernel_rfl) ?_
      refine RJ.end (by kernel_rfl) ?_
      refine PJ.next ?_
      refine K.ret (by kernel_rfl) ?_
      obtain rfl := Option.some.inj h50
      exact K.ret0 (.inr rfl) hFn hFH hFD (by kernel_rfl) (by kernel_rfl) (by kernel_rfl)

def exergueref04_Same (x0 : St23) (x1 : St23) : Option (Bool) :=
  (Option.bind (exergueref01_Same x0.Out_ x1.Out_) fun y1 => (Option.bind (bif y1 then (bif (decide (x0.Fuel_ = x1.Fuel_)) then (some (decide (x0.Room_ = x1.Room_))) else (some false)) else (some false)) fun (s10 : Bool) => (some s10)))
theorem exergueref04_Same_ok {x0 : St23} {x1 : St23} {r : Bool} (h : exergueref04_Same x0 x1 = some r) : SC Try.prog 11 [.agg [.int .i64 x0.Fuel_, .int .i64 x0.Room_, lsv (encI .i32) 1 x0.Out_], .agg [.int .i64 x1.Fuel_, .int .i64 x1.Room_, lsv (encI .i32) 1 x1.Out_]] [] (.bool r) [] := by
  refine K.fn (fn := Try.f11) (by kernel_rfl) (by kernel_rfl) (by kernel_rfl) (by kernel_rfl) (by kernel_rfl) (fun F hFn hFH hFD => ?_)
  unfold exergueref04_Same at h
  refine K.seq (by kernel_rfl) ?_
  refine K.region (by kernel_rfl) ?_
  refine RJ.seg 3 [2, 3, 4] (L2 := [(2, .ptr 0 0), (3, .ptr 1 0), (4, .bool false)]) (H2 := [.box [.int .i64 x0.Fuel_, .int .i64 x0.Room_, lsv (encI .i32) 1 x0.Out_], .box [.int .i64 x1.Fuel_, .int .i64 x1.Room_, lsv (encI .i32) 1 x1.Out_]]) (by kernel_rfl) ?_
  refine RJ.end (by kernel_rfl) ?_
  refine PJ.next ?_
  refine K.seq (by kernel_rfl) ?_
  refine K.region (by kernel_rfl) ?_
  refine RJ.seg 4 [2, 3, 4, 7, 9] (L2 := [(2, .ptr 0 0), (3, .ptr 1 0), (4, .bool false), (7, lsv (encI .i32) 1 x0.Out_), (9, lsv (encI .i32) 1 x1.Out_)]) (H2 := [.box [.int .i64 x0.Fuel_, .int .i64 x0.Room_, lsv (encI .i32) 1 x0.Out_], .box [.int .i64 x1.Fuel_, .int .i64 x1.Room_, lsv (encI .i32) 1 x1.Out_]]) (by kernel_rfl) ?_
  obtain ⟨y1, hy2, h3⟩ := bindS h
  refine RJ.call0 (d := (some 10)) (f := 12) (args := [lsv (encI .i32) 1 x0.Out_, lsv (encI .i32) 1 x1.Out_]) (v := .bool y1) (tr2 := []) (by kernel_rfl) (by kernel_rfl) (.cons (Le.refl _) (.cons (Le.refl _) .nil)) (exergueref01_Same_ok hy2) (by kernel_rfl) ?_
  refine RJ.seg 1 [2, 3, 4, 5] (L2 := [(2, .ptr 0 0), (3, .ptr 1 0), (4, .bool false), (5, .bool y1)]) (H2 := [.box [.int .i64 x0.Fuel_, .int .i64 x0.Room_, lsv (encI .i32) 1 x0.Out_], .box [.int .i64 x1.Fuel_, .int .i64 x1.Room_, lsv (encI .i32) 1 x1.Out_]]) (by kernel_rfl) ?_
  refine RJ.end (by kernel_rfl) ?_
  refine PJ.next ?_
  obtain ⟨s10, hy12, h14⟩ := bindS h3
  refine K.cutN (by kernel_rfl) (fun (s10 : Bool) => ([(4, .bool s10)], [])) s10 ?_ ?_
  · refine K.region (by kernel_rfl) ?_
    refine RJ.seg 2 [2, 3, 4, 12] (L2 := [(2, .ptr 0 0), (3, .ptr 1 0), (4, .bool false), (12, .bool y1)]) (H2 := [.box [.int .i64 x0.Fuel_, .int .i64 x0.Room_, lsv (encI .i32) 1 x0.Out_], .box [.int .i64 x1.Fuel_, .int .i64 x1.Room_, lsv (encI .i32) 1 x1.Out_]]) (by kernel_rfl) ?_
    refine RJ.caseB 12 (b := y1) (by kernel_rfl) (fun hb15 => ?_) (fun hb15 => ?_)
    · have h16 := condT hb15 hy12
      refine RJ.seg 7 [2, 3, 4, 19] (L2 := [(2, .ptr 0 0), (3, .ptr 1 0), (4, .bool false), (19, .bool (decide (x0.Fuel_ = x1.Fuel_)))]) (H2 := [.box [.int .i64 x0.Fuel_, .int .i64 x0.Room_, lsv (encI .i32) 1 x0.Out_], .box [.int .i64 x1.Fuel_, .int .i64 x1.Room_, lsv (encI .i32) 1 x1.Out_]]) (by kernel_rfl) ?_
      refine RJ.caseB 19 (b := (decide (x0.Fuel_ = x1.Fuel_))) (by kernel_rfl) (fun hb18 => ?_) (fun hb18 => ?_)
      · have h19 := condT hb18 h16
        refine RJ.seg 7 [4] (L2 := [(4, .bool (decide (x0.Room_ = x1.Room_)))]) (H2 := [.box [.int .i64 x0.Fuel_, .int .i64 x0.Room_, lsv (encI .i32) 1 x0.Out_], .box [.int .i64 x1.Fuel_, .int .i64 x1.Room_, lsv (encI .i32) 1 x1.Out_]]) (by kernel_rfl) ?_
        refine RJ.end (by kernel_rfl) ?_
        obtain rfl := Option.some.inj h19
        refine PJ.wk (Wk.sel (L2 := [(4, .bool (decide (x0.Room_ = x1.Room_)))]) (H2 := []) 0 (by rw [hFH]; rfl) hFD [] (by kernel_rfl) (by kernel_rfl) (by decide) (by kernel_rfl) (by kernel_rfl) (by kernel_rfl) (by kernel_rfl)) ?_
        exact PJ.cutN [4] (by kernel_rfl) (by kernel_rfl)
      · have h20 := condF hb18 h16
        refine RJ.seg 7 [4] (L2 := [(4, .bool false)]) (H2 := [.box [.int .i64 x0.Fuel_, .int .i64 x0.Room_, lsv (encI .i32) 1 x0.Out_], .box [.int .i64 x1.Fuel_, .int .i64 x1.Room_, lsv (encI .i32) 1 x1.Out_]]) (by kernel_rfl) ?_
        refine RJ.end (by kernel_rfl) ?_
        obtain rfl := Option.some.inj h20
        refine PJ.wk (Wk.sel (L2 := [(4, .bool false)]) (H2 := []) 0 (by rw [hFH]; rfl) hFD [] (by kernel_rfl) (by kernel_rfl) (by decide) (by kernel_rfl) (by kernel_rfl) (by kernel_rfl) (by kernel_rfl)) ?_
        exact PJ.cutN [4] (by kernel_rfl) (by kernel_rfl)
    · have h17 := condF hb15 hy12
      refine RJ.seg 14 [4] (L2 := [(4, .bool false)]) (H2 := [.box [.int .i64 x0.Fuel_, .int .i64 x0.Room_, lsv (encI .i32) 1 x0.Out_], .box [.int .i64 x1.Fuel_, .int .i64 x1.Room_, lsv (encI .i32) 1 x1.Out_]]) (by kernel_rfl) ?_
      refine RJ.end (by kernel_rfl) ?_
      obtain rfl := Option.some.inj h17
      refine PJ.wk (Wk.sel (L2 := [(4, .bool false)]) (H2 := []) 0 (by rw [hFH]; rfl) hFD [] (by kernel_rfl) (by kernel_rfl) (by decide) (by kernel_rfl) (by kernel_rfl) (by kernel_rfl) (by kernel_rfl)) ?_
      exact PJ.cutN [4] (by kernel_rfl) (by kernel_rfl)
  · refine K.ret (by kernel_rfl) ?_
    obtain rfl := Option.some.inj h14
    exact K.ret0 (.inr rfl) hFn hFH hFD (by kernel_rfl) (by kernel_rfl) (by kernel_rfl)

def exerguelaw04_TankParts (x0 : St23) (x1 : List Int) (x2 : List Int) : Option (Bool) :=
  (Option.bind exerguelaw04_shown fun y1 => (Option.bind (Option.bind (Option.bind (exergueref04_Right x0) fun y41 => (bif (!y41) then (some true) else (some ((decide (((IntKind.wrap .i64 ((x1.length : Int) + (x2.length : Int)))) > 1000)))))) fun (s36 : Bool) => (bif s36 then (some (.inr y1)) else (some (.inl ())))) (joinX fun (s25 : Unit) => (bif room x1.length then (bif room (x1.length + x2.length) then (Option.bind (tank_Put x0 (x1 ++ x2)) fun y53 => (Option.bind (tank_Put x0 x1) fun y56 => (Option.bind (bif (decide (y56.2 = 0)) then (Option.bind (tank_Put y56.1 x2) fun y73 => (some (y73.2, y73.1.Fuel_, y73.1.Room_, y73.1.Out_))) else (some (y56.2, y56.1.Fuel_, y56.1.Room_, y56.1.Out_))) fun (s65 : Int × Int × Int × (List Int)) => (Option.bind (Option.bind (bif (decide (¬ y53.2 = s65.1)) then (some true) else (Option.bind (exergueref04_Same y53.1 (⟨s65.2.1, s65.2.2.1, s65.2.2.2⟩ : St23)) fun y134 => (bif (!y134) then (some true) else (bif (decide ((y53.1.Out_.length : Int) < (x0.Out_.length : Int))) then (some true) else (some ((decide ((y53.1.Out_.length : Int) > ((IntKind.wrap .i64 ((x0.Out_.length : Int) + ((x1 ++ x2).length : Int)))))))))))) fun (s126 : Bool) => (bif s126 then (some (.inr false)) else (some (.inl ())))) (joinX fun (s109 : Unit) => (Option.bind (bif y1 then (bif room x0.Out_.length then (bif inS 0 ((IntKind.wrap .i64 ((y53.1.Out_.length : Int) - (x0.Out_.length : Int)))) (x1 ++ x2).length then (bif room (x0.Out_.length + ((cut (x1 ++ x2) 0 ((IntKind.wrap .i64 ((y53.1.Out_.length : Int) - (x0.Out_.length : Int)))))).length) then (Option.bind (exergueref01_Same y53.1.Out_ ((x0.Out_ ++ ((cut (x1 ++ x2) 0 ((IntKind.wrap .i64 ((y53.1.Out_.length : Int) - (x0.Out_.length : Int))))))))) fun y170 => (bif y170 then (some (((decide (¬ y53.2 = 0)) == ((decide (((IntKind.wrap .i64 ((y53.1.Out_.length : Int) - (x0.Out_.length : Int)))) < ((x1 ++ x2).length : Int))))))) else (some false))) else none) else none) else none) else (some false)) fun (s159 : Bool) => (some s159))))))) else none) else none))))
theorem exerguelaw04_TankParts_ok {x0 : St23} {x1 : List Int} {x2 : List Int} {r : Bool} (h : exerguelaw04_TankParts x0 x1 x2 = some r) : SC Try.prog 3 [.agg [.int .i64 x0.Fuel_, .int .i64 x0.Room_, lsv (encI .i32) 1 x0.Out_], lsv (encI .i32) 1 x1, lsv (encI .i32) 1 x2] [] (.bool r) [] := by
  refine K.fn (fn := Try.f3) (by kernel_rfl) (by kernel_rfl) (by kernel_rfl) (by kernel_rfl) (by kernel_rfl) (fun F hFn hFH hFD => ?_)
  unfold exerguelaw04_TankParts at h
  refine K.seq (by kernel_rfl) ?_
  refine K.region (by kernel_rfl) ?_
  refine RJ.seg 2 [1, 2, 3, 6] (L2 := [(1, lsv (encI .i32) 1 x1), (2, lsv (encI .i32) 1 x2), (3, .ptr 0 0), (6, .bool false)]) (H2 := [.box [.int .i64 x0.Fuel_, .int .i64 x0.Room_, lsv (encI .i32) 1 x0.Out_]]) (by kernel_rfl) ?_
  refine RJ.end (by kernel_rfl) ?_
  refine PJ.next ?_
  refine K.seq (by kernel_rfl) ?_
  refine K.region (by kernel_rfl) ?_
  obtain ⟨y1, hy2, h3⟩ := bindS h
  refine RJ.call0 (d := (some 14)) (f := 8) (args := []) (v := .bool y1) (tr2 := []) (by kernel_rfl) (by kernel_rfl) .nil (exerguelaw04_shown_ok hy2) (by kernel_rfl) ?_
  refine RJ.seg 1 [1, 2, 3, 6, 7] (L2 := [(1, lsv (encI .i32) 1 x1), (2, lsv (encI .i32) 1 x2), (3, .ptr 0 0), (6, .bool false), (7, .bool y1)]) (H2 := [.box [.int .i64 x0.Fuel_, .int .i64 x0.Room_, lsv (encI .i32) 1 x0.Out_]]) (by kernel_rfl) ?_
  refine RJ.end (by kernel_rfl) ?_
  refine PJ.next ?_
  obtain ⟨y26, hy27, h28⟩ := bindS h3
  refine K.cutX (by kernel_rfl) (fun (s25 : Unit) => ([(1, lsv (encI .i32) 1 x1), (2, lsv (encI .i32) 1 x2), (3, .ptr 0 0), (6, .bool false), (7, .bool y1)], [.box [.int .i64 x0.Fuel_, .int .i64 x0.Room_, lsv (encI .i32) 1 x0.Out_]])) y26 ?_ (fun s25 hs => ?_)
  · obtain ⟨s36, hy38, h40⟩ := bindS hy27
    refine K.cutN (by kernel_rfl) (fun (s36 : Bool) => ([(1, lsv (encI .i32) 1 x1), (2, lsv (encI .i32) 1 x2), (3, .ptr 0 0), (6, .bool false), (7, .bool y1), (25, .bool s36)], [.box [.int .i64 x0.Fuel_, .int .i64 x0.Room_, lsv (encI .i32) 1 x0.Out_]])) s36 ?_ ?_
    · refine K.region (by kernel_rfl) ?_
      refine RJ.seg 1 [1, 2, 3, 6, 7, 15] (L2 := [(1, lsv (encI .i32) 1 x1), (2, lsv (encI .i32) 1 x2), (3, .ptr 0 0), (6, .bool false), (7, .bool y1), (15, .agg [.int .i64 x0.Fuel_, .int .i64 x0.Room_, lsv (encI .i32) 1 x0.Out_])]) (H2 := [.box [.int .i64 x0.Fuel_, .int .i64 x0.Room_, lsv (encI .i32) 1 x0.Out_]]) (by kernel_rfl) ?_
      obtain ⟨y41, hy42, h43⟩ := bindS hy38
      refine RJ.call0 (d := (some 16)) (f := 9) (args := [.agg [.int .i64 x0.Fuel_, .int .i64 x0.Room_, lsv (encI .i32) 1 x0.Out_]]) (v := .bool y41) (tr2 := []) (by kernel_rfl) (by kernel_rfl) (.cons (Le.refl _) .nil) (exergueref04_Right_ok hy42) (by kernel_rfl) ?_
      refine RJ.seg 2 [1, 2, 3, 6, 7, 18] (L2 := [(1, lsv (encI .i32) 1 x1), (2, lsv (encI .i32) 1 x2), (3, .ptr 0 0), (6, .bool false), (7, .bool y1), (18, .bool (!y41))]) (H2 := [.box [.int .i64 x0.Fuel_, .int .i64 x0.Room_, lsv (encI .i32) 1 x0.Out_]]) (by kernel_rfl) ?_
      refine RJ.caseB 18 (b := (!y41)) (by kernel_rfl) (fun hb44 => ?_) (fun hb44 => ?_)
      · have h45 := condT hb44 h43
        refine RJ.seg 7 [1, 2, 3, 6, 7, 25] (L2 := [(1, lsv (encI .i32) 1 x1), (2, lsv (encI .i32) 1 x2), (3, .ptr 0 0), (6, .bool false), (7, .bool y1), (25, .bool true)]) (H2 := [.box [.int .i64 x0.Fuel_, .int .i64 x0.Room_, lsv (encI .i32) 1 x0.Out_]]) (by kernel_rfl) ?_
        refine RJ.end (by kernel_rfl) ?_
        obtain rfl := Option.some.inj h45
        exact PJ.cutN [1, 2, 3, 6, 7, 25] (by kernel_rfl) (by kernel_rfl)
      · have h46 := condF hb44 h43
        refine RJ.seg 7 [1, 2, 3, 6, 7, 25] (L2 := [(1, lsv (encI .i32) 1 x1), (2, lsv (encI .i32) 1 x2), (3, .ptr 0 0), (6, .bool false), (7, .bool y1), (25, .bool ((decide (((IntKind.wrap .i64 ((x1.length : Int) + (x2.length : Int)))) > 1000))))]) (H2 := [.box [.int .i64 x0.Fuel_, .int .i64 x0.Room_, lsv (encI .i32) 1 x0.Out_]]) (by kernel_rfl) ?_
        refine RJ.end (by kernel_rfl) ?_
        obtain rfl := Option.some.inj h46
        exact PJ.cutN [1, 2, 3, 6, 7, 25] (by kernel_rfl) (by kernel_rfl)
    · refine J.caseB 25 (b := s36) (by kernel_rfl) (fun hb47 => ?_) (fun hb47 => ?_)
      · have h48 := condT hb47 h40
        refine K.condT (by kernel_rfl) ?_
        refine K.seq (by kernel_rfl) ?_
        refine K.region (by kernel_rfl) ?_
        refine RJ.seg 2 [1, 2, 3, 6, 7] (L2 := [(1, lsv (encI .i32) 1 x1), (2, lsv (encI .i32) 1 x2), (3, .ptr 0 0), (6, .bool y1), (7, .bool y1)]) (H2 := [.box [.int .i64 x0.Fuel_, .int .i64 x0.Room_, lsv (encI .i32) 1 x0.Out_]]) (by kernel_rfl) ?_
        refine RJ.end (by kernel_rfl) ?_
        refine PJ.next ?_
        refine K.ret (by kernel_rfl) ?_
        obtain rfl := Option.some.inj h48
        have h50 := joinX_inr h28
        refine PJ.cutXr (fun e => nomatch e) ?_
        obtain rfl := Option.some.inj h50
        exact K.ret0 (.inr rfl) hFn hFH hFD (by kernel_rfl) (by kernel_rfl) (by kernel_rfl)
      · have h49 := condF hb47 h40
        refine K.condF (by kernel_rfl) ?_
        refine K.skip (by kernel_rfl) ?_
        obtain rfl := Option.some.inj h49
        exact PJ.cutXl [1, 2, 3, 6, 7] (by kernel_rfl) (by kernel_rfl)
  · subst hs
    have h29 := joinX_inl h28
    refine K.seq (by kernel_rfl) ?_
    refine K.region (by kernel_rfl) ?_
    refine RJ.seg 2 [1, 2, 3, 6, 7, 27, 28] (L2 := [(1, lsv (encI .i32) 1 x1), (2, lsv (encI .i32) 1 x2), (3, .ptr 0 0), (6, .bool false), (7, .bool y1), (27, .nl), (28, lsv (encI .i32) 1 x1)]) (H2 := [.box [.int .i64 x0.Fuel_, .int .i64 x0.Room_, lsv (encI .i32) 1 x0.Out_]]) (by kernel_rfl) ?_
    obtain ⟨hm, h51⟩ := asrt h29
    refine RJ.rel (d := (some 29)) (ef := ⟨.vc 1, [], [(1, .vec x1.length 1 21 (x1.flatMap (encI .i32)))]⟩) (ef' := ⟨.vc 1, [], [(1, .vec x1.length 1 21 (x1.flatMap (encI .i32)))]⟩) (c := room x1.length) (tr2 := []) (H2 := [.box [.int .i64 x0.Fuel_, .int .i64 x0.Room_, lsv (encI .i32) 1 x0.Out_], vecL (encI .i32) 1 21 x1]) (by kernel_rfl) hm (fun hc => rfl) (by kernel_rfl) ?_
    refine RJ.seg 1 [1, 2, 3, 6, 7, 29, 30] (L2 := [(1, lsv (encI .i32) 1 x1), (2, lsv (encI .i32) 1 x2), (3, .ptr 0 0), (6, .bool false), (7, .bool y1), (29, .vc 1), (30, lsv (encI .i32) 1 x2)]) (H2 := [.box [.int .i64 x0.Fuel_, .int .i64 x0.Room_, lsv (encI .i32) 1 x0.Out_], vecL (encI .i32) 1 21 x1]) (by kernel_rfl) ?_
    obtain ⟨hm, h52⟩ := asrt h51
    refine RJ.rel (d := (some 31)) (ef := ⟨.vc 2, [1], [(1, .gone), (2, .vec (x1.length + x2.length) 1 21 (x1.flatMap (encI .i32) ++ x2.flatMap (encI .i32)))]⟩) (ef' := ⟨.vc 2, [1], [(1, .gone), (2, vecL (encI .i32) 1 21 (x1 ++ x2))]⟩) (c := room (x1.length + x2.length)) (tr2 := []) (H2 := [.box [.int .i64 x0.Fuel_, .int .i64 x0.Room_, lsv (encI .i32) 1 x0.Out_], .gone, vecL (encI .i32) 1 21 (x1 ++ x2)]) (by kernel_rfl) hm (fun hc => N.app) (by kernel_rfl) ?_
    refine RJ.seg 1 [1, 2, 3, 6, 7, 8] (L2 := [(1, lsv (encI .i32) 1 x1), (2, lsv (encI .i32) 1 x2), (3, .ptr 0 0), (6, .bool false), (7, .bool y1), (8, .vc 2)]) (H2 := [.box [.int .i64 x0.Fuel_, .int .i64 x0.Room_, lsv (encI .i32) 1 x0.Out_], .gone, vecL (encI .i32) 1 21 (x1 ++ x2)]) (by kernel_rfl) ?_
    refine RJ.end (by kernel_rfl) ?_
    refine PJ.next ?_
    refine K.seq (by kernel_rfl) ?_
    refine K.region (by kernel_rfl) ?_
    refine RJ.seg 2 [1, 2, 3, 6, 7, 8, 33, 34] (L2 := [(1, lsv (encI .i32) 1 x1), (2, lsv (encI .i32) 1 x2), (3, .ptr 0 0), (6, .bool false), (7, .bool y1), (8, .vc 2), (33, .agg [.int .i64 x0.Fuel_, .int .i64 x0.Room_, lsv (encI .i32) 1 x0.Out_]), (34, .vc 2)]) (H2 := [.box [.int .i64 x0.Fuel_, .int .i64 x0.Room_, lsv (encI .i32) 1 x0.Out_], .gone, vecL (encI .i32) 1 21 (x1 ++ x2)]) (by kernel_rfl) ?_
    obtain ⟨y53, hy54, h55⟩ := bindS h52
    refine RJ.wk (Wk.freeze 2 (n := (x1 ++ x2).length) (k := 1) (e := 21) (cs := (x1 ++ x2).flatMap (encI .i32)) (by kernel_rfl)) ?_
    refine RJ.call0 (d := (some 35)) (f := 10) (args := [.agg [.int .i64 x0.Fuel_, .int .i64 x0.Room_, lsv (encI .i32) 1 x0.Out_], lsv (encI .i32) 1 (x1 ++ x2)]) (v := .tup [.agg [.int .i64 y53.1.Fuel_, .int .i64 y53.1.Room_, lsv (encI .i32) 1 y53.1.Out_], .int .i64 y53.2]) (tr2 := []) (by kernel_rfl) (by kernel_rfl) (.cons (Le.refl _) (.cons (Le.refl _) .nil)) (tank_Put_ok hy54) (by kernel_rfl) ?_
    refine RJ.seg 6 [1, 2, 3, 6, 7, 8, 9, 10] (L2 := [(1, lsv (encI .i32) 1 x1), (2, lsv (encI .i32) 1 x2), (3, .ptr 0 0), (6, .bool false), (7, .bool y1), (8, lsv (encI .i32) 1 (x1 ++ x2)), (9, .ptr 3 0), (10, .int .i64 y53.2)]) (H2 := [.box [.int .i64 x0.Fuel_, .int .i64 x0.Room_, lsv (encI .i32) 1 x0.Out_], .gone, .gone, .box [.int .i64 y53.1.Fuel_, .int .i64 y53.1.Room_, lsv (encI .i32) 1 y53.1.Out_]]) (by kernel_rfl) ?_
    refine RJ.end (by kernel_rfl) ?_
    refine PJ.next ?_
    refine K.seq (by kernel_rfl) ?_
    refine K.region (by kernel_rfl) ?_
    refine RJ.seg 2 [2, 3, 6, 7, 8, 9, 10, 39, 40] (L2 := [(2, lsv (encI .i32) 1 x2), (3, .ptr 0 0), (6, .bool false), (7, .bool y1), (8, lsv (encI .i32) 1 (x1 ++ x2)), (9, .ptr 3 0), (10, .int .i64 y53.2), (39, .agg [.int .i64 x0.Fuel_, .int .i64 x0.Room_, lsv (encI .i32) 1 x0.Out_]), (40, lsv (encI .i32) 1 x1)]) (H2 := [.box [.int .i64 x0.Fuel_, .int .i64 x0.Room_, lsv (encI .i32) 1 x0.Out_], .gone, .gone, .box [.int .i64 y53.1.Fuel_, .int .i64 y53.1.Room_, lsv (encI .i32) 1 y53.1.Out_]]) (by kernel_rfl) ?_
    obtain ⟨y56, hy57, h58⟩ := bindS h55
    refine RJ.call0 (d := (some 41)) (f := 10) (args := [.agg [.int .i64 x0.Fuel_, .int .i64 x0.Room_, lsv (encI .i32) 1 x0.Out_], lsv (encI .i32) 1 x1]) (v := .tup [.agg [.int .i64 y56.1.Fuel_, .int .i64 y56.1.Room_, lsv (encI .i32) 1 y56.1.Out_], .int .i64 y56.2]) (tr2 := []) (by kernel_rfl) (by kernel_rfl) (.cons (Le.refl _) (.cons (Le.refl _) .nil)) (tank_Put_ok hy57) (by kernel_rfl) ?_
    refine RJ.seg 6 [2, 3, 6, 7, 8, 9, 10, 11, 12] (L2 := [(2, lsv (encI .i32) 1 x2), (3, .ptr 0 0), (6, .bool false), (7, .bool y1), (8, lsv (encI .i32) 1 (x1 ++ x2)), (9, .ptr 3 0), (10, .int .i64 y53.2), (11, .ptr 4 0), (12, .int .i64 y56.2)]) (H2 := [.box [.int .i64 x0.Fuel_, .int .i64 x0.Room_, lsv (encI .i32) 1 x0.Out_], .gone, .gone, .box [.int .i64 y53.1.Fuel_, .int .i64 y53.1.Room_, lsv (encI .i32) 1 y53.1.Out_], .box [.int .i64 y56.1.Fuel_, .int .i64 y56.1.Room_, lsv (encI .i32) 1 y56.1.Out_]]) (by kernel_rfl) ?_
    refine RJ.end (by kernel_rfl) ?_
    refine PJ.next ?_
    obtain ⟨s65, hy67, h69⟩ := bindS h58
    refine K.cutN (by kernel_rfl) (fun (s65 : Int × Int × Int × (List Int)) => ([(3, .ptr 0 0), (6, .bool false), (7, .bool y1), (8, lsv (encI .i32) 1 (x1 ++ x2)), (9, .ptr 1 0), (10, .int .i64 y53.2), (11, .ptr 2 0), (12, .int .i64 s65.1)], [.box [.int .i64 x0.Fuel_, .int .i64 x0.Room_, lsv (encI .i32) 1 x0.Out_], .box [.int .i64 y53.1.Fuel_, .int .i64 y53.1.Room_, lsv (encI .i32) 1 y53.1.Out_], .box [.int .i64 s65.2.1, .int .i64 s65.2.2.1, lsv (encI .i32) 1 s65.2.2.2]])) s65 ?_ ?_
    · refine K.seq (by kernel_rfl) ?_
      refine K.region (by kernel_rfl) ?_
      refine RJ.seg 2 [2, 3, 6, 7, 8, 9, 10, 11, 12, 45] (L2 := [(2, lsv (encI .i32) 1 x2), (3, .ptr 0 0), (6, .bool false), (7, .bool y1), (8, lsv (encI .i32) 1 (x1 ++ x2)), (9, .ptr 3 0), (10, .int .i64 y53.2), (11, .ptr 4 0), (12, .int .i64 y56.2), (45, .bool (decide (y56.2 = 0)))]) (H2 := [.box [.int .i64 x0.Fuel_, .int .i64 x0.Room_, lsv (encI .i32) 1 x0.Out_], .gone, .gone, .box [.int .i64 y53.1.Fuel_, .int .i64 y53.1.Room_, lsv (encI .i32) 1 y53.1.Out_], .box [.int .i64 y56.1.Fuel_, .int .i64 y56.1.Room_, lsv (encI .i32) 1 y56.1.Out_]]) (by kernel_rfl) ?_
      refine RJ.end (by kernel_rfl) ?_
      refine PJ.next ?_
      refine J.caseB 45 (b := (decide (y56.2 = 0))) (by kernel_rfl) (fun hb70 => ?_) (fun hb70 => ?_)
      · have h71 := condT hb70 hy67
        refine K.condT (by kernel_rfl) ?_
        refine K.region (by kernel_rfl) ?_
        refine RJ.seg 2 [3, 6, 7, 8, 9, 10, 11, 12, 47, 48] (L2 := [(3, .ptr 0 0), (6, .bool false), (7, .bool y1), (8, lsv (encI .i32) 1 (x1 ++ x2)), (9, .ptr 3 0), (10, .int .i64 y53.2), (11, .ptr 4 0), (12, .int .i64 y56.2), (47, .agg [.int .i64 y56.1.Fuel_, .int .i64 y56.1.Room_, lsv (encI .i32) 1 y56.1.Out_]), (48, lsv (encI .i32) 1 x2)]) (H2 := [.box [.int .i64 x0.Fuel_, .int .i64 x0.Room_, lsv (encI .i32) 1 x0.Out_], .gone, .gone, .box [.int .i64 y53.1.Fuel_, .int .i64 y53.1.Room_, lsv (encI .i32) 1 y53.1.Out_], .box [.int .i64 y56.1.Fuel_, .int .i64 y56.1.Room_, lsv (encI .i32) 1 y56.1.Out_]]) (by kernel_rfl) ?_
        obtain ⟨y73, hy74, h75⟩ := bindS h71
        refine RJ.call0 (d := (some 49)) (f := 10) (args := [.agg [.int .i64 y56.1.Fuel_, .int .i64 y56.1.Room_, lsv (encI .i32) 1 y56.1.Out_], lsv (encI .i32) 1 x2]) (v := .tup [.agg [.int .i64 y73.1.Fuel_, .int .i64 y73.1.Room_, lsv (encI .i32) 1 y73.1.Out_], .int .i64 y73.2]) (tr2 := []) (by kernel_rfl) (by kernel_rfl) (.cons (Le.refl _) (.cons (Le.refl _) .nil)) (tank_Put_ok hy74) (by kernel_rfl) ?_
        refine RJ.seg 5 [3, 6, 7, 8, 9, 10, 11, 12] (L2 := [(3, .ptr 0 0), (6, .bool false), (7, .bool y1), (8, lsv (encI .i32) 1 (x1 ++ x2)), (9, .ptr 3 0), (10, .int .i64 y53.2), (11, .ptr 4 0), (12, .int .i64 y73.2)]) (H2 := [.box [.int .i64 x0.Fuel_, .int .i64 x0.Room_, lsv (encI .i32) 1 x0.Out_], .gone, .gone, .box [.int .i64 y53.1.Fuel_, .int .i64 y53.1.Room_, lsv (encI .i32) 1 y53.1.Out_], .box [.int .i64 y73.1.Fuel_, .int .i64 y73.1.Room_, lsv (encI .i32) 1 y73.1.Out_]]) (by kernel_rfl) ?_
        refine RJ.end (by kernel_rfl) ?_
        obtain rfl := Option.some.inj h75
        refine PJ.wk (Wk.sel (L2 := [(3, .ptr 0 0), (6, .bool false), (7, .bool y1), (8, lsv (encI .i32) 1 (x1 ++ x2)), (9, .ptr 1 0), (10, .int .i64 y53.2), (11, .ptr 2 0), (12, .int .i64 y73.2)]) (H2 := [.box [.int .i64 x0.Fuel_, .int .i64 x0.Room_, lsv (encI .i32) 1 x0.Out_], .box [.int .i64 y53.1.Fuel_, .int .i64 y53.1.Room_, lsv (encI .i32) 1 y53.1.Out_], .box [.int .i64 y73.1.Fuel_, .int .i64 y73.1.Room_, lsv (encI .i32) 1 y73.1.Out_]]) 0 (by rw [hFH]; rfl) hFD [0, 3, 4] (by kernel_rfl) (by kernel_rfl) (by decide) (by kernel_rfl) (by kernel_rfl) (by kernel_rfl) (by kernel_rfl)) ?_
        exact PJ.cutN [3, 6, 7, 8, 9, 10, 11, 12] (by kernel_rfl) (by kernel_rfl)
      · have h72 := condF hb70 hy67
        refine K.condF (by kernel_rfl) ?_
        refine K.skip (by kernel_rfl) ?_
        obtain rfl := Option.some.inj h72
        refine PJ.wk (Wk.sel (L2 := [(3, .ptr 0 0), (6, .bool false), (7, .bool y1), (8, lsv (encI .i32) 1 (x1 ++ x2)), (9, .ptr 1 0), (10, .int .i64 y53.2), (11, .ptr 2 0), (12, .int .i64 y56.2)]) (H2 := [.box [.int .i64 x0.Fuel_, .int .i64 x0.Room_, lsv (encI .i32) 1 x0.Out_], .box [.int .i64 y53.1.Fuel_, .int .i64 y53.1.Room_, lsv (encI .i32) 1 y53.1.Out_], .box [.int .i64 y56.1.Fuel_, .int .i64 y56.1.Room_, lsv (encI .i32) 1 y56.1.Out_]]) 0 (by rw [hFH]; rfl) hFD [0, 3, 4] (by kernel_rfl) (by kernel_rfl) (by decide) (by kernel_rfl) (by kernel_rfl) (by kernel_rfl) (by kernel_rfl)) ?_
        exact PJ.cutN [3, 6, 7, 8, 9, 10, 11, 12] (by kernel_rfl) (by kernel_rfl)
    · obtain ⟨y110, hy111, h112⟩ := bindS h69
      refine K.cutX (by kernel_rfl) (fun (s109 : Unit) => ([(3, .ptr 0 0), (6, .bool false), (7, .bool y1), (8, lsv (encI .i32) 1 (x1 ++ x2)), (9, .ptr 1 0), (10, .int .i64 y53.2)], [.box [.int .i64 x0.Fuel_, .int .i64 x0.Room_, lsv (encI .i32) 1 x0.Out_], .box [.int .i64 y53.1.Fuel_, .int .i64 y53.1.Room_, lsv (encI .i32) 1 y53.1.Out_]])) y110 ?_ (fun s109 hs => ?_)
      · obtain ⟨s126, hy128, h130⟩ := bindS hy111
        refine K.cutN (by kernel_rfl) (fun (s126 : Bool) => ([(3, .ptr 0 0), (6, .bool false), (7, .bool y1), (8, lsv (encI .i32) 1 (x1 ++ x2)), (9, .ptr 1 0), (10, .int .i64 y53.2), (81, .bool s126)], [.box [.int .i64 x0.Fuel_, .int .i64 x0.Room_, lsv (encI .i32) 1 x0.Out_], .box [.int .i64 y53.1.Fuel_, .int .i64 y53.1.Room_, lsv (encI .i32) 1 y53.1.Out_]])) s126 ?_ ?_
        · refine K.region (by kernel_rfl) ?_
          refine RJ.seg 4 [3, 6, 7, 8, 9, 10, 11, 55] (L2 := [(3, .ptr 0 0), (6, .bool false), (7, .bool y1), (8, lsv (encI .i32) 1 (x1 ++ x2)), (9, .ptr 1 0), (10, .int .i64 y53.2), (11, .ptr 2 0), (55, .bool (decide (¬ y53.2 = s65.1)))]) (H2 := [.box [.int .i64 x0.Fuel_, .int .i64 x0.Room_, lsv (encI .i32) 1 x0.Out_], .box [.int .i64 y53.1.Fuel_, .int .i64 y53.1.Room_, lsv (encI .i32) 1 y53.1.Out_], .box [.int .i64 s65.2.1, .int .i64 s65.2.2.1, lsv (encI .i32) 1 s65.2.2.2]]) (by kernel_rfl) ?_
          refine RJ.caseB 55 (b := (decide (¬ y53.2 = s65.1))) (by kernel_rfl) (fun hb131 => ?_) (fun hb131 => ?_)
          · have h132 := condT hb131 hy128
            refine RJ.seg 26 [3, 6, 7, 8, 9, 10, 81] (L2 := [(3, .ptr 0 0), (6, .bool false), (7, .bool y1), (8, lsv (encI .i32) 1 (x1 ++ x2)), (9, .ptr 1 0), (10, .int .i64 y53.2), (81, .bool true)]) (H2 := [.box [.int .i64 x0.Fuel_, .int .i64 x0.Room_, lsv (encI .i32) 1 x0.Out_], .box [.int .i64 y53.1.Fuel_, .int .i64 y53.1.Room_, lsv (encI .i32) 1 y53.1.Out_], .box [.int .i64 s65.2.1, .int .i64 s65.2.2.1, lsv (encI .i32) 1 s65.2.2.2]]) (by kernel_rfl) ?_
            refine RJ.end (by kernel_rfl) ?_
            obtain rfl := Option.some.inj h132
            refine PJ.wk (Wk.sel (L2 := [(3, .ptr 0 0), (6, .bool false), (7, .bool y1), (8, lsv (encI .i32) 1 (x1 ++ x2)), (9, .ptr 1 0), (10, .int .i64 y53.2), (81, .bool true)]) (H2 := [.box [.int .i64 x0.Fuel_, .int .i64 x0.Room_, lsv (encI .i32) 1 x0.Out_], .box [.int .i64 y53.1.Fuel_, .int .i64 y53.1.Room_, lsv (encI .i32) 1 y53.1.Out_]]) 0 (by rw [hFH]; rfl) hFD [0, 1] (by kernel_rfl) (by kernel_rfl) (by decide) (by kernel_rfl) (by kernel_rfl) (by kernel_rfl) (by kernel_rfl)) ?_
            exact PJ.cutN [3, 6, 7, 8, 9, 10, 81] (by kernel_rfl) (by kernel_rfl)
          · have h133 := condF hb131 hy128
            refine RJ.seg 2 [3, 6, 7, 8, 9, 10, 55, 56, 57] (L2 := [(3, .ptr 0 0), (6, .bool false), (7, .bool y1), (8, lsv (encI .i32) 1 (x1 ++ x2)), (9, .ptr 1 0), (10, .int .i64 y53.2), (55, .bool false), (56, .agg [.int .i64 y53.1.Fuel_, .int .i64 y53.1.Room_, lsv (encI .i32) 1 y53.1.Out_]), (57, .agg [.int .i64 s65.2.1, .int .i64 s65.2.2.1, lsv (encI .i32) 1 s65.2.2.2])]) (H2 := [.box [.int .i64 x0.Fuel_, .int .i64 x0.Room_, lsv (encI .i32) 1 x0.Out_], .box [.int .i64 y53.1.Fuel_, .int .i64 y53.1.Room_, lsv (encI .i32) 1 y53.1.Out_], .box [.int .i64 s65.2.1, .int .i64 s65.2.2.1, lsv (encI .i32) 1 s65.2.2.2]]) (by kernel_rfl) ?_
            obtain ⟨y134, hy135, h136⟩ := bindS h133
            refine RJ.call0 (d := (some 58)) (f := 11) (args := [.agg [.int .i64 y53.1.Fuel_, .int .i64 y53.1.Room_, lsv (encI .i32) 1 y53.1.Out_], .agg [.int .i64 s65.2.1, .int .i64 s65.2.2.1, lsv (encI .i32) 1 s65.2.2.2]]) (v := .bool y134) (tr2 := []) (by kernel_rfl) (by kernel_rfl) (.cons (Le.refl _) (.cons (Le.refl _) .nil)) (exergueref04_Same_ok hy135) (by kernel_rfl) ?_
            refine RJ.seg 3 [3, 6, 7, 8, 9, 10, 61] (L2 := [(3, .ptr 0 0), (6, .bool false), (7, .bool y1), (8, lsv (encI .i32) 1 (x1 ++ x2)), (9, .ptr 1 0), (10, .int .i64 y53.2), (61, .bool (!y134))]) (H2 := [.box [.int .i64 x0.Fuel_, .int .i64 x0.Room_, lsv (encI .i32) 1 x0.Out_], .box [.int .i64 y53.1.Fuel_, .int .i64 y53.1.Room_, lsv (encI .i32) 1 y53.1.Out_], .box [.int .i64 s65.2.1, .int .i64 s65.2.2.1, lsv (encI .i32) 1 s65.2.2.2]]) (by kernel_rfl) ?_
            refine RJ.caseB 61 (b := (!y134)) (by kernel_rfl) (fun hb137 => ?_) (fun hb137 => ?_)
            · have h138 := condT hb137 h136
              refine RJ.seg 20 [3, 6, 7, 8, 9, 10, 81] (L2 := [(3, .ptr 0 0), (6, .bool false), (7, .bool y1), (8, lsv (encI .i32) 1 (x1 ++ x2)), (9, .ptr 1 0), (10, .int .i64 y53.2), (81, .bool true)]) (H2 := [.box [.int .i64 x0.Fuel_, .int .i64 x0.Room_, lsv (encI .i32) 1 x0.Out_], .box [.int .i64 y53.1.Fuel_, .int .i64 y53.1.Room_, lsv (encI .i32) 1 y53.1.Out_], .box [.int .i64 s65.2.1, .int .i64 s65.2.2.1, lsv (encI .i32) 1 s65.2.2.2]]) (by kernel_rfl) ?_
              refine RJ.end (by kernel_rfl) ?_
              obtain rfl := Option.some.inj h138
              refine PJ.wk (Wk.sel (L2 := [(3, .ptr 0 0), (6, .bool false), (7, .bool y1), (8, lsv (encI .i32) 1 (x1 ++ x2)), (9, .ptr 1 0), (10, .int .i64 y53.2), (81, .bool true)]) (H2 := [.box [.int .i64 x0.Fuel_, .int .i64 x0.Room_, lsv (encI .i32) 1 x0.Out_], .box [.int .i64 y53.1.Fuel_, .int .i64 y53.1.Room_, lsv (encI .i32) 1 y53.1.Out_]]) 0 (by rw [hFH]; rfl) hFD [0, 1] (by kernel_rfl) (by kernel_rfl) (by decide) (by kernel_rfl) (by kernel_rfl) (by kernel_rfl) (by kernel_rfl)) ?_
              exact PJ.cutN [3, 6, 7, 8, 9, 10, 81] (by kernel_rfl) (by kernel_rfl)
            · have h139 := condF hb137 h136
              refine RJ.seg 9 [3, 6, 7, 8, 9, 10, 70] (L2 := [(3, .ptr 0 0), (6, .bool false), (7, .bool y1), (8, lsv (encI .i32) 1 (x1 ++ x2)), (9, .ptr 1 0), (10, .int .i64 y53.2), (70, .bool ((decide ((y53.1.Out_.length : Int) < (x0.Out_.length : Int)))))]) (H2 := [.box [.int .i64 x0.Fuel_, .int .i64 x0.Room_, lsv (encI .i32) 1 x0.Out_], .box [.int .i64 y53.1.Fuel_, .int .i64 y53.1.Room_, lsv (encI .i32) 1 y53.1.Out_], .box [.int .i64 s65.2.1, .int .i64 s65.2.2.1, lsv (encI .i32) 1 s65.2.2.2]]) (by kernel_rfl) ?_
              refine RJ.caseB 70 (b := (decide ((y53.1.Out_.length : Int) < (x0.Out_.length : Int)))) (by kernel_rfl) (fun hb140 => ?_) (fun hb140 => ?_)
              · have h141 := condT hb140 h139
                refine RJ.seg 11 [3, 6, 7, 8, 9, 10, 81] (L2 := [(3, .ptr 0 0), (6, .bool false), (7, .bool y1), (8, lsv (encI .i32) 1 (x1 ++ x2)), (9, .ptr 1 0), (10, .int .i64 y53.2), (81, .bool true)]) (H2 := [.box [.int .i64 x0.Fuel_, .int .i64 x0.Room_, lsv (encI .i32) 1 x0.Out_], .box [.int .i64 y53.1.Fuel_, .int .i64 y53.1.Room_, lsv (encI .i32) 1 y53.1.Out_], .box [.int .i64 s65.2.1, .int .i64 s65.2.2.1, lsv (encI .i32) 1 s65.2.2.2]]) (by kernel_rfl) ?_
                refine RJ.end (by kernel_rfl) ?_
                obtain rfl := Option.some.inj h141
                refine PJ.wk (Wk.sel (L2 := [(3, .ptr 0 0), (6, .bool false), (7, .bool y1), (8, lsv (encI .i32) 1 (x1 ++ x2)), (9, .ptr 1 0), (10, .int .i64 y53.2), (81, .bool true)]) (H2 := [.box [.int .i64 x0.Fuel_, .int .i64 x0.Room_, lsv (encI .i32) 1 x0.Out_], .box [.int .i64 y53.1.Fuel_, .int .i64 y53.1.Room_, lsv (encI .i32) 1 y53.1.Out_]]) 0 (by rw [hFH]; rfl) hFD [0, 1] (by kernel_rfl) (by kernel_rfl) (by decide) (by kernel_rfl) (by kernel_rfl) (by kernel_rfl) (by kernel_rfl)) ?_
                exact PJ.cutN [3, 6, 7, 8, 9, 10, 81] (by kernel_rfl) (by kernel_rfl)
              · have h142 := condF hb140 h139
                refine RJ.seg 11 [3, 6, 7, 8, 9, 10, 81] (L2 := [(3, .ptr 0 0), (6, .bool false), (7, .bool y1), (8, lsv (encI .i32) 1 (x1 ++ x2)), (9, .ptr 1 0), (10, .int .i64 y53.2), (81, .bool ((decide ((y53.1.Out_.length : Int) > ((IntKind.wrap .i64 ((x0.Out_.length : Int) + ((x1 ++ x2).length : Int))))))))]) (H2 := [.box [.int .i64 x0.Fuel_, .int .i64 x0.Room_, lsv (encI .i32) 1 x0.Out_], .box [.int .i64 y53.1.Fuel_, .int .i64 y53.1.Room_, lsv (encI .i32) 1 y53.1.Out_], .box [.int .i64 s65.2.1, .int .i64 s65.2.2.1, lsv (encI .i32) 1 s65.2.2.2]]) (by kernel_rfl) ?_
                refine RJ.end (by kernel_rfl) ?_
                obtain rfl := Option.some.inj h142
                refine PJ.wk (Wk.sel (L2 := [(3, .ptr 0 0), (6, .bool false), (7, .bool y1), (8, lsv (encI .i32) 1 (x1 ++ x2)), (9, .ptr 1 0), (10, .int .i64 y53.2), (81, .bool ((decide ((y53.1.Out_.length : Int) > ((IntKind.wrap .i64 ((x0.Out_.length : Int) + ((x1 ++ x2).length : Int))))))))]) (H2 := [.box [.int .i64 x0.Fuel_, .int .i64 x0.Room_, lsv (encI .i32) 1 x0.Out_], .box [.int .i64 y53.1.Fuel_, .int .i64 y53.1.Room_, lsv (encI .i32) 1 y53.1.Out_]]) 0 (by rw [hFH]; rfl) hFD [0, 1] (by kernel_rfl) (by kernel_rfl) (by decide) (by kernel_rfl) (by kernel_rfl) (by kernel_rfl) (by kernel_rfl)) ?_
                exact PJ.cutN [3, 6, 7, 8, 9, 10, 81] (by kernel_rfl) (by kernel_rfl)
        · refine J.caseB 81 (b := s126) (by kernel_rfl) (fun hb143 => ?_) (fun hb143 => ?_)
          · have h144 := condT hb143 h130
            refine K.condT (by kernel_rfl) ?_
            refine K.seq (by kernel_rfl) ?_
            refine K.region (by kernel_rfl) ?_
            refine RJ.seg 1 [3, 6, 7, 8, 9, 10] (L2 := [(3, .ptr 0 0), (6, .bool false), (7, .bool y1), (8, lsv (encI .i32) 1 (x1 ++ x2)), (9, .ptr 1 0), (10, .int .i64 y53.2)]) (H2 := [.box [.int .i64 x0.Fuel_, .int .i64 x0.Room_, lsv (encI .i32) 1 x0.Out_], .box [.int .i64 y53.1.Fuel_, .int .i64 y53.1.Room_, lsv (encI .i32) 1 y53.1.Out_]]) (by kernel_rfl) ?_
            refine RJ.end (by kernel_rfl) ?_
            refine PJ.next ?_
            refine K.ret (by kernel_rfl) ?_
            obtain rfl := Option.some.inj h144
            have h146 := joinX_inr h112
            refine PJ.cutXr (fun e => nomatch e) ?_
            obtain rfl := Option.some.inj h146
            exact K.ret0 (.inr rfl) hFn hFH hFD (by kernel_rfl) (by kernel_rfl) (by kernel_rfl)
          · have h145 := condF hb143 h130
            refine K.condF (by kernel_rfl) ?_
            refine K.skip (by kernel_rfl) ?_
            obtain rfl := Option.some.inj h145
            exact PJ.cutXl [3, 6, 7, 8, 9, 10] (by kernel_rfl) (by kernel_rfl)
      · subst hs
        have h113 := joinX_inl h112
        refine K.seq (by kernel_rfl) ?_
        refine K.region (by kernel_rfl) ?_
        refine RJ.seg 8 [3, 6, 7, 8, 9, 10, 13] (L2 := [(3, .ptr 0 0), (6, .bool false), (7, .bool y1), (8, lsv (encI .i32) 1 (x1 ++ x2)), (9, .ptr 1 0), (10, .int .i64 y53.2), (13, .int .i64 ((IntKind.wrap .i64 ((y53.1.Out_.length : Int) - (x0.Out_.length : Int)))))]) (H2 := [.box [.int .i64 x0.Fuel_, .int .i64 x0.Room_, lsv (encI .i32) 1 x0.Out_], .box [.int .i64 y53.1.Fuel_, .int .i64 y53.1.Room_, lsv (encI .i32) 1 y53.1.Out_]]) (by kernel_rfl) ?_
        refine RJ.end (by kernel_rfl) ?_
        refine PJ.next ?_
        obtain ⟨s159, hy161, h163⟩ := bindS h113
        refine K.cutN (by kernel_rfl) (fun (s159 : Bool) => ([(6, .bool s159)], [])) s159 ?_ ?_
        · refine J.keep [3, 6, 7, 8, 9, 10, 13] (L2 := [(3, .ptr 0 0), (6, .bool false), (7, .bool y1), (8, lsv (encI .i32) 1 (x1 ++ x2)), (9, .ptr 1 0), (10, .int .i64 y53.2), (13, .int .i64 ((IntKind.wrap .i64 ((y53.1.Out_.length : Int) - (x0.Out_.length : Int)))))]) (by kernel_rfl) ?_
          refine K.draw (by kernel_rfl) (by kernel_rfl) (by kernel_rfl) (H2 := [.box [.int .i64 x0.Fuel_, .int .i64 x0.Room_, lsv (encI .i32) 1 x0.Out_], .box [.int .i64 y53.1.Fuel_, .int .i64 y53.1.Room_, lsv (encI .i32) 1 y53.1.Out_], .res, .res, .res]) (by kernel_rfl) (n := 2) (by kernel_rfl) ?_
          refine RJ.segD 2 (tr2 := [([], []), ([], [])]) (L2 := [(90, .bool y1), (89, .bool y1), (3, .ptr 0 0), (6, .bool false), (7, .bool y1), (8, lsv (encI .i32) 1 (x1 ++ x2)), (9, .ptr 1 0), (10, .int .i64 y53.2), (13, .int .i64 ((IntKind.wrap .i64 ((y53.1.Out_.length : Int) - (x0.Out_.length : Int)))))]) (H2 := [.box [.int .i64 x0.Fuel_, .int .i64 x0.Room_, lsv (encI .i32) 1 x0.Out_], .box [.int .i64 y53.1.Fuel_, .int .i64 y53.1.Room_, lsv (encI .i32) 1 y53.1.Out_], .res, .res, .res]) (by kernel_rfl) ?_
          refine RJ.caseB 90 (b := y1) (by kernel_rfl) (fun hb164 => ?_) (fun hb164 => ?_)
          · have h165 := condT hb164 hy161
            refine RJ.segD 5 (tr2 := [([], []), ([], []), ([], []), ([1], []), ([], [2]), ([], []), ([0], [])]) (L2 := [(95, lsv (encI .i32) 1 x0.Out_), (94, .ptr 0 2), (93, .nl), (92, lsv (encI .i32) 1 y53.1.Out_), (91, .ptr 1 2), (90, .bool true), (90, .bool y1), (89, .bool y1), (3, .ptr 0 0), (6, .bool false), (7, .bool y1), (8, lsv (encI .i32) 1 (x1 ++ x2)), (9, .ptr 1 0), (10, .int .i64 y53.2), (13, .int .i64 ((IntKind.wrap .i64 ((y53.1.Out_.length : Int) - (x0.Out_.length : Int)))))]) (H2 := [.box [.int .i64 x0.Fuel_, .int .i64 x0.Room_, lsv (encI .i32) 1 x0.Out_], .box [.int .i64 y53.1.Fuel_, .int .i64 y53.1.Room_, lsv (encI .i32) 1 y53.1.Out_], .res, .res, .res]) (by kernel_rfl) ?_
            obtain ⟨hm, h167⟩ := asrt h165
            refine RJ.rel (d := (some 96)) (ef := ⟨.vc 3, [], [(3, .vec x0.Out_.length 1 21 (x0.Out_.flatMap (encI .i32)))]⟩) (ef' := ⟨.vc 3, [], [(3, .vec x0.Out_.length 1 21 (x0.Out_.flatMap (encI .i32)))]⟩) (c := room x0.Out_.length) (tr2 := [([], []), ([], []), ([], []), ([1], []), ([], [2]), ([], []), ([0], []), ([], [3, 3])]) (H2 := [.box [.int .i64 x0.Fuel_, .int .i64 x0.Room_, lsv (encI .i32) 1 x0.Out_], .box [.int .i64 y53.1.Fuel_, .int .i64 y53.1.Room_, lsv (encI .i32) 1 y53.1.Out_], .res, vecL (encI .i32) 1 21 x0.Out_, .res]) (by kernel_rfl) hm (fun hc => rfl) (by kernel_rfl) ?_
            refine RJ.segD 2 (tr2 := [([], []), ([], []), ([], []), ([1], []), ([], [2]), ([], []), ([0], []), ([], [3, 3]), ([], []), ([], [])]) (L2 := [(98, .int .i64 ((IntKind.wrap .i64 ((y53.1.Out_.length : Int) - (x0.Out_.length : Int))))), (97, lsv (encI .i32) 1 (x1 ++ x2)), (96, .vc 3), (95, lsv (encI .i32) 1 x0.Out_), (94, .ptr 0 2), (93, .nl), (92, lsv (encI .i32) 1 y53.1.Out_), (91, .ptr 1 2), (90, .bool true), (90, .bool y1), (89, .bool y1), (3, .ptr 0 0), (6, .bool false), (7, .bool y1), (8, lsv (encI .i32) 1 (x1 ++ x2)), (9, .ptr 1 0), (10, .int .i64 y53.2), (13, .int .i64 ((IntKind.wrap .i64 ((y53.1.Out_.length : Int) - (x0.Out_.length : Int)))))]) (H2 := [.box [.int .i64 x0.Fuel_, .int .i64 x0.Room_, lsv (encI .i32) 1 x0.Out_], .box [.int .i64 y53.1.Fuel_, .int .i64 y53.1.Room_, lsv (encI .i32) 1 y53.1.Out_], .res, vecL (encI .i32) 1 21 x0.Out_, .res]) (by kernel_rfl) ?_
            obtain ⟨hm, h168⟩ := asrt h167
            refine RJ.rel (d := (some 99)) (ef := ⟨.lst (((IntKind.wrap .i64 ((y53.1.Out_.length : Int) - (x0.Out_.length : Int))) : Int).toNat - (0 : Int).toNat) 1 ((((x1 ++ x2).flatMap (encI .i32)).take (((IntKind.wrap .i64 ((y53.1.Out_.length : Int) - (x0.Out_.length : Int))) : Int).toNat * 1)).drop ((0 : Int).toNat * 1)), [], []⟩) (ef' := ⟨.lst (cut (x1 ++ x2) 0 ((IntKind.wrap .i64 ((y53.1.Out_.length : Int) - (x0.Out_.length : Int))))).length 1 ((cut (x1 ++ x2) 0 ((IntKind.wrap .i64 ((y53.1.Out_.length : Int) - (x0.Out_.length : Int))))).flatMap (encI .i32)), [], []⟩) (c := inS 0 ((IntKind.wrap .i64 ((y53.1.Out_.length : Int) - (x0.Out_.length : Int)))) (x1 ++ x2).length) (tr2 := [([], []), ([], []), ([], []), ([1], []), ([], [2]), ([], []), ([0], []), ([], [3, 3]), ([], []), ([], []), ([], [])]) (H2 := [.box [.int .i64 x0.Fuel_, .int .i64 x0.Room_, lsv (encI .i32) 1 x0.Out_], .box [.int .i64 y53.1.Fuel_, .int .i64 y53.1.Room_, lsv (encI .i32) 1 y53.1.Out_], .res, vecL (encI .i32) 1 21 x0.Out_, .res]) (by kernel_rfl) hm (fun hc => N.slice (encI_len .i32) hc) (by kernel_rfl) ?_
            obtain ⟨hm, h169⟩ := asrt h168
            refine RJ.rel (d := (some 100)) (ef := ⟨.vc 4, [3], [(3, .gone), (4, .vec (x0.Out_.length + ((cut (x1 ++ x2) 0 ((IntKind.wrap .i64 ((y53.1.Out_.length : Int) - (x0.Out_.length : Int)))))).length) 1 21 (x0.Out_.flatMap (encI .i32) ++ ((cut (x1 ++ x2) 0 ((IntKind.wrap .i64 ((y53.1.Out_.length : Int) - (x0.Out_.length : Int)))))).flatMap (encI .i32)))]⟩) (ef' := ⟨.vc 4, [3], [(3, .gone), (4, vecL (encI .i32) 1 21 (x0.Out_ ++ ((cut (x1 ++ x2) 0 ((IntKind.wrap .i64 ((y53.1.Out_.length : Int) - (x0.Out_.length : Int))))))))]⟩) (c := room (x0.Out_.length + ((cut (x1 ++ x2) 0 ((IntKind.wrap .i64 ((y53.1.Out_.length : Int) - (x0.Out_.length : Int)))))).length)) (tr2 := [([], []), ([], []), ([], []), ([1], []), ([], [2]), ([], []), ([0], []), ([], [3, 3]), ([], []), ([], []), ([], []), ([3], [3, 4, 4])]) (H2 := [.box [.int .i64 x0.Fuel_, .int .i64 x0.Room_, lsv (encI .i32) 1 x0.Out_], .box [.int .i64 y53.1.Fuel_, .int .i64 y53.1.Room_, lsv (encI .i32) 1 y53.1.Out_], .res, .gone, vecL (encI .i32) 1 21 ((x0.Out_ ++ ((cut (x1 ++ x2) 0 ((IntKind.wrap .i64 ((y53.1.Out_.length : Int) - (x0.Out_.length : Int))))))))]) (by kernel_rfl) hm (fun hc => N.app) (by kernel_rfl) ?_
            obtain ⟨y170, hy171, h172⟩ := bindS h169
            refine RJ.callL (d := (some 101)) (f := 12) (args := [lsv (encI .i32) 1 y53.1.Out_, .vc 4]) (args0 := [lsv (encI .i32) 1 y53.1.Out_, .vc 0]) (args1 := [lsv (encI .i32) 1 y53.1.Out_, lsv (encI .i32) 1 ((x0.Out_ ++ ((cut (x1 ++ x2) 0 ((IntKind.wrap .i64 ((y53.1.Out_.length : Int) - (x0.Out_.length : Int))))))))]) (H0 := [vecL (encI .i32) 1 21 ((x0.Out_ ++ ((cut (x1 ++ x2) 0 ((IntKind.wrap .i64 ((y53.1.Out_.length : Int) - (x0.Out_.length : Int))))))))]) (v := .bool y170) (tr2 := [([], []), ([], []), ([], []), ([1], []), ([], [2]), ([], []), ([0], []), ([], [3, 3]), ([], []), ([], []), ([], []), ([3], [3, 4, 4]), ([4], [])]) [4] (by kernel_rfl) (by kernel_rfl) (by kernel_rfl) (by kernel_rfl) (by decide) (by kernel_rfl) (by kernel_rfl) (by kernel_rfl) (by kernel_rfl) (.cons (Le.refl _) (.cons (Le.refl _) .nil)) (exergueref01_Same_ok hy171) (by kernel_rfl) (by kernel_rfl) ?_
            refine RJ.segD 2 (tr2 := [([], []), ([], []), ([], []), ([1], []), ([], [2]), ([], []), ([0], []), ([], [3, 3]), ([], []), ([], []), ([], []), ([3], [3, 4, 4]), ([4], []), ([], []), ([], [])]) (L2 := [(103, .bool y170), (102, .bool y170), (101, .bool y170), (100, .vc 4), (99, lsv (encI .i32) 1 ((cut (x1 ++ x2) 0 ((IntKind.wrap .i64 ((y53.1.Out_.length : Int) - (x0.Out_.length : Int))))))), (98, .int .i64 ((IntKind.wrap .i64 ((y53.1.Out_.length : Int) - (x0.Out_.length : Int))))), (97, lsv (encI .i32) 1 (x1 ++ x2)), (96, .vc 3), (95, lsv (encI .i32) 1 x0.Out_), (94, .ptr 0 2), (93, .nl), (92, lsv (encI .i32) 1 y53.1.Out_), (91, .ptr 1 2), (90, .bool true), (90, .bool y1), (89, .bool y1), (3, .ptr 0 0), (6, .bool false), (7, .bool y1), (8, lsv (encI .i32) 1 (x1 ++ x2)), (9, .ptr 1 0), (10, .int .i64 y53.2), (13, .int .i64 ((IntKind.wrap .i64 ((y53.1.Out_.length : Int) - (x0.Out_.length : Int)))))]) (H2 := [.box [.int .i64 x0.Fuel_, .int .i64 x0.Room_, lsv (encI .i32) 1 x0.Out_], .box [.int .i64 y53.1.Fuel_, .int .i64 y53.1.Room_, lsv (encI .i32) 1 y53.1.Out_], .res, .gone, vecL (encI .i32) 1 21 ((x0.Out_ ++ ((cut (x1 ++ x2) 0 ((IntKind.wrap .i64 ((y53.1.Out_.length : Int) - (x0.Out_.length : Int))))))))]) (by kernel_rfl) ?_
            refine RJ.caseB 103 (b := y170) (by kernel_rfl) (fun hb173 => ?_) (fun hb173 => ?_)
            · have h174 := condT hb173 h172
              refine RJ.segD 9 (tr2 := [([], []), ([], []), ([], []), ([1], []), ([], [2]), ([], []), ([0], []), ([], [3, 3]), ([], []), ([], []), ([], []), ([3], [3, 4, 4]), ([4], []), ([], []), ([], []), ([], []), ([], []), ([], []), ([], []), ([], []), ([], []), ([], []), ([], []), ([], [])]) (L2 := [(6, .bool (((decide (¬ y53.2 = 0)) == ((decide (((IntKind.wrap .i64 ((y53.1.Out_.length : Int) - (x0.Out_.length : Int)))) < ((x1 ++ x2).length : Int))))))), (111, .bool (((decide (¬ y53.2 = 0)) == ((decide (((IntKind.wrap .i64 ((y53.1.Out_.length : Int) - (x0.Out_.length : Int)))) < ((x1 ++ x2).length : Int))))))), (110, .bool (((decide (¬ y53.2 = 0)) == ((decide (((IntKind.wrap .i64 ((y53.1.Out_.length : Int) - (x0.Out_.length : Int)))) < ((x1 ++ x2).length : Int))))))), (109, .bool ((decide (((IntKind.wrap .i64 ((y53.1.Out_.length : Int) - (x0.Out_.length : Int)))) < ((x1 ++ x2).length : Int))))), (108, .int .i64 ((x1 ++ x2).length : Int)), (107, lsv (encI .i32) 1 (x1 ++ x2)), (106, .int .i64 ((IntKind.wrap .i64 ((y53.1.Out_.length : Int) - (x0.Out_.length : Int))))), (105, .bool (decide (¬ y53.2 = 0))), (104, .int .i64 y53.2), (103, .bool true), (103, .bool y170), (102, .bool y170), (101, .bool y170), (100, .vc 4), (99, lsv (encI .i32) 1 ((cut (x1 ++ x2) 0 ((IntKind.wrap .i64 ((y53.1.Out_.length : Int) - (x0.Out_.length : Int))))))), (98, .int .i64 ((IntKind.wrap .i64 ((y53.1.Out_.length : Int) - (x0.Out_.length : Int))))), (97, lsv (encI .i32) 1 (x1 ++ x2)), (96, .vc 3), (95, lsv (encI .i32) 1 x0.Out_), (94, .ptr 0 2), (93, .nl), (92, lsv (encI .i32) 1 y53.1.Out_), (91, .ptr 1 2), (90, .bool true), (90, .bool y1), (89, .bool y1), (3, .ptr 0 0), (6, .bool false), (7, .bool y1), (8, lsv (encI .i32) 1 (x1 ++ x2)), (9, .ptr 1 0), (10, .int .i64 y53.2), (13, .int .i64 ((IntKind.wrap .i64 ((y53.1.Out_.length : Int) - (x0.Out_.length : Int)))))]) (H2 := [.box [.int .i64 x0.Fuel_, .int .i64 x0.Room_, lsv (encI .i32) 1 x0.Out_], .box [.int .i64 y53.1.Fuel_, .int .i64 y53.1.Room_, lsv (encI .i32) 1 y53.1.Out_], .res, .gone, vecL (encI .i32) 1 21 ((x0.Out_ ++ ((cut (x1 ++ x2) 0 ((IntKind.wrap .i64 ((y53.1.Out_.length : Int) - (x0.Out_.length : Int))))))))]) (by kernel_rfl) ?_
              refine RJ.end (by kernel_rfl) ?_
              obtain rfl := Option.some.inj h174
              refine PJ.wk (Wk.sel (L2 := [(6, .bool (((decide (¬ y53.2 = 0)) == ((decide (((IntKind.wrap .i64 ((y53.1.Out_.length : Int) - (x0.Out_.length : Int)))) < ((x1 ++ x2).length : Int)))))))]) (H2 := []) 0 (by rw [hFH]; rfl) hFD [] (by kernel_rfl) (by kernel_rfl) (by decide) (by kernel_rfl) (by kernel_rfl) (by kernel_rfl) (by kernel_rfl)) ?_
              exact PJ.cutN [6] (by kernel_rfl) (by kernel_rfl)
            · have h175 := condF hb173 h172
              refine RJ.segD 9 (tr2 := [([], []), ([], []), ([], []), ([1], []), ([], [2]), ([], []), ([0], []), ([], [3, 3]), ([], []), ([], []), ([], []), ([3], [3, 4, 4]), ([4], []), ([], []), ([], []), ([], []), ([], []), ([], []), ([], []), ([], []), ([], []), ([], []), ([], []), ([], [])]) (L2 := [(6, .bool false), (111, .bool false), (110, .tup []), (109, .tup []), (108, .tup []), (107, .tup []), (106, .tup []), (105, .tup []), (104, .tup []), (103, .bool false), (103, .bool y170), (102, .bool y170), (101, .bool y170), (100, .vc 4), (99, lsv (encI .i32) 1 ((cut (x1 ++ x2) 0 ((IntKind.wrap .i64 ((y53.1.Out_.length : Int) - (x0.Out_.length : Int))))))), (98, .int .i64 ((IntKind.wrap .i64 ((y53.1.Out_.length : Int) - (x0.Out_.length : Int))))), (97, lsv (encI .i32) 1 (x1 ++ x2)), (96, .vc 3), (95, lsv (encI .i32) 1 x0.Out_), (94, .ptr 0 2), (93, .nl), (92, lsv (encI .i32) 1 y53.1.Out_), (91, .ptr 1 2), (90, .bool true), (90, .bool y1), (89, .bool y1), (3, .ptr 0 0), (6, .bool false), (7, .bool y1), (8, lsv (encI .i32) 1 (x1 ++ x2)), (9, .ptr 1 0), (10, .int .i64 y53.2), (13, .int .i64 ((IntKind.wrap .i64 ((y53.1.Out_.length : Int) - (x0.Out_.length : Int)))))]) (H2 := [.box [.int .i64 x0.Fuel_, .int .i64 x0.Room_, lsv (encI .i32) 1 x0.Out_], .box [.int .i64 y53.1.Fuel_, .int .i64 y53.1.Room_, lsv (encI .i32) 1 y53.1.Out_], .res, .gone, vecL (encI .i32) 1 21 ((x0.Out_ ++ ((cut (x1 ++ x2) 0 ((IntKind.wrap .i64 ((y53.1.Out_.length : Int) - (x0.Out_.length : Int))))))))]) (by kernel_rfl) ?_
              refine RJ.end (by kernel_rfl) ?_
              obtain rfl := Option.some.inj h175
              refine PJ.wk (Wk.sel (L2 := [(6, .bool false)]) (H2 := []) 0 (by rw [hFH]; rfl) hFD [] (by kernel_rfl) (by kernel_rfl) (by decide) (by kernel_rfl) (by kernel_rfl) (by kernel_rfl) (by kernel_rfl)) ?_
              exact PJ.cutN [6] (by kernel_rfl) (by kernel_rfl)
          · have h166 := condF hb164 hy161
            refine RJ.segD 22 (tr2 := [([], []), ([], []), ([], []), ([], []), ([], [2]), ([], []), ([], []), ([], [3]), ([], []), ([], []), ([], []), ([], [4]), ([], []), ([], []), ([], []), ([], []), ([], []), ([], []), ([], []), ([], []), ([], []), ([], []), ([], []), ([], [])]) (L2 := [(6, .bool false), (111, .bool false), (110, .tup []), (109, .tup []), (108, .tup []), (107, .tup []), (106, .tup []), (105, .tup []), (104, .tup []), (103, .bool false), (102, .bool false), (101, .tup []), (100, .tup []), (99, .tup []), (98, .tup []), (97, .tup []), (96, .tup []), (95, .tup []), (94, .tup []), (93, .tup []), (92, .tup []), (91, .tup []), (90, .bool false), (90, .bool y1), (89, .bool y1), (3, .ptr 0 0), (6, .bool false), (7, .bool y1), (8, lsv (encI .i32) 1 (x1 ++ x2)), (9, .ptr 1 0), (10, .int .i64 y53.2), (13, .int .i64 ((IntKind.wrap .i64 ((y53.1.Out_.length : Int) - (x0.Out_.length : Int)))))]) (H2 := [.box [.int .i64 x0.Fuel_, .int .i64 x0.Room_, lsv (encI .i32) 1 x0.Out_], .box [.int .i64 y53.1.Fuel_, .int .i64 y53.1.Room_, lsv (encI .i32) 1 y53.1.Out_], .res, .res, .res]) (by kernel_rfl) ?_
            refine RJ.end (by kernel_rfl) ?_
            obtain rfl := Option.some.inj h166
            refine PJ.wk (Wk.sel (L2 := [(6, .bool false)]) (H2 := []) 0 (by rw [hFH]; rfl) hFD [] (by kernel_rfl) (by kernel_rfl) (by decide) (by kernel_rfl) (by kernel_rfl) (by kernel_rfl) (by kernel_rfl)) ?_
            exact PJ.cutN [6] (by kernel_rfl) (by kernel_rfl)
        · refine K.ret (by kernel_rfl) ?_
          obtain rfl := Option.some.inj h163
          exact K.ret0 (.inr rfl) hFn hFH hFD (by kernel_rfl) (by kernel_rfl) (by kernel_rfl)

def exerguelaw04_TankCounts (x0 : St23) (x1 : List Int) : Option (Bool) :=
  (Option.bind exerguelaw04_shown fun y1 => (Option.bind (Option.bind (Option.bind (exergueref04_Right x0) fun y41 => (bif (!y41) then (some true) else (some ((decide ((x1.length : Int) > 1000)))))) fun (s36 : Bool) => (bif s36 then (some (.inr y1)) else (some (.inl ())))) (joinX fun (s25 : Unit) => (Option.bind (tank_Put x0 x1) fun y51 => (Option.bind (Option.bind (bif (decide (x0.Fuel_ ≥ (x1.length : Int))) then (some (((decide (y51.2 = 0)) != ((decide (x0.Room_ ≥ (x1.length : Int))))))) else (some (((decide (y51.2 = 0)) != false)))) fun (s77 : Bool) => (bif s77 then (some (.inr false)) else (some (.inl ())))) (joinX fun (s69 : Unit) => (bif (decide (y51.2 = 0)) then (Option.bind (bif y1 then (bif (decide (y51.1.Fuel_ = ((IntKind.wrap .i64 (x0.Fuel_ - (x1.length : Int)))))) then (bif (decide (y51.1.Room_ = ((IntKind.wrap .i64 (x0.Room_ - (x1.length : Int)))))) then (some ((decide ((y51.1.Out_.length : Int) = ((IntKind.wrap .i64 ((x0.Out_.length : Int) + (x1.length : Int)))))))) else (some false)) else (some false)) else (some false)) fun (s101 : Bool) => (some s101)) else (Option.bind (bif y1 then (bif (decide (y51.2 = 4)) then (bif (decide (y51.1.Fuel_ = 0)) then (bif (decide (x0.Fuel_ ≤ x0.Room_)) then (some true) else (bif (decide (y51.2 = 5)) then (bif (decide (y51.1.Room_ = 0)) then (some (decide (x0.Fuel_ > x0.Room_))) else (some false)) else (some false))) else (bif (decide (y51.2 = 5)) then (bif (decide (y51.1.Room_ = 0)) then (some (decide (x0.Fuel_ > x0.Room_))) else (some false)) else (some false))) else (bif (decide (y51.2 = 5)) then (bif (decide (y51.1.Room_ = 0)) then (some (decide (x0.Fuel_ > x0.Room_))) else (some false)) else (some false))) else (some false)) fun (s145 : Bool) => (some s145)))))))))
theorem exerguelaw04_TankCounts_ok {x0 : St23} {x1 : List Int} {r : Bool} (h : exerguelaw04_TankCounts x0 x1 = some r) : SC Try.prog 4 [.agg [.int .i64 x0.Fuel_, .int .i64 x0.Room_, lsv (encI .i32) 1 x0.Out_], lsv (encI .i32) 1 x1] [] (.bool r) [] := by
  refine K.fn (fn := Try.f4) (by kernel_rfl) (by kernel_rfl) (by kernel_rfl) (by kernel_rfl) (by kernel_rfl) (fun F hFn hFH hFD => ?_)
  unfold exerguelaw04_TankCounts at h
  refine K.seq (by kernel_rfl) ?_
  refine K.region (by kernel_rfl) ?_
  refine RJ.seg 2 [1, 2, 4] (L2 := [(1, lsv (encI .i32) 1 x1), (2, .ptr 0 0), (4, .bool false)]) (H2 := [.box [.int .i64 x0.Fuel_, .int .i64 x0.Room_, lsv (encI .i32) 1 x0.Out_]]) (by kernel_rfl) ?_
  refine RJ.end (by kernel_rfl) ?_
  refine PJ.next ?_
  refine K.seq (by kernel_rfl) ?_
  refine K.region (by kernel_rfl) ?_
  obtain ⟨y1, hy2, h3⟩ := bindS h
  refine RJ.call0 (d := (some 9)) (f := 8) (args := []) (v := .bool y1) (tr2 := []) (by kernel_rfl) (by kernel_rfl) .nil (exerguelaw04_shown_ok hy2) (by kernel_rfl) ?_
  refine RJ.seg 1 [1, 2, 4, 5] (L2 := [(1, lsv (encI .i32) 1 x1), (2, .ptr 0 0), (4, .bool false), (5, .bool y1)]) (H2 := [.box [.int .i64 x0.Fuel_, .int .i64 x0.Room_, lsv (encI .i32) 1 x0.Out_]]) (by kernel_rfl) ?_
  refine RJ.end (by kernel_rfl) ?_
  refine PJ.next ?_
  obtain ⟨y26, hy27, h28⟩ := bindS h3
  refine K.cutX (by kernel_rfl) (fun (s25 : Unit) => ([(1, lsv (encI .i32) 1 x1), (2, .ptr 0 0), (4, .bool false), (5, .bool y1)], [.box [.int .i64 x0.Fuel_, .int .i64 x0.Room_, lsv (encI .i32) 1 x0.Out_]])) y26 ?_ (fun s25 hs => ?_)
  · obtain ⟨s36, hy38, h40⟩ := bindS hy27
    refine K.cutN (by kernel_rfl) (fun (s36 : Bool) => ([(1, lsv (encI .i32) 1 x1), (2, .ptr 0 0), (4, .bool false), (5, .bool y1), (17, .bool s36)], [.box [.int .i64 x0.Fuel_, .int .i64 x0.Room_, lsv (encI .i32) 1 x0.Out_]])) s36 ?_ ?_
    · refine K.region (by kernel_rfl) ?_
      refine RJ.seg 1 [1, 2, 4, 5, 10] (L2 := [(1, lsv (encI .i32) 1 x1), (2, .ptr 0 0), (4, .bool false), (5, .bool y1), (10, .agg [.int .i64 x0.Fuel_, .int .i64 x0.Room_, lsv (encI .i32) 1 x0.Out_])]) (H2 := [.box [.int .i64 x0.Fuel_, .int .i64 x0.Room_, lsv (encI .i32) 1 x0.Out_]]) (by kernel_rfl) ?_
      obtain ⟨y41, hy42, h43⟩ := bindS hy38
      refine RJ.call0 (d := (some 11)) (f := 9) (args := [.agg [.int .i64 x0.Fuel_, .int .i64 x0.Room_, lsv (encI .i32) 1 x0.Out_]]) (v := .bool y41) (tr2 := []) (by kernel_rfl) (by kernel_rfl) (.cons (Le.refl _) .nil) (exergueref04_Right_ok hy42) (by kernel_rfl) ?_
      refine RJ.seg 2 [1, 2, 4, 5, 13] (L2 := [(1, lsv (encI .i32) 1 x1), (2, .ptr 0 0), (4, .bool false), (5, .bool y1), (13, .bool (!y41))]) (H2 := [.box [.int .i64 x0.Fuel_, .int .i64 x0.Room_, lsv (encI .i32) 1 x0.Out_]]) (by kernel_rfl) ?_
      refine RJ.caseB 13 (b := (!y41)) (by kernel_rfl) (fun hb44 => ?_) (fun hb44 => ?_)
      · have h45 := condT hb44 h43
        refine RJ.seg 4 [1, 2, 4, 5, 17] (L2 := [(1, lsv (encI .i32) 1 x1), (2, .ptr 0 0), (4, .bool false), (5, .bool y1), (17, .bool true)]) (H2 := [.box [.int .i64 x0.Fuel_, .int .i64 x0.Room_, lsv (encI .i32) 1 x0.Out_]]) (by kernel_rfl) ?_
        refine RJ.end (by kernel_rfl) ?_
        obtain rfl := Option.some.inj h45
        exact PJ.cutN [1, 2, 4, 5, 17] (by kernel_rfl) (by kernel_rfl)
      · have h46 := condF hb44 h43
        refine RJ.seg 4 [1, 2, 4, 5, 17] (L2 := [(1, lsv (encI .i32) 1 x1), (2, .ptr 0 0), (4, .bool false), (5, .bool y1), (17, .bool ((decide ((x1.length : Int) > 1000))))]) (H2 := [.box [.int .i64 x0.Fuel_, .int .i64 x0.Room_, lsv (encI .i32) 1 x0.Out_]]) (by kernel_rfl) ?_
        refine RJ.end (by kernel_rfl) ?_
        obtain rfl := Option.some.inj h46
        exact PJ.cutN [1, 2, 4, 5, 17] (by kernel_rfl) (by kernel_rfl)
    · refine J.caseB 17 (b := s36) (by kernel_rfl) (fun hb47 => ?_) (fun hb47 => ?_)
      · have h48 := condT hb47 h40
        refine K.condT (by kernel_rfl) ?_
        refine K.seq (by kernel_rfl) ?_
        refine K.region (by kernel_rfl) ?_
        refine RJ.seg 2 [1, 2, 4, 5] (L2 := [(1, lsv (encI .i32) 1 x1), (2, .ptr 0 0), (4, .bool y1), (5, .bool y1)]) (H2 := [.box [.int .i64 x0.Fuel_, .int .i64 x0.Room_, lsv (encI .i32) 1 x0.Out_]]) (by kernel_rfl) ?_
        refine RJ.end (by kernel_rfl) ?_
        refine PJ.next ?_
        refine K.ret (by kernel_rfl) ?_
        obtain rfl := Option.some.inj h48
        have h50 := joinX_inr h28
        refine PJ.cutXr (fun e => nomatch e) ?_
        obtain rfl := Option.some.inj h50
        exact K.ret0 (.inr rfl) hFn hFH hFD (by kernel_rfl) (by kernel_rfl) (by kernel_rfl)
      · have h49 := condF hb47 h40
        refine K.condF (by kernel_rfl) ?_
        refine K.skip (by kernel_rfl) ?_
        obtain rfl := Option.some.inj h49
        exact PJ.cutXl [1, 2, 4, 5] (by kernel_rfl) (by kernel_rfl)
  · subst hs
    have h29 := joinX_inl h28
    refine K.seq (by kernel_rfl) ?_
    refine K.region (by kernel_rfl) ?_
    refine RJ.seg 3 [1, 2, 4, 5, 6] (L2 := [(1, lsv (encI .i32) 1 x1), (2, .ptr 0 0), (4, .bool false), (5, .bool y1), (6, .int .i64 (x1.length : Int))]) (H2 := [.box [.int .i64 x0.Fuel_, .int .i64 x0.Room_, lsv (encI .i32) 1 x0.Out_]]) (by kernel_rfl) ?_
    refine RJ.end (by kernel_rfl) ?_
    refine PJ.next ?_
    refine K.seq (by kernel_rfl) ?_
    refine K.region (by kernel_rfl) ?_
    refine RJ.seg 2 [2, 4, 5, 6, 22, 23] (L2 := [(2, .ptr 0 0), (4, .bool false), (5, .bool y1), (6, .int .i64 (x1.length : Int)), (22, .agg [.int .i64 x0.Fuel_, .int .i64 x0.Room_, lsv (encI .i32) 1 x0.Out_]), (23, lsv (encI .i32) 1 x1)]) (H2 := [.box [.int .i64 x0.Fuel_, .int .i64 x0.Room_, lsv (encI .i32) 1 x0.Out_]]) (by kernel_rfl) ?_
    obtain ⟨y51, hy52, h53⟩ := bindS h29
    refine RJ.call0 (d := (some 24)) (f := 10) (args := [.agg [.int .i64 x0.Fuel_, .int .i64 x0.Room_, lsv (encI .i32) 1 x0.Out_], lsv (encI .i32) 1 x1]) (v := .tup [.agg [.int .i64 y51.1.Fuel_, .int .i64 y51.1.Room_, lsv (encI .i32) 1 y51.1.Out_], .int .i64 y51.2]) (tr2 := []) (by kernel_rfl) (by kernel_rfl) (.cons (Le.refl _) (.cons (Le.refl _) .nil)) (tank_Put_ok hy52) (by kernel_rfl) ?_
    refine RJ.seg 6 [2, 4, 5, 6, 7, 8] (L2 := [(2, .ptr 0 0), (4, .bool false), (5, .bool y1), (6, .int .i64 (x1.length : Int)), (7, .ptr 1 0), (8, .int .i64 y51.2)]) (H2 := [.box [.int .i64 x0.Fuel_, .int .i64 x0.Room_, lsv (encI .i32) 1 x0.Out_], .box [.int .i64 y51.1.Fuel_, .int .i64 y51.1.Room_, lsv (encI .i32) 1 y51.1.Out_]]) (by kernel_rfl) ?_
    refine RJ.end (by kernel_rfl) ?_
    refine PJ.next ?_
    obtain ⟨y70, hy71, h72⟩ := bindS h53
    refine K.cutX (by kernel_rfl) (fun (s69 : Unit) => ([(2, .ptr 0 0), (4, .bool false), (5, .bool y1), (6, .int .i64 (x1.length : Int)), (7, .ptr 1 0), (8, .int .i64 y51.2)], [.box [.int .i64 x0.Fuel_, .int .i64 x0.Room_, lsv (encI .i32) 1 x0.Out_], .box [.int .i64 y51.1.Fuel_, .int .i64 y51.1.Room_, lsv (encI .i32) 1 y51.1.Out_]])) y70 ?_ (fun s69 hs => ?_)
    · obtain ⟨s77, hy79, h81⟩ := bindS hy71
      refine K.cutN (by kernel_rfl) (fun (s77 : Bool) => ([(2, .ptr 0 0), (4, .bool false), (5, .bool y1), (6, .int .i64 (x1.length : Int)), (7, .ptr 1 0), (8, .int .i64 y51.2), (39, .bool s77)], [.box [.int .i64 x0.Fuel_, .int .i64 x0.Room_, lsv (encI .i32) 1 x0.Out_], .box [.int .i64 y51.1.Fuel_, .int .i64 y51.1.Room_, lsv (encI .i32) 1 y51.1.Out_]])) s77 ?_ ?_
      · refine K.region (by kernel_rfl) ?_
        refine RJ.seg 7 [2, 4, 5, 6, 7, 8, 28, 33] (L2 := [(2, .ptr 0 0), (4, .bool false), (5, .bool y1), (6, .int .i64 (x1.length : Int)), (7, .ptr 1 0), (8, .int .i64 y51.2), (28, .bool (decide (y51.2 = 0))), (33, .bool ((decide (x0.Fuel_ ≥ (x1.length : Int)))))]) (H2 := [.box [.int .i64 x0.Fuel_, .int .i64 x0.Room_, lsv (encI .i32) 1 x0.Out_], .box [.int .i64 y51.1.Fuel_, .int .i64 y51.1.Room_, lsv (encI .i32) 1 y51.1.Out_]]) (by kernel_rfl) ?_
        refine RJ.caseB 33 (b := (decide (x0.Fuel_ ≥ (x1.length : Int)))) (by kernel_rfl) (fun hb82 => ?_) (fun hb82 => ?_)
        · have h83 := condT hb82 hy79
          refine RJ.seg 6 [2, 4, 5, 6, 7, 8, 39] (L2 := [(2, .ptr 0 0), (4, .bool false), (5, .bool y1), (6, .int .i64 (x1.length : Int)), (7, .ptr 1 0), (8, .int .i64 y51.2), (39, .bool (((decide (y51.2 = 0)) != ((decide (x0.Room_ ≥ (x1.length : Int)))))))]) (H2 := [.box [.int .i64 x0.Fuel_, .int .i64 x0.Room_, lsv (encI .i32) 1 x0.Out_], .box [.int .i64 y51.1.Fuel_, .int .i64 y51.1.Room_, lsv (encI .i32) 1 y51.1.Out_]]) (by kernel_rfl) ?_
          refine RJ.end (by kernel_rfl) ?_
          obtain rfl := Option.some.inj h83
          exact PJ.cutN [2, 4, 5, 6, 7, 8, 39] (by kernel_rfl) (by kernel_rfl)
        · have h84 := condF hb82 hy79
          refine RJ.seg 6 [2, 4, 5, 6, 7, 8, 39] (L2 := [(2, .ptr 0 0), (4, .bool false), (5, .bool y1), (6, .int .i64 (x1.length : Int)), (7, .ptr 1 0), (8, .int .i64 y51.2), (39, .bool (((decide (y51.2 = 0)) != false)))]) (H2 := [.box [.int .i64 x0.Fuel_, .int .i64 x0.Room_, lsv (encI .i32) 1 x0.Out_], .box [.int .i64 y51.1.Fuel_, .int .i64 y51.1.Room_, lsv (encI .i32) 1 y51.1.Out_]]) (by kernel_rfl) ?_
          refine RJ.end (by kernel_rfl) ?_
          obtain rfl := Option.some.inj h84
          exact PJ.cutN [2, 4, 5, 6, 7, 8, 39] (by kernel_rfl) (by kernel_rfl)
      · refine J.caseB 39 (b := s77) (by kernel_rfl) (fun hb85 => ?_) (fun hb85 => ?_)
        · have h86 := condT hb85 h81
          refine K.condT (by kernel_rfl) ?_
          refine K.seq (by kernel_rfl) ?_
          refine K.region (by kernel_rfl) ?_
          refine RJ.seg 1 [2, 4, 5, 6, 7, 8] (L2 := [(2, .ptr 0 0), (4, .bool false), (5, .bool y1), (6, .int .i64 (x1.length : Int)), (7, .ptr 1 0), (8, .int .i64 y51.2)]) (H2 := [.box [.int .i64 x0.Fuel_, .int .i64 x0.Room_, lsv (encI .i32) 1 x0.Out_], .box [.int .i64 y51.1.Fuel_, .int .i64 y51.1.Room_, lsv (encI .i32) 1 y51.1.Out_]]) (by kernel_rfl) ?_
          refine RJ.end (by kernel_rfl) ?_
          refine PJ.next ?_
          refine K.ret (by kernel_rfl) ?_
          obtain rfl := Option.some.inj h86
          have h88 := joinX_inr h72
          refine PJ.cutXr (fun e => nomatch e) ?_
          obtain rfl := Option.some.inj h88
          exact K.ret0 (.inr rfl) hFn hFH hFD (by kernel_rfl) (by kernel_rfl) (by kernel_rfl)
        · have h87 := condF hb85 h81
          refine K.condF (by kernel_rfl) ?_
          refine K.skip (by kernel_rfl) ?_
          obtain rfl := Option.some.inj h87
          exact PJ.cutXl [2, 4, 5, 6, 7, 8] (by kernel_rfl) (by kernel_rfl)
    · subst hs
      have h73 := joinX_inl h72
      refine K.seq (by kernel_rfl) ?_
      refine K.seq (by kernel_rfl) ?_
      refine K.region (by kernel_rfl) ?_
      refine RJ.seg 2 [2, 4, 5, 6, 7, 8, 41] (L2 := [(2, .ptr 0 0), (4, .bool false), (5, .bool y1), (6, .int .i64 (x1.length : Int)), (7, .ptr 1 0), (8, .int .i64 y51.2), (41, .bool (decide (y51.2 = 0)))]) (H2 := [.box [.int .i64 x0.Fuel_, .int .i64 x0.Room_, lsv (encI .i32) 1 x0.Out_], .box [.int .i64 y51.1.Fuel_, .int .i64 y51.1.Room_, lsv (encI .i32) 1 y51.1.Out_]]) (by kernel_rfl) ?_
      refine RJ.end (by kernel_rfl) ?_
      refine PJ.next ?_
      refine J.caseB 41 (b := (decide (y51.2 = 0))) (by kernel_rfl) (fun hb89 => ?_) (fun hb89 => ?_)
      · have h90 := condT hb89 h73
        refine K.condT (by kernel_rfl) ?_
        obtain ⟨s101, hy103, h105⟩ := bindS h90
        refine K.cutN (by kernel_rfl) (fun (s101 : Bool) => ([(2, .ptr 0 0), (4, .bool s101), (5, .bool y1), (7, .ptr 1 0), (8, .int .i64 y51.2)], [.box [.int .i64 x0.Fuel_, .int .i64 x0.Room_, lsv (encI .i32) 1 x0.Out_], .box [.int .i64 y51.1.Fuel_, .int .i64 y51.1.Room_, lsv (encI .i32) 1 y51.1.Out_]])) s101 ?_ ?_
        · refine K.region (by kernel_rfl) ?_
          refine RJ.seg 2 [2, 4, 5, 6, 7, 8, 43] (L2 := [(2, .ptr 0 0), (4, .bool false), (5, .bool y1), (6, .int .i64 (x1.length : Int)), (7, .ptr 1 0), (8, .int .i64 y51.2), (43, .bool y1)]) (H2 := [.box [.int .i64 x0.Fuel_, .int .i64 x0.Room_, lsv (encI .i32) 1 x0.Out_], .box [.int .i64 y51.1.Fuel_, .int .i64 y51.1.Room_, lsv (encI .i32) 1 y51.1.Out_]]) (by kernel_rfl) ?_
          refine RJ.caseB 43 (b := y1) (by kernel_rfl) (fun hb106 => ?_) (fun hb106 => ?_)
          · have h107 := condT hb106 hy103
            refine RJ.seg 9 [2, 4, 5, 6, 7, 8, 52] (L2 := [(2, .ptr 0 0), (4, .bool false), (5, .bool y1), (6, .int .i64 (x1.length : Int)), (7, .ptr 1 0), (8, .int .i64 y51.2), (52, .bool ((decide (y51.1.Fuel_ = ((IntKind.wrap .i64 (x0.Fuel_ - (x1.length : Int))))))))]) (H2 := [.box [.int .i64 x0.Fuel_, .int .i64 x0.Room_, lsv (encI .i32) 1 x0.Out_], .box [.int .i64 y51.1.Fuel_, .int .i64 y51.1.Room_, lsv (encI .i32) 1 y51.1.Out_]]) (by kernel_rfl) ?_
            refine RJ.caseB 52 (b := (decide (y51.1.Fuel_ = ((IntKind.wrap .i64 (x0.Fuel_ - (x1.length : Int))))))) (by kernel_rfl) (fun hb109 => ?_) (fun hb109 => ?_)
            · have h110 := condT hb109 h107
              refine RJ.seg 9 [2, 4, 5, 6, 7, 8, 61] (L2 := [(2, .ptr 0 0), (4, .bool false), (5, .bool y1), (6, .int .i64 (x1.length : Int)), (7, .ptr 1 0), (8, .int .i64 y51.2), (61, .bool ((decide (y51.1.Room_ = ((IntKind.wrap .i64 (x0.Room_ - (x1.length : Int))))))))]) (H2 := [.box [.int .i64 x0.Fuel_, .int .i64 x0.Room_, lsv (encI .i32) 1 x0.Out_], .box [.int .i64 y51.1.Fuel_, .int .i64 y51.1.Room_, lsv (encI .i32) 1 y51.1.Out_]]) (by kernel_rfl) ?_
              refine RJ.caseB 61 (b := (decide (y51.1.Room_ = ((IntKind.wrap .i64 (x0.Room_ - (x1.length : Int))))))) (by kernel_rfl) (fun hb112 => ?_) (fun hb112 => ?_)
              · have h113 := condT hb112 h110
                refine RJ.seg 11 [2, 4, 5, 7, 8] (L2 := [(2, .ptr 0 0), (4, .bool ((decide ((y51.1.Out_.length : Int) = ((IntKind.wrap .i64 ((x0.Out_.length : Int) + (x1.length : Int)))))))), (5, .bool y1), (7, .ptr 1 0), (8, .int .i64 y51.2)]) (H2 := [.box [.int .i64 x0.Fuel_, .int .i64 x0.Room_, lsv (encI .i32) 1 x0.Out_], .box [.int .i64 y51.1.Fuel_, .int .i64 y51.1.Room_, lsv (encI .i32) 1 y51.1.Out_]]) (by kernel_rfl) ?_
                refine RJ.end (by kernel_rfl) ?_
                obtain rfl := Option.some.inj h113
                exact PJ.cutN [2, 4, 5, 7, 8] (by kernel_rfl) (by kernel_rfl)
              · have h114 := condF hb112 h110
                refine RJ.seg 11 [2, 4, 5, 7, 8] (L2 := [(2, .ptr 0 0), (4, .bool false), (5, .bool y1), (7, .ptr 1 0), (8, .int .i64 y51.2)]) (H2 := [.box [.int .i64 x0.Fuel_, .int .i64 x0.Room_, lsv (encI .i32) 1 x0.Out_], .box [.int .i64 y51.1.Fuel_, .int .i64 y51.1.Room_, lsv (encI .i32) 1 y51.1.Out_]]) (by kernel_rfl) ?_
                refine RJ.end (by kernel_rfl) ?_
                obtain rfl := Option.some.inj h114
                exact PJ.cutN [2, 4, 5, 7, 8] (by kernel_rfl) (by kernel_rfl)
            · have h111 := condF hb109 h107
              refine RJ.seg 20 [2, 4, 5, 7, 8] (L2 := [(2, .ptr 0 0), (4, .bool false), (5, .bool y1), (7, .ptr 1 0), (8, .int .i64 y51.2)]) (H2 := [.box [.int .i64 x0.Fuel_, .int .i64 x0.Room_, lsv (encI .i32) 1 x0.Out_], .box [.int .i64 y51.1.Fuel_, .int .i64 y51.1.Room_, lsv (encI .i32) 1 y51.1.Out_]]) (by kernel_rfl) ?_
              refine RJ.end (by kernel_rfl) ?_
              obtain rfl := Option.some.inj h111
              exact PJ.cutN [2, 4, 5, 7, 8] (by kernel_rfl) (by kernel_rfl)
          · have h108 := condF hb106 hy103
            refine RJ.seg 29 [2, 4, 5, 7, 8] (L2 := [(2, .ptr 0 0), (4, .bool false), (5, .bool y1), (7, .ptr 1 0), (8, .int .i64 y51.2)]) (H2 := [.box [.int .i64 x0.Fuel_, .int .i64 x0.Room_, lsv (encI .i32) 1 x0.Out_], .box [.int .i64 y51.1.Fuel_, .int .i64 y51.1.Room_, lsv (encI .i32) 1 y51.1.Out_]]) (by kernel_rfl) ?_
            refine RJ.end (by kernel_rfl) ?_
            obtain rfl := Option.some.inj h108
            exact PJ.cutN [2, 4, 5, 7, 8] (by kernel_rfl) (by kernel_rfl)
        · refine K.ret (by kernel_rfl) ?_
          refine PJ.passRet ?_
          obtain rfl := Option.some.inj h105
          exact K.ret0 (.inr rfl) hFn hFH hFD (by kernel_rfl) (by kernel_rfl) (by kernel_rfl)
      · have h91 := condF hb89 h73
        refine K.condF (by kernel_rfl) ?_
        refine K.skip (by kernel_rfl) ?_
        refine PJ.next ?_
        obtain ⟨s145, hy147, h149⟩ := bindS h91
        refine K.cutN (by kernel_rfl) (fun (s145 : Bool) => ([(4, .bool s145)], [])) s145 ?_ ?_
        · refine K.region (by kernel_rfl) ?_
          refine RJ.seg 2 [2, 4, 7, 8, 73] (L2 := [(2, .ptr 0 0), (4, .bool false), (7, .ptr 1 0), (8, .int .i64 y51.2), (73, .bool y1)]) (H2 := [.box [.int .i64 x0.Fuel_, .int .i64 x0.Room_, lsv (encI .i32) 1 x0.Out_], .box [.int .i64 y51.1.Fuel_, .int .i64 y51.1.Room_, lsv (encI .i32) 1 y51.1.Out_]]) (by kernel_rfl) ?_
          refine RJ.caseB 73 (b := y1) (by kernel_rfl) (fun hb150 => ?_) (fun hb150 => ?_)
          · have h151 := condT hb150 hy147
            refine RJ.seg 3 [2, 4, 7, 8, 73, 76] (L2 := [(2, .ptr 0 0), (4, .bool false), (7, .ptr 1 0), (8, .int .i64 y51.2), (73, .bool true), (76, .bool (decide (y51.2 = 4)))]) (H2 := [.box [.int .i64 x0.Fuel_, .int .i64 x0.Room_, lsv (encI .i32) 1 x0.Out_], .box [.int .i64 y51.1.Fuel_, .int .i64 y51.1.Room_, lsv (encI .i32) 1 y51.1.Out_]]) (by kernel_rfl) ?_
            refine RJ.caseB 76 (b := (decide (y51.2 = 4))) (by kernel_rfl) (fun hb153 => ?_) (fun hb153 => ?_)
            · have h154 := condT hb153 h151
              refine RJ.seg 5 [2, 4, 7, 8, 73, 81] (L2 := [(2, .ptr 0 0), (4, .bool false), (7, .ptr 1 0), (8, .int .i64 y51.2), (73, .bool true), (81, .bool (decide (y51.1.Fuel_ = 0)))]) (H2 := [.box [.int .i64 x0.Fuel_, .int .i64 x0.Room_, lsv (encI .i32) 1 x0.Out_], .box [.int .i64 y51.1.Fuel_, .int .i64 y51.1.Room_, lsv (encI .i32) 1 y51.1.Out_]]) (by kernel_rfl) ?_
              refine RJ.caseB 81 (b := (decide (y51.1.Fuel_ = 0))) (by kernel_rfl) (fun hb156 => ?_) (fun hb156 => ?_)
              · have h157 := condT hb156 h154
                refine RJ.seg 7 [2, 4, 7, 8, 73, 88] (L2 := [(2, .ptr 0 0), (4, .bool false), (7, .ptr 1 0), (8, .int .i64 y51.2), (73, .bool true), (88, .bool (decide (x0.Fuel_ ≤ x0.Room_)))]) (H2 := [.box [.int .i64 x0.Fuel_, .int .i64 x0.Room_, lsv (encI .i32) 1 x0.Out_], .box [.int .i64 y51.1.Fuel_, .int .i64 y51.1.Room_, lsv (encI .i32) 1 y51.1.Out_]]) (by kernel_rfl) ?_
                refine RJ.caseB 88 (b := (decide (x0.Fuel_ ≤ x0.Room_))) (by kernel_rfl) (fun hb159 => ?_) (fun hb159 => ?_)
                · have h160 := condT hb159 h157
                  refine RJ.seg 17 [4] (L2 := [(4, .bool true)]) (H2 := [.box [.int .i64 x0.Fuel_, .int .i64 x0.Room_, lsv (encI .i32) 1 x0.Out_], .box [.int .i64 y51.1.Fuel_, .int .i64 y51.1.Room_, lsv (encI .i32) 1 y51.1.Out_]]) (by kernel_rfl) ?_
                  refine RJ.end (by kernel_rfl) ?_
                  obtain rfl := Option.some.inj h160
                  refine PJ.wk (Wk.sel (L2 := [(4, .bool true)]) (H2 := []) 0 (by rw [hFH]; rfl) hFD [] (by kernel_rfl) (by kernel_rfl) (by decide) (by kernel_rfl) (by kernel_rfl) (by kernel_rfl) (by kernel_rfl)) ?_
                  exact PJ.cutN [4] (by kernel_rfl) (by kernel_rfl)
                · have h161 := condF hb159 h157
                  refine RJ.seg 3 [2, 4, 7, 73, 88, 91] (L2 := [(2, .ptr 0 0), (4, .bool false), (7, .ptr 1 0), (73, .bool true), (88, .bool false), (91, .bool (decide (y51.2 = 5)))]) (H2 := [.box [.int .i64 x0.Fuel_, .int .i64 x0.Room_, lsv (encI .i32) 1 x0.Out_], .box [.int .i64 y51.1.Fuel_, .int .i64 y51.1.Room_, lsv (encI .i32) 1 y51.1.Out_]]) (by kernel_rfl) ?_
                  refine RJ.caseB 91 (b := (decide (y51.2 = 5))) (by kernel_rfl) (fun hb162 => ?_) (fun hb162 => ?_)
                  · have h163 := condT hb162 h161
                    refine RJ.seg 5 [2, 4, 73, 88, 96] (L2 := [(2, .ptr 0 0), (4, .bool false), (73, .bool true), (88, .bool false), (96, .bool (decide (y51.1.Room_ = 0)))]) (H2 := [.box [.int .i64 x0.Fuel_, .int .i64 x0.Room_, lsv (encI .i32) 1 x0.Out_], .box [.int .i64 y51.1.Fuel_, .int .i64 y51.1.Room_, lsv (encI .i32) 1 y51.1.Out_]]) (by kernel_rfl) ?_
                    refine RJ.caseB 96 (b := (decide (y51.1.Room_ = 0))) (by kernel_rfl) (fun hb165 => ?_) (fun hb165 => ?_)
                    · have h166 := condT hb165 h163
                      refine RJ.seg 9 [4] (L2 := [(4, .bool (decide (x0.Fuel_ > x0.Room_)))]) (H2 := [.box [.int .i64 x0.Fuel_, .int .i64 x0.Room_, lsv (encI .i32) 1 x0.Out_], .box [.int .i64 y51.1.Fuel_, .int .i64 y51.1.Room_, lsv (encI .i32) 1 y51.1.Out_]]) (by kernel_rfl) ?_
                      refine RJ.end (by kernel_rfl) ?_
                      obtain rfl := Option.some.inj h166
                      refine PJ.wk (Wk.sel (L2 := [(4, .bool (decide (x0.Fuel_ > x0.Room_)))]) (H2 := []) 0 (by rw [hFH]; rfl) hFD [] (by kernel_rfl) (by kernel_rfl) (by decide) (by kernel_rfl) (by kernel_rfl) (by kernel_rfl) (by kernel_rfl)) ?_
                      exact PJ.cutN [4] (by kernel_rfl) (by kernel_rfl)
                    · have h167 := condF hb165 h163
                      refine RJ.seg 9 [4] (L2 := [(4, .bool false)]) (H2 := [.box [.int .i64 x0.Fuel_, .int .i64 x0.Room_, lsv (encI .i32) 1 x0.Out_], .box [.int .i64 y51.1.Fuel_, .int .i64 y51.1.Room_, lsv (encI .i32) 1 y51.1.Out_]]) (by kernel_rfl) ?_
                      refine RJ.end (by kernel_rfl) ?_
                      obtain rfl := Option.some.inj h167
                      refine PJ.wk (Wk.sel (L2 := [(4, .bool false)]) (H2 := []) 0 (by rw [hFH]; rfl) hFD [] (by kernel_rfl) (by kernel_rfl) (by decide) (by kernel_rfl) (by kernel_rfl) (by kernel_rfl) (by kernel_rfl)) ?_
                      exact PJ.cutN [4] (by kernel_rfl) (by kernel_rfl)
                  · have h164 := condF hb162 h161
                    refine RJ.seg 14 [4] (L2 := [(4, .bool false)]) (H2 := [.box [.int .i64 x0.Fuel_, .int .i64 x0.Room_, lsv (encI .i32) 1 x0.Out_], .box [.int .i64 y51.1.Fuel_, .int .i64 y51.1.Room_, lsv (encI .i32) 1 y51.1.Out_]]) (by kernel_rfl) ?_
                    refine RJ.end (by kernel_rfl) ?_
                    obtain rfl := Option.some.inj h164
                    refine PJ.wk (Wk.sel (L2 := [(4, .bool false)]) (H2 := []) 0 (by rw [hFH]; rfl) hFD [] (by kernel_rfl) (by kernel_rfl) (by decide) (by kernel_rfl) (by kernel_rfl) (by kernel_rfl) (by kernel_rfl)) ?_
                    exact PJ.cutN [4] (by kernel_rfl) (by kernel_rfl)
              · have h158 := condF hb156 h154
                refine RJ.seg 10 [2, 4, 7, 73, 88, 91] (L2 := [(2, .ptr 0 0), (4, .bool false), (7, .ptr 1 0), (73, .bool true), (88, .bool false), (91, .bool (decide (y51.2 = 5)))]) (H2 := [.box [.int .i64 x0.Fuel_, .int .i64 x0.Room_, lsv (encI .i32) 1 x0.Out_], .box [.int .i64 y51.1.Fuel_, .int .i64 y51.1.Room_, lsv (encI .i32) 1 y51.1.Out_]]) (by kernel_rfl) ?_
                refine RJ.caseB 91 (b := (decide (y51.2 = 5))) (by kernel_rfl) (fun hb168 => ?_) (fun hb168 => ?_)
                · have h169 := condT hb168 h158
                  refine RJ.seg 5 [2, 4, 73, 88, 96] (L2 := [(2, .ptr 0 0), (4, .bool false), (73, .bool true), (88, .bool false), (96, .bool (decide (y51.1.Room_ = 0)))]) (H2 := [.box [.int .i64 x0.Fuel_, .int .i64 x0.Room_, lsv (encI .i32) 1 x0.Out_], .box [.int .i64 y51.1.Fuel_, .int .i64 y51.1.Room_, lsv (encI .i32) 1 y51.1.Out_]]) (by kernel_rfl) ?_
                  refine RJ.caseB 96 (b := (decide (y51.1.Room_ = 0))) (by kernel_rfl) (fun hb171 => ?_) (fun hb171 => ?_)
                  · have h172 := condT hb171 h169
                    refine RJ.seg 9 [4] (L2 := [(4, .bool (decide (x0.Fuel_ > x0.Room_)))]) (H2 := [.box [.int .i64 x0.Fuel_, .int .i64 x0.Room_, lsv (encI .i32) 1 x0.Out_], .box [.int .i64 y51.1.Fuel_, .int .i64 y51.1.Room_, lsv (encI .i32) 1 y51.1.Out_]]) (by kernel_rfl) ?_
                    refine RJ.end (by kernel_rfl) ?_
                    obtain rfl := Option.some.inj h172
                    refine PJ.wk (Wk.sel (L2 := [(4, .bool (decide (x0.Fuel_ > x0.Room_)))]) (H2 := []) 0 (by rw [hFH]; rfl) hFD [] (by kernel_rfl) (by kernel_rfl) (by decide) (by kernel_rfl) (by kernel_rfl) (by kernel_rfl) (by kernel_rfl)) ?_
                    exact PJ.cutN [4] (by kernel_rfl) (by kernel_rfl)
                  · have h173 := condF hb171 h169
                    refine RJ.seg 9 [4] (L2 := [(4, .bool false)]) (H2 := [.box [.int .i64 x0.Fuel_, .int .i64 x0.Room_, lsv (encI .i32) 1 x0.Out_], .box [.int .i64 y51.1.Fuel_, .int .i64 y51.1.Room_, lsv (encI .i32) 1 y51.1.Out_]]) (by kernel_rfl) ?_
                    refine RJ.end (by kernel_rfl) ?_
                    obtain rfl := Option.some.inj h173
                    refine PJ.wk (Wk.sel (L2 := [(4, .bool false)]) (H2 := []) 0 (by rw [hFH]; rfl) hFD [] (by kernel_rfl) (by kernel_rfl) (by decide) (by kernel_rfl) (by kernel_rfl) (by kernel_rfl) (by kernel_rfl)) ?_
                    exact PJ.cutN [4] (by kernel_rfl) (by kernel_rfl)
                · have h170 := condF hb168 h158
                  refine RJ.seg 14 [4] (L2 := [(4, .bool false)]) (H2 := [.box [.int .i64 x0.Fuel_, .int .i64 x0.Room_, lsv (encI .i32) 1 x0.Out_], .box [.int .i64 y51.1.Fuel_, .int .i64 y51.1.Room_, lsv (encI .i32) 1 y51.1.Out_]]) (by kernel_rfl) ?_
                  refine RJ.end (by kernel_rfl) ?_
                  obtain rfl := Option.some.inj h170
                  refine PJ.wk (Wk.sel (L2 := [(4, .bool false)]) (H2 := []) 0 (by rw [hFH]; rfl) hFD [] (by kernel_rfl) (by kernel_rfl) (by decide) (by kernel_rfl) (by kernel_rfl) (by kernel_rfl) (by kernel_rfl)) ?_
                  exact PJ.cutN [4] (by kernel_rfl) (by kernel_rfl)
            · have h155 := condF hb153 h151
              refine RJ.seg 15 [2, 4, 7, 73, 88, 91] (L2 := [(2, .ptr 0 0), (4, .bool false), (7, .ptr 1 0), (73, .bool true), (88, .bool false), (91, .bool (decide (y51.2 = 5)))]) (H2 := [.box [.int .i64 x0.Fuel_, .int .i64 x0.Room_, lsv (encI .i32) 1 x0.Out_], .box [.int .i64 y51.1.Fuel_, .int .i64 y51.1.Room_, lsv (encI .i32) 1 y51.1.Out_]]) (by kernel_rfl) ?_
              refine RJ.caseB 91 (b := (decide (y51.2 = 5))) (by kernel_rfl) (fun hb174 => ?_) (fun hb174 => ?_)
              · have h175 := condT hb174 h155
                refine RJ.seg 5 [2, 4, 73, 88, 96] (L2 := [(2, .ptr 0 0), (4, .bool false), (73, .bool true), (88, .bool false), (96, .bool (decide (y51.1.Room_ = 0)))]) (H2 := [.box [.int .i64 x0.Fuel_, .int .i64 x0.Room_, lsv (encI .i32) 1 x0.Out_], .box [.int .i64 y51.1.Fuel_, .int .i64 y51.1.Room_, lsv (encI .i32) 1 y51.1.Out_]]) (by kernel_rfl) ?_
                refine RJ.caseB 96 (b := (decide (y51.1.Room_ = 0))) (by kernel_rfl) (fun hb177 => ?_) (fun hb177 => ?_)
                · have h178 := condT hb177 h175
                  refine RJ.seg 9 [4] (L2 := [(4, .bool (decide (x0.Fuel_ > x0.Room_)))]) (H2 := [.box [.int .i64 x0.Fuel_, .int .i64 x0.Room_, lsv (encI .i32) 1 x0.Out_], .box [.int .i64 y51.1.Fuel_, .int .i64 y51.1.Room_, lsv (encI .i32) 1 y51.1.Out_]]) (by kernel_rfl) ?_
                  refine RJ.end (by kernel_rfl) ?_
                  obtain rfl := Option.some.inj h178
                  refine PJ.wk (Wk.sel (L2 := [(4, .bool (decide (x0.Fuel_ > x0.Room_)))]) (H2 := []) 0 (by rw [hFH]; rfl) hFD [] (by kernel_rfl) (by kernel_rfl) (by decide) (by kernel_rfl) (by kernel_rfl) (by kernel_rfl) (by kernel_rfl)) ?_
                  exact PJ.cutN [4] (by kernel_rfl) (by kernel_rfl)
                · have h179 := condF hb177 h175
                  refine RJ.seg 9 [4] (L2 := [(4, .bool false)]) (H2 := [.box [.int .i64 x0.Fuel_, .int .i64 x0.Room_, lsv (encI .i32) 1 x0.Out_], .box [.int .i64 y51.1.Fuel_, .int .i64 y51.1.Room_, lsv (encI .i32) 1 y51.1.Out_]]) (by kernel_rfl) ?_
                  refine RJ.end (by kernel_rfl) ?_
                  obtain rfl := Option.some.inj h179
                  refine PJ.wk (Wk.sel (L2 := [(4, .bool false)]) (H2 := []) 0 (by rw [hFH]; rfl) hFD [] (by kernel_rfl) (by kernel_rfl) (by decide) (by kernel_rfl) (by kernel_rfl) (by kernel_rfl) (by kernel_rfl)) ?_
                  exact PJ.cutN [4] (by kernel_rfl) (by kernel_rfl)
              · have h176 := condF hb174 h155
                refine RJ.seg 14 [4] (L2 := [(4, .bool false)]) (H2 := [.box [.int .i64 x0.Fuel_, .int .i64 x0.Room_, lsv (encI .i32) 1 x0.Out_], .box [.int .i64 y51.1.Fuel_, .int .i64 y51.1.Room_, lsv (encI .i32) 1 y51.1.Out_]]) (by kernel_rfl) ?_
                refine RJ.end (by kernel_rfl) ?_
                obtain rfl := Option.some.inj h176
                refine PJ.wk (Wk.sel (L2 := [(4, .bool false)]) (H2 := []) 0 (by rw [hFH]; rfl) hFD [] (by kernel_rfl) (by kernel_rfl) (by decide) (by kernel_rfl) (by kernel_rfl) (by kernel_rfl) (by kernel_rfl)) ?_
                exact PJ.cutN [4] (by kernel_rfl) (by kernel_rfl)
          · have h152 := condF hb150 hy147
            refine RJ.seg 32 [4] (L2 := [(4, .bool false)]) (H2 := [.box [.int .i64 x0.Fuel_, .int .i64 x0.Room_, lsv (encI .i32) 1 x0.Out_], .box [.int .i64 y51.1.Fuel_, .int .i64 y51.1.Room_, lsv (encI .i32) 1 y51.1.Out_]]) (by kernel_rfl) ?_
            refine RJ.end (by kernel_rfl) ?_
            obtain rfl := Option.some.inj h152
            refine PJ.wk (Wk.sel (L2 := [(4, .bool false)]) (H2 := []) 0 (by rw [hFH]; rfl) hFD [] (by kernel_rfl) (by kernel_rfl) (by decide) (by kernel_rfl) (by kernel_rfl) (by kernel_rfl) (by kernel_rfl)) ?_
            exact PJ.cutN [4] (by kernel_rfl) (by kernel_rfl)
        · refine K.ret (by kernel_rfl) ?_
          obtain rfl := Option.some.inj h149
          exact K.ret0 (.inr rfl) hFn hFH hFD (by kernel_rfl) (by kernel_rfl) (by kernel_rfl)

def tank_Burn (x0 : St23) (x1 : Int) : Option (St23 × Int) :=
  (Option.bind (tank_own x0 0) fun y1 => (bif (decide (x1 < 0)) then (some (y1, 1)) else (Option.bind (tank_burn y1 x1) fun y7 => (some (y7.1, y7.2)))))
theorem tank_Burn_ok {x0 : St23} {x1 : Int} {r : St23 × Int} (h : tank_Burn x0 x1 = some r) : SC Try.prog 13 [.agg [.int .i64 x0.Fuel_, .int .i64 x0.Room_, lsv (encI .i32) 1 x0.Out_], .int .i64 x1] [] (.tup [.agg [.int .i64 r.1.Fuel_, .int .i64 r.1.Room_, lsv (encI .i32) 1 r.1.Out_], .int .i64 r.2]) [] := by
  refine K.fn (fn := Try.f13) (by kernel_rfl) (by kernel_rfl) (by kernel_rfl) (by kernel_rfl) (by kernel_rfl) (fun F hFn hFH hFD => ?_)
  unfold tank_Burn at h
  refine K.seq (by kernel_rfl) ?_
  refine K.region (by kernel_rfl) ?_
  refine RJ.seg 3 [1, 2, 4, 5] (L2 := [(1, .int .i64 x1), (2, .ptr 0 0), (4, .ptr 1 0), (5, .int .i64 0)]) (H2 := [.box [.int .i64 x0.Fuel_, .int .i64 x0.Room_, lsv (encI .i32) 1 x0.Out_], .box [.int .i64 0, .int .i64 0, .nl]]) (by kernel_rfl) ?_
  refine RJ.end (by kernel_rfl) ?_
  refine PJ.next ?_
  refine K.seq (by kernel_rfl) ?_
  refine K.region (by kernel_rfl) ?_
  refine RJ.seg 1 [1, 2, 4, 5, 6] (L2 := [(1, .int .i64 x1), (2, .ptr 0 0), (4, .ptr 1 0), (5, .int .i64 0), (6, .agg [.int .i64 x0.Fuel_, .int .i64 x0.Room_, lsv (encI .i32) 1 x0.Out_])]) (H2 := [.box [.int .i64 x0.Fuel_, .int .i64 x0.Room_, lsv (encI .i32) 1 x0.Out_], .box [.int .i64 0, .int .i64 0, .nl]]) (by kernel_rfl) ?_
  obtain ⟨y1, hy2, h3⟩ := bindS h
  refine RJ.callG (d := (some 7)) (f := 16) (args := [.agg [.int .i64 x0.Fuel_, .int .i64 x0.Room_, lsv (encI .i32) 1 x0.Out_], .int .i64 0]) (args0 := [.agg [.int .i64 x0.Fuel_, .int .i64 x0.Room_, lsv (encI .i32) 1 x0.Out_], .int .i64 0]) (v0 := .agg [.int .i64 y1.Fuel_, .int .i64 y1.Room_, .vc 0]) (v := .agg [.int .i64 y1.Fuel_, .int .i64 y1.Room_, .vc 2]) (tr2 := []) (H0 := []) (H0' := [vecL (encI .i32) 1 21 y1.Out_]) (H2 := [.box [.int .i64 x0.Fuel_, .int .i64 x0.Room_, lsv (encI .i32) 1 x0.Out_], .box [.int .i64 0, .int .i64 0, .nl], vecL (encI .i32) 1 21 y1.Out_]) [] (by kernel_rfl) (by kernel_rfl) (by kernel_rfl) (by kernel_rfl) (by decide) (by kernel_rfl) (by kernel_rfl) (by kernel_rfl) (.cons (Le.refl _) (.cons (Le.refl _) .nil)) (tank_own_ok_o hy2) (by kernel_rfl) (by kernel_rfl) (by kernel_rfl) ?_
  refine RJ.seg 1 [1, 2, 4, 5] (L2 := [(1, .int .i64 x1), (2, .ptr 0 0), (4, .ptr 1 0), (5, .int .i64 0)]) (H2 := [.box [.int .i64 y1.Fuel_, .int .i64 y1.Room_, .vc 2], .box [.int .i64 0, .int .i64 0, .nl], vecL (encI .i32) 1 21 y1.Out_]) (by kernel_rfl) ?_
  refine RJ.end (by kernel_rfl) ?_
  refine PJ.next ?_
  refine K.seq (by kernel_rfl) ?_
  refine K.seq (by kernel_rfl) ?_
  refine K.region (by kernel_rfl) ?_
  refine RJ.seg 2 [1, 2, 4, 5, 9] (L2 := [(1, .int .i64 x1), (2, .ptr 0 0), (4, .ptr 1 0), (5, .int .i64 0), (9, .bool (decide (x1 < 0)))]) (H2 := [.box [.int .i64 y1.Fuel_, .int .i64 y1.Room_, .vc 2], .box [.int .i64 0, .int .i64 0, .nl], vecL (encI .i32) 1 21 y1.Out_]) (by kernel_rfl) ?_
  refine RJ.end (by kernel_rfl) ?_
  refine PJ.next ?_
  refine J.caseB 9 (b := (decide (x1 < 0))) (by kernel_rfl) (fun hb4 => ?_) (fun hb4 => ?_)
  · have h5 := condT hb4 h3
    refine K.condT (by kernel_rfl) ?_
    refine K.seq (by kernel_rfl) ?_
    refine K.region (by kernel_rfl) ?_
    refine RJ.seg 3 [1, 2, 4, 5] (L2 := [(1, .int .i64 x1), (2, .ptr 0 0), (4, .ptr 1 0), (5, .int .i64 1)]) (H2 := [.box [.int .i64 y1.Fuel_, .int .i64 y1.Room_, .vc 2], .box [.int .i64 y1.Fuel_, .int .i64 y1.Room_, .vc 2], vecL (encI .i32) 1 21 y1.Out_]) (by kernel_rfl) ?_
    refine RJ.end (by kernel_rfl) ?_
    refine PJ.next ?_
    refine K.ret (by kernel_rfl) ?_
    refine PJ.passRet ?_
    obtain rfl := Option.some.inj h5
    refine PJ.wk (Wk.freeze 2 (n := y1.Out_.length) (k := 1) (e := 21) (cs := y1.Out_.flatMap (encI .i32)) (by kernel_rfl)) ?_
    exact K.ret0 (.inr rfl) hFn hFH hFD (by kernel_rfl) (by kernel_rfl) (by kernel_rfl)
  · have h6 := condF hb4 h3
    refine K.condF (by kernel_rfl) ?_
    refine K.skip (by kernel_rfl) ?_
    refine PJ.next ?_
    refine K.seq (by kernel_rfl) ?_
    refine K.region (by kernel_rfl) ?_
    refine RJ.seg 2 [4, 5, 11, 12] (L2 := [(4, .ptr 1 0), (5, .int .i64 0), (11, .agg [.int .i64 y1.Fuel_, .int .i64 y1.Room_, .vc 2]), (12, .int .i64 x1)]) (H2 := [.box [.int .i64 y1.Fuel_, .int .i64 y1.Room_, .vc 2], .box [.int .i64 0, .int .i64 0, .nl], vecL (encI .i32) 1 21 y1.Out_]) (by kernel_rfl) ?_
    obtain ⟨y7, hy8, h9⟩ := bindS h6
    refine RJ.callG (d := (some 13)) (f := 17) (args := [.agg [.int .i64 y1.Fuel_, .int .i64 y1.Room_, .vc 2], .int .i64 x1]) (args0 := [.agg [.int .i64 y1.Fuel_, .int .i64 y1.Room_, .vc 0], .int .i64 x1]) (v0 := .tup [.agg [.int .i64 y7.1.Fuel_, .int .i64 y7.1.Room_, .vc 0], .int .i64 y7.2]) (v := .tup [.agg [.int .i64 y7.1.Fuel_, .int .i64 y7.1.Room_, .vc 2], .int .i64 y7.2]) (tr2 := []) (H0 := [vecL (encI .i32) 1 21 y1.Out_]) (H0' := [vecL (encI .i32) 1 21 y7.1.Out_]) (H2 := [.box [.int .i64 y1.Fuel_, .int .i64 y1.Room_, .vc 2], .box [.int .i64 0, .int .i64 0, .nl], vecL (encI .i32) 1 21 y7.1.Out_]) [2] (by kernel_rfl) (by kernel_rfl) (by kernel_rfl) (by kernel_rfl) (by decide) (by kernel_rfl) (by kernel_rfl) (by kernel_rfl) (.cons (Le.refl _) (.cons (Le.refl _) .nil)) (tank_burn_ok_0o hy8) (by kernel_rfl) (by kernel_rfl) (by kernel_rfl) ?_
    refine RJ.seg 4 [4, 5] (L2 := [(4, .ptr 1 0), (5, .int .i64 y7.2)]) (H2 := [.box [.int .i64 y1.Fuel_, .int .i64 y1.Room_, .vc 2], .box [.int .i64 y7.1.Fuel_, .int .i64 y7.1.Room_, .vc 2], vecL (encI .i32) 1 21 y7.1.Out_]) (by kernel_rfl) ?_
    refine RJ.end (by kernel_rfl) ?_
    refine PJ.next ?_
    refine K.ret (by kernel_rfl) ?_
    obtain rfl := Option.some.inj h9
    refine PJ.wk (Wk.freeze 2 (n := y7.1.Out_.length) (k := 1) (e := 21) (cs := y7.1.Out_.flatMap (encI .i32)) (by kernel_rfl)) ?_
    exact K.ret0 (.inr rfl) hFn hFH hFD (by kernel_rfl) (by kernel_rfl) (by kernel_rfl)

def exerguelaw04_TankBurns (x0 : St23) (x1 : Int) (x2 : Int) : Option (Bool) :=
  (Option.bind exerguelaw04_shown fun y1 => (Option.bind (exergueref04_Right x0) fun y4 => (bif (!y4) then (some y1) else (Option.bind (tank_Burn x0 ((IntKind.wrap .i64 ((IntKind.wrap .i64 x1) + (IntKind.wrap .i64 x2))))) fun y10 => (Option.bind (tank_Burn x0 (IntKind.wrap .i64 x1)) fun y13 => (Option.bind (bif (decide (y13.2 = 0)) then (Option.bind (tank_Burn y13.1 (IntKind.wrap .i64 x2)) fun y30 => (some (y30.2, y30.1.Fuel_, y30.1.Room_, y30.1.Out_))) else (some (y13.2, y13.1.Fuel_, y13.1.Room_, y13.1.Out_))) fun (s22 : Int × Int × Int × (List Int)) => (Option.bind (bif y1 then (bif (decide (y10.2 = s22.1)) then (Option.bind (exergueref04_Same y10.1 (⟨s22.2.1, s22.2.2.1, s22.2.2.2⟩ : St23)) fun y68 => (bif y68 then (bif (decide (y10.1.Room_ = x0.Room_)) then (bif (decide ((y10.1.Out_.length : Int) = (x0.Out_.length : Int))) then (bif ((decide (y10.2 = 0)) == ((decide (((IntKind.wrap .i64 ((IntKind.wrap .i64 x1) + (IntKind.wrap .i64 x2)))) ≤ x0.Fuel_)))) then (bif (decide (y10.2 = 0)) then (some true) else (some (decide (y10.1.Fuel_ = 0)))) else (some false)) else (some false)) else (some false)) else (some false))) else (some false)) else (some false)) fun (s57 : Bool) => (some s57))))))))
theorem exerguelaw04_TankBurns_ok {x0 : St23} {x1 : Int} {x2 : Int} {r : Bool} (h : exerguelaw04_TankBurns x0 x1 x2 = some r) : SC Try.prog 5 [.agg [.int .i64 x0.Fuel_, .int .i64 x0.Room_, lsv (encI .i32) 1 x0.Out_], .int .u16 x1, .int .u16 x2] [] (.bool r) [] := by
  refine K.fn (fn := Try.f5) (by kernel_rfl) (by kernel_rfl) (by kernel_rfl) (by kernel_rfl) (by kernel_rfl) (fun F hFn hFH hFD => ?_)
  unfold exerguelaw04_TankBurns at h
  refine K.seq (by kernel_rfl) ?_
  refine K.region (by kernel_rfl) ?_
  refine RJ.seg 2 [1, 2, 3, 6] (L2 := [(1, .int .u16 x1), (2, .int .u16 x2), (3, .ptr 0 0), (6, .bool false)]) (H2 := [.box [.int .i64 x0.Fuel_, .int .i64 x0.Room_, lsv (encI .i32) 1 x0.Out_]]) (by kernel_rfl) ?_
  refine RJ.end (by kernel_rfl) ?_
  refine PJ.next ?_
  refine K.seq (by kernel_rfl) ?_
  refine K.region (by kernel_rfl) ?_
  obtain ⟨y1, hy2, h3⟩ := bindS h
  refine RJ.call0 (d := (some 12)) (f := 8) (args := []) (v := .bool y1) (tr2 := []) (by kernel_rfl) (by kernel_rfl) .nil (exerguelaw04_shown_ok hy2) (by kernel_rfl) ?_
  refine RJ.seg 1 [1, 2, 3, 6, 7] (L2 := [(1, .int .u16 x1), (2, .int .u16 x2), (3, .ptr 0 0), (6, .bool false), (7, .bool y1)]) (H2 := [.box [.int .i64 x0.Fuel_, .int .i64 x0.Room_, lsv (encI .i32) 1 x0.Out_]]) (by kernel_rfl) ?_
  refine RJ.end (by kernel_rfl) ?_
  refine PJ.next ?_
  refine K.seq (by kernel_rfl) ?_
  refine K.seq (by kernel_rfl) ?_
  refine K.region (by kernel_rfl) ?_
  refine RJ.seg 1 [1, 2, 3, 6, 7, 13] (L2 := [(1, .int .u16 x1), (2, .int .u16 x2), (3, .ptr 0 0), (6, .bool false), (7, .bool y1), (13, .agg [.int .i64 x0.Fuel_, .int .i64 x0.Room_, lsv (encI .i32) 1 x0.Out_])]) (H2 := [.box [.int .i64 x0.Fuel_, .int .i64 x0.Room_, lsv (encI .i32) 1 x0.Out_]]) (by kernel_rfl) ?_
  obtain ⟨y4, hy5, h6⟩ := bindS h3
  refine RJ.call0 (d := (some 14)) (f := 9) (args := [.agg [.int .i64 x0.Fuel_, .int .i64 x0.Room_, lsv (encI .i32) 1 x0.Out_]]) (v := .bool y4) (tr2 := []) (by kernel_rfl) (by kernel_rfl) (.cons (Le.refl _) .nil) (exergueref04_Right_ok hy5) (by kernel_rfl) ?_
  refine RJ.seg 1 [1, 2, 3, 6, 7, 15] (L2 := [(1, .int .u16 x1), (2, .int .u16 x2), (3, .ptr 0 0), (6, .bool false), (7, .bool y1), (15, .bool (!y4))]) (H2 := [.box [.int .i64 x0.Fuel_, .int .i64 x0.Room_, lsv (encI .i32) 1 x0.Out_]]) (by kernel_rfl) ?_
  refine RJ.end (by kernel_rfl) ?_
  refine PJ.next ?_
  refine J.caseB 15 (b := (!y4)) (by kernel_rfl) (fun hb7 => ?_) (fun hb7 => ?_)
  · have h8 := condT hb7 h6
    refine K.condT (by kernel_rfl) ?_
    refine K.seq (by kernel_rfl) ?_
    refine K.region (by kernel_rfl) ?_
    refine RJ.seg 2 [1, 2, 3, 6, 7] (L2 := [(1, .int .u16 x1), (2, .int .u16 x2), (3, .ptr 0 0), (6, .bool y1), (7, .bool y1)]) (H2 := [.box [.int .i64 x0.Fuel_, .int .i64 x0.Room_, lsv (encI .i32) 1 x0.Out_]]) (by kernel_rfl) ?_
    refine RJ.end (by kernel_rfl) ?_
    refine PJ.next ?_
    refine K.ret (by kernel_rfl) ?_
    refine PJ.passRet ?_
    obtain rfl := Option.some.inj h8
    exact K.ret0 (.inr rfl) hFn hFH hFD (by kernel_rfl) (by kernel_rfl) (by kernel_rfl)
  · have h9 := condF hb7 h6
    refine K.condF (by kernel_rfl) ?_
    refine K.skip (by kernel_rfl) ?_
    refine PJ.next ?_
    refine K.seq (by kernel_rfl) ?_
    refine K.region (by kernel_rfl) ?_
    refine RJ.seg 6 [1, 2, 3, 6, 7, 18, 23] (L2 := [(1, .int .u16 x1), (2, .int .u16 x2), (3, .ptr 0 0), (6, .bool false), (7, .bool y1), (18, .agg [.int .i64 x0.Fuel_, .int .i64 x0.Room_, lsv (encI .i32) 1 x0.Out_]), (23, .int .i64 ((IntKind.wrap .i64 ((IntKind.wrap .i64 x1) + (IntKind.wrap .i64 x2)))))]) (H2 := [.box [.int .i64 x0.Fuel_, .int .i64 x0.Room_, lsv (encI .i32) 1 x0.Out_]]) (by kernel_rfl) ?_
    obtain ⟨y10, hy11, h12⟩ := bindS h9
    refine RJ.call0 (d := (some 24)) (f := 13) (args := [.agg [.int .i64 x0.Fuel_, .int .i64 x0.Room_, lsv (encI .i32) 1 x0.Out_], .int .i64 ((IntKind.wrap .i64 ((IntKind.wrap .i64 x1) + (IntKind.wrap .i64 x2))))]) (v := .tup [.agg [.int .i64 y10.1.Fuel_, .int .i64 y10.1.Room_, lsv (encI .i32) 1 y10.1.Out_], .int .i64 y10.2]) (tr2 := []) (by kernel_rfl) (by kernel_rfl) (.cons (Le.refl _) (.cons (Le.refl _) .nil)) (tank_Burn_ok hy11) (by kernel_rfl) ?_
    refine RJ.seg 6 [1, 2, 3, 6, 7, 8, 9] (L2 := [(1, .int .u16 x1), (2, .int .u16 x2), (3, .ptr 0 0), (6, .bool false), (7, .bool y1), (8, .ptr 1 0), (9, .int .i64 y10.2)]) (H2 := [.box [.int .i64 x0.Fuel_, .int .i64 x0.Room_, lsv (encI .i32) 1 x0.Out_], .box [.int .i64 y10.1.Fuel_, .int .i64 y10.1.Room_, lsv (encI .i32) 1 y10.1.Out_]]) (by kernel_rfl) ?_
    refine RJ.end (by kernel_rfl) ?_
    refine PJ.next ?_
    refine K.seq (by kernel_rfl) ?_
    refine K.region (by kernel_rfl) ?_
    refine RJ.seg 3 [1, 2, 3, 6, 7, 8, 9, 28, 30] (L2 := [(1, .int .u16 x1), (2, .int .u16 x2), (3, .ptr 0 0), (6, .bool false), (7, .bool y1), (8, .ptr 1 0), (9, .int .i64 y10.2), (28, .agg [.int .i64 x0.Fuel_, .int .i64 x0.Room_, lsv (encI .i32) 1 x0.Out_]), (30, .int .i64 (IntKind.wrap .i64 x1))]) (H2 := [.box [.int .i64 x0.Fuel_, .int .i64 x0.Room_, lsv (encI .i32) 1 x0.Out_], .box [.int .i64 y10.1.Fuel_, .int .i64 y10.1.Room_, lsv (encI .i32) 1 y10.1.Out_]]) (by kernel_rfl) ?_
    obtain ⟨y13, hy14, h15⟩ := bindS h12
    refine RJ.call0 (d := (some 31)) (f := 13) (args := [.agg [.int .i64 x0.Fuel_, .int .i64 x0.Room_, lsv (encI .i32) 1 x0.Out_], .int .i64 (IntKind.wrap .i64 x1)]) (v := .tup [.agg [.int .i64 y13.1.Fuel_, .int .i64 y13.1.Room_, lsv (encI .i32) 1 y13.1.Out_], .int .i64 y13.2]) (tr2 := []) (by kernel_rfl) (by kernel_rfl) (.cons (Le.refl _) (.cons (Le.refl _) .nil)) (tank_Burn_ok hy14) (by kernel_rfl) ?_
    refine RJ.seg 6 [1, 2, 3, 6, 7, 8, 9, 10, 11] (L2 := [(1, .int .u16 x1), (2, .int .u16 x2), (3, .ptr 0 0), (6, .bool false), (7, .bool y1), (8, .ptr 1 0), (9, .int .i64 y10.2), (10, .ptr 2 0), (11, .int .i64 y13.2)]) (H2 := [.box [.int .i64 x0.Fuel_, .int .i64 x0.Room_, lsv (encI .i32) 1 x0.Out_], .box [.int .i64 y10.1.Fuel_, .int .i64 y10.1.Room_, lsv (encI .i32) 1 y10.1.Out_], .box [.int .i64 y13.1.Fuel_, .int .i64 y13.1.Room_, lsv (encI .i32) 1 y13.1.Out_]]) (by kernel_rfl) ?_
    refine RJ.end (by kernel_rfl) ?_
    refine PJ.next ?_
    obtain ⟨s22, hy24, h26⟩ := bindS h15
    refine K.cutN (by kernel_rfl) (fun (s22 : Int × Int × Int × (List Int)) => ([(1, .int .u16 x1), (2, .int .u16 x2), (3, .ptr 0 0), (6, .bool false), (7, .bool y1), (8, .ptr 1 0), (9, .int .i64 y10.2), (10, .ptr 2 0), (11, .int .i64 s22.1)], [.box [.int .i64 x0.Fuel_, .int .i64 x0.Room_, lsv (encI .i32) 1 x0.Out_], .box [.int .i64 y10.1.Fuel_, .int .i64 y10.1.Room_, lsv (encI .i32) 1 y10.1.Out_], .box [.int .i64 s22.2.1, .int .i64 s22.2.2.1, lsv (encI .i32) 1 s22.2.2.2]])) s22 ?_ ?_
    · refine K.seq (by kernel_rfl) ?_
      refine K.region (by kernel_rfl) ?_
      refine RJ.seg 2 [1, 2, 3, 6, 7, 8, 9, 10, 11, 35] (L2 := [(1, .int .u16 x1), (2, .int .u16 x2), (3, .ptr 0 0), (6, .bool false), (7, .bool y1), (8, .ptr 1 0), (9, .int .i64 y10.2), (10, .ptr 2 0), (11, .int .i64 y13.2), (35, .bool (decide (y13.2 = 0)))]) (H2 := [.box [.int .i64 x0.Fuel_, .int .i64 x0.Room_, lsv (encI .i32) 1 x0.Out_], .box [.int .i64 y10.1.Fuel_, .int .i64 y10.1.Room_, lsv (encI .i32) 1 y10.1.Out_], .box [.int .i64 y13.1.Fuel_, .int .i64 y13.1.Room_, lsv (encI .i32) 1 y13.1.Out_]]) (by kernel_rfl) ?_
      refine RJ.end (by kernel_rfl) ?_
      refine PJ.next ?_
      refine J.caseB 35 (b := (decide (y13.2 = 0))) (by kernel_rfl) (fun hb27 => ?_) (fun hb27 => ?_)
      · have h28 := condT hb27 hy24
        refine K.condT (by kernel_rfl) ?_
        refine K.region (by kernel_rfl) ?_
        refine RJ.seg 3 [1, 2, 3, 6, 7, 8, 9, 10, 11, 37, 39] (L2 := [(1, .int .u16 x1), (2, .int .u16 x2), (3, .ptr 0 0), (6, .bool false), (7, .bool y1), (8, .ptr 1 0), (9, .int .i64 y10.2), (10, .ptr 2 0), (11, .int .i64 y13.2), (37, .agg [.int .i64 y13.1.Fuel_, .int .i64 y13.1.Room_, lsv (encI .i32) 1 y13.1.Out_]), (39, .int .i64 (IntKind.wrap .i64 x2))]) (H2 := [.box [.int .i64 x0.Fuel_, .int .i64 x0.Room_, lsv (encI .i32) 1 x0.Out_], .box [.int .i64 y10.1.Fuel_, .int .i64 y10.1.Room_, lsv (encI .i32) 1 y10.1.Out_], .box [.int .i64 y13.1.Fuel_, .int .i64 y13.1.Room_, lsv (encI .i32) 1 y13.1.Out_]]) (by kernel_rfl) ?_
        obtain ⟨y30, hy31, h32⟩ := bindS h28
        refine RJ.call0 (d := (some 40)) (f := 13) (args := [.agg [.int .i64 y13.1.Fuel_, .int .i64 y13.1.Room_, lsv (encI .i32) 1 y13.1.Out_], .int .i64 (IntKind.wrap .i64 x2)]) (v := .tup [.agg [.int .i64 y30.1.Fuel_, .int .i64 y30.1.Room_, lsv (encI .i32) 1 y30.1.Out_], .int .i64 y30.2]) (tr2 := []) (by kernel_rfl) (by kernel_rfl) (.cons (Le.refl _) (.cons (Le.refl _) .nil)) (tank_Burn_ok hy31) (by kernel_rfl) ?_
        refine RJ.seg 5 [1, 2, 3, 6, 7, 8, 9, 10, 11] (L2 := [(1, .int .u16 x1), (2, .int .u16 x2), (3, .ptr 0 0), (6, .bool false), (7, .bool y1), (8, .ptr 1 0), (9, .int .i64 y10.2), (10, .ptr 2 0), (11, .int .i64 y30.2)]) (H2 := [.box [.int .i64 x0.Fuel_, .int .i64 x0.Room_, lsv (encI .i32) 1 x0.Out_], .box [.int .i64 y10.1.Fuel_, .int .i64 y10.1.Room_, lsv (encI .i32) 1 y10.1.Out_], .box [.int .i64 y30.1.Fuel_, .int .i64 y30.1.Room_, lsv (encI .i32) 1 y30.1.Out_]]) (by kernel_rfl) ?_
        refine RJ.end (by kernel_rfl) ?_
        obtain rfl := Option.some.inj h32
        exact PJ.cutN [1, 2, 3, 6, 7, 8, 9, 10, 11] (by kernel_rfl) (by kernel_rfl)
      · have h29 := condF hb27 hy24
        refine K.condF (by kernel_rfl) ?_
        refine K.skip (by kernel_rfl) ?_
        obtain rfl := Option.some.inj h29
        exact PJ.cutN [1, 2, 3, 6, 7, 8, 9, 10, 11] (by kernel_rfl) (by kernel_rfl)
    · obtain ⟨s57, hy59, h61⟩ := bindS h26
      refine K.cutN (by kernel_rfl) (fun (s57 : Bool) => ([(6, .bool s57)], [])) s57 ?_ ?_
      · refine K.region (by kernel_rfl) ?_
        refine RJ.seg 2 [1, 2, 3, 6, 8, 9, 10, 11, 44] (L2 := [(1, .int .u16 x1), (2, .int .u16 x2), (3, .ptr 0 0), (6, .bool false), (8, .ptr 1 0), (9, .int .i64 y10.2), (10, .ptr 2 0), (11, .int .i64 s22.1), (44, .bool y1)]) (H2 := [.box [.int .i64 x0.Fuel_, .int .i64 x0.Room_, lsv (encI .i32) 1 x0.Out_], .box [.int .i64 y10.1.Fuel_, .int .i64 y10.1.Room_, lsv (encI .i32) 1 y10.1.Out_], .box [.int .i64 s22.2.1, .int .i64 s22.2.2.1, lsv (encI .i32) 1 s22.2.2.2]]) (by kernel_rfl) ?_
        refine RJ.caseB 44 (b := y1) (by kernel_rfl) (fun hb62 => ?_) (fun hb62 => ?_)
        · have h63 := condT hb62 hy59
          refine RJ.seg 5 [1, 2, 3, 6, 8, 9, 10, 49] (L2 := [(1, .int .u16 x1), (2, .int .u16 x2), (3, .ptr 0 0), (6, .bool false), (8, .ptr 1 0), (9, .int .i64 y10.2), (10, .ptr 2 0), (49, .bool (decide (y10.2 = s22.1)))]) (H2 := [.box [.int .i64 x0.Fuel_, .int .i64 x0.Room_, lsv (encI .i32) 1 x0.Out_], .box [.int .i64 y10.1.Fuel_, .int .i64 y10.1.Room_, lsv (encI .i32) 1 y10.1.Out_], .box [.int .i64 s22.2.1, .int .i64 s22.2.2.1, lsv (encI .i32) 1 s22.2.2.2]]) (by kernel_rfl) ?_
          refine RJ.caseB 49 (b := (decide (y10.2 = s22.1))) (by kernel_rfl) (fun hb65 => ?_) (fun hb65 => ?_)
          · have h66 := condT hb65 h63
            refine RJ.seg 2 [1, 2, 3, 6, 8, 9, 49, 50, 51] (L2 := [(1, .int .u16 x1), (2, .int .u16 x2), (3, .ptr 0 0), (6, .bool false), (8, .ptr 1 0), (9, .int .i64 y10.2), (49, .bool true), (50, .agg [.int .i64 y10.1.Fuel_, .int .i64 y10.1.Room_, lsv (encI .i32) 1 y10.1.Out_]), (51, .agg [.int .i64 s22.2.1, .int .i64 s22.2.2.1, lsv (encI .i32) 1 s22.2.2.2])]) (H2 := [.box [.int .i64 x0.Fuel_, .int .i64 x0.Room_, lsv (encI .i32) 1 x0.Out_], .box [.int .i64 y10.1.Fuel_, .int .i64 y10.1.Room_, lsv (encI .i32) 1 y10.1.Out_], .box [.int .i64 s22.2.1, .int .i64 s22.2.2.1, lsv (encI .i32) 1 s22.2.2.2]]) (by kernel_rfl) ?_
            obtain ⟨y68, hy69, h70⟩ := bindS h66
            refine RJ.call0 (d := (some 52)) (f := 11) (args := [.agg [.int .i64 y10.1.Fuel_, .int .i64 y10.1.Room_, lsv (encI .i32) 1 y10.1.Out_], .agg [.int .i64 s22.2.1, .int .i64 s22.2.2.1, lsv (encI .i32) 1 s22.2.2.2]]) (v := .bool y68) (tr2 := []) (by kernel_rfl) (by kernel_rfl) (.cons (Le.refl _) (.cons (Le.refl _) .nil)) (exergueref04_Same_ok hy69) (by kernel_rfl) ?_
            refine RJ.seg 2 [1, 2, 3, 6, 8, 9, 54] (L2 := [(1, .int .u16 x1), (2, .int .u16 x2), (3, .ptr 0 0), (6, .bool false), (8, .ptr 1 0), (9, .int .i64 y10.2), (54, .bool y68)]) (H2 := [.box [.int .i64 x0.Fuel_, .int .i64 x0.Room_, lsv (encI .i32) 1 x0.Out_], .box [.int .i64 y10.1.Fuel_, .int .i64 y10.1.Room_, lsv (encI .i32) 1 y10.1.Out_], .box [.int .i64 s22.2.1, .int .i64 s22.2.2.1, lsv (encI .i32) 1 s22.2.2.2]]) (by kernel_rfl) ?_
            refine RJ.caseB 54 (b := y68) (by kernel_rfl) (fun hb71 => ?_) (fun hb71 => ?_)
            · have h72 := condT hb71 h70
              refine RJ.seg 7 [1, 2, 3, 6, 8, 9, 61] (L2 := [(1, .int .u16 x1), (2, .int .u16 x2), (3, .ptr 0 0), (6, .bool false), (8, .ptr 1 0), (9, .int .i64 y10.2), (61, .bool (decide (y10.1.Room_ = x0.Room_)))]) (H2 := [.box [.int .i64 x0.Fuel_, .int .i64 x0.Room_, lsv (encI .i32) 1 x0.Out_], .box [.int .i64 y10.1.Fuel_, .int .i64 y10.1.Room_, lsv (encI .i32) 1 y10.1.Out_], .box [.int .i64 s22.2.1, .int .i64 s22.2.2.1, lsv (encI .i32) 1 s22.2.2.2]]) (by kernel_rfl) ?_
              refine RJ.caseB 61 (b := (decide (y10.1.Room_ = x0.Room_))) (by kernel_rfl) (fun hb74 => ?_) (fun hb74 => ?_)
              · have h75 := condT hb74 h72
                refine RJ.seg 9 [1, 2, 3, 6, 8, 9, 70] (L2 := [(1, .int .u16 x1), (2, .int .u16 x2), (3, .ptr 0 0), (6, .bool false), (8, .ptr 1 0), (9, .int .i64 y10.2), (70, .bool ((decide ((y10.1.Out_.length : Int) = (x0.Out_.length : Int)))))]) (H2 := [.box [.int .i64 x0.Fuel_, .int .i64 x0.Room_, lsv (encI .i32) 1 x0.Out_], .box [.int .i64 y10.1.Fuel_, .int .i64 y10.1.Room_, lsv (encI .i32) 1 y10.1.Out_], .box [.int .i64 s22.2.1, .int .i64 s22.2.2.1, lsv (encI .i32) 1 s22.2.2.2]]) (by kernel_rfl) ?_
                refine RJ.caseB 70 (b := (decide ((y10.1.Out_.length : Int) = (x0.Out_.length : Int)))) (by kernel_rfl) (fun hb77 => ?_) (fun hb77 => ?_)
                · have h78 := condT hb77 h75
                  refine RJ.seg 13 [6, 8, 9, 83] (L2 := [(6, .bool false), (8, .ptr 1 0), (9, .int .i64 y10.2), (83, .bool (((decide (y10.2 = 0)) == ((decide (((IntKind.wrap .i64 ((IntKind.wrap .i64 x1) + (IntKind.wrap .i64 x2)))) ≤ x0.Fuel_))))))]) (H2 := [.box [.int .i64 x0.Fuel_, .int .i64 x0.Room_, lsv (encI .i32) 1 x0.Out_], .box [.int .i64 y10.1.Fuel_, .int .i64 y10.1.Room_, lsv (encI .i32) 1 y10.1.Out_], .box [.int .i64 s22.2.1, .int .i64 s22.2.2.1, lsv (encI .i32) 1 s22.2.2.2]]) (by kernel_rfl) ?_
                  refine RJ.caseB 83 (b := ((decide (y10.2 = 0)) == ((decide (((IntKind.wrap .i64 ((IntKind.wrap .i64 x1) + (IntKind.wrap .i64 x2)))) ≤ x0.Fuel_))))) (by kernel_rfl) (fun hb80 => ?_) (fun hb80 => ?_)
                  · have h81 := condT hb80 h78
                    refine RJ.seg 3 [6, 8, 83, 86] (L2 := [(6, .bool false), (8, .ptr 1 0), (83, .bool true), (86, .bool (decide (y10.2 = 0)))]) (H2 := [.box [.int .i64 x0.Fuel_, .int .i64 x0.Room_, lsv (encI .i32) 1 x0.Out_], .box [.int .i64 y10.1.Fuel_, .int .i64 y10.1.Room_, lsv (encI .i32) 1 y10.1.Out_], .box [.int .i64 s22.2.1, .int .i64 s22.2.2.1, lsv (encI .i32) 1 s22.2.2.2]]) (by kernel_rfl) ?_
                    refine RJ.caseB 86 (b := (decide (y10.2 = 0))) (by kernel_rfl) (fun hb83 => ?_) (fun hb83 => ?_)
                    · have h84 := condT hb83 h81
                      refine RJ.seg 6 [6] (L2 := [(6, .bool true)]) (H2 := [.box [.int .i64 x0.Fuel_, .int .i64 x0.Room_, lsv (encI .i32) 1 x0.Out_], .box [.int .i64 y10.1.Fuel_, .int .i64 y10.1.Room_, lsv (encI .i32) 1 y10.1.Out_], .box [.int .i64 s22.2.1, .int .i64 s22.2.2.1, lsv (encI .i32) 1 s22.2.2.2]]) (by kernel_rfl) ?_
                      refine RJ.end (by kernel_rfl) ?_
                      obtain rfl := Option.some.inj h84
                      refine PJ.wk (Wk.sel (L2 := [(6, .bool true)]) (H2 := []) 0 (by rw [hFH]; rfl) hFD [] (by kernel_rfl) (by kernel_rfl) (by decide) (by kernel_rfl) (by kernel_rfl) (by kernel_rfl) (by kernel_rfl)) ?_
                      exact PJ.cutN [6] (by kernel_rfl) (by kernel_rfl)
                    · have h85 := condF hb83 h81
                      refine RJ.seg 6 [6] (L2 := [(6, .bool (decide (y10.1.Fuel_ = 0)))]) (H2 := [.box [.int .i64 x0.Fuel_, .int .i64 x0.Room_, lsv (encI .i32) 1 x0.Out_], .box [.int .i64 y10.1.Fuel_, .int .i64 y10.1.Room_, lsv (encI .i32) 1 y10.1.Out_], .box [.int .i64 s22.2.1, .int .i64 s22.2.2.1, lsv (encI .i32) 1 s22.2.2.2]]) (by kernel_rfl) ?_
                      refine RJ.end (by kernel_rfl) ?_
                      obtain rfl := Option.some.inj h85
                      refine PJ.wk (Wk.sel (L2 := [(6, .bool (decide (y10.1.Fuel_ = 0)))]) (H2 := []) 0 (by rw [hFH]; rfl) hFD [] (by kernel_rfl) (by kernel_rfl) (by decide) (by kernel_rfl) (by kernel_rfl) (by kernel_rfl) (by kernel_rfl)) ?_
                      exact PJ.cutN [6] (by kernel_rfl) (by kernel_rfl)
                  · have h82 := condF hb80 h78
                    refine RJ.seg 9 [6] (L2 := [(6, .bool false)]) (H2 := [.box [.int .i64 x0.Fuel_, .int .i64 x0.Room_, lsv (encI .i32) 1 x0.Out_], .box [.int .i64 y10.1.Fuel_, .int .i64 y10.1.Room_, lsv (encI .i32) 1 y10.1.Out_], .box [.int .i64 s22.2.1, .int .i64 s22.2.2.1, lsv (encI .i32) 1 s22.2.2.2]]) (by kernel_rfl) ?_
                    refine RJ.end (by kernel_rfl) ?_
                    obtain rfl := Option.some.inj h82
                    refine PJ.wk (Wk.sel (L2 := [(6, .bool false)]) (H2 := []) 0 (by rw [hFH]; rfl) hFD [] (by kernel_rfl) (by kernel_rfl) (by decide) (by kernel_rfl) (by kernel_rfl) (by kernel_rfl) (by kernel_rfl)) ?_
                    exact PJ.cutN [6] (by kernel_rfl) (by kernel_rfl)
                · have h79 := condF hb77 h75
                  refine RJ.seg 22 [6] (L2 := [(6, .bool false)]) (H2 := [.box [.int .i64 x0.Fuel_, .int .i64 x0.Room_, lsv (encI .i32) 1 x0.Out_], .box [.int .i64 y10.1.Fuel_, .int .i64 y10.1.Room_, lsv (encI .i32) 1 y10.1.Out_], .box [.int .i64 s22.2.1, .int .i64 s22.2.2.1, lsv (encI .i32) 1 s22.2.2.2]]) (by kernel_rfl) ?_
                  refine RJ.end (by kernel_rfl) ?_
                  obtain rfl := Option.some.inj h79
                  refine PJ.wk (Wk.sel (L2 := [(6, .bool false)]) (H2 := []) 0 (by rw [hFH]; rfl) hFD [] (by kernel_rfl) (by kernel_rfl) (by decide) (by kernel_rfl) (by kernel_rfl) (by kernel_rfl) (by kernel_rfl)) ?_
                  exact PJ.cutN [6] (by kernel_rfl) (by kernel_rfl)
              · have h76 := condF hb74 h72
                refine RJ.seg 31 [6] (L2 := [(6, .bool false)]) (H2 := [.box [.int .i64 x0.Fuel_, .int .i64 x0.Room_, lsv (encI .i32) 1 x0.Out_], .box [.int .i64 y10.1.Fuel_, .int .i64 y10.1.Room_, lsv (encI .i32) 1 y10.1.Out_], .box [.int .i64 s22.2.1, .int .i64 s22.2.2.1, lsv (encI .i32) 1 s22.2.2.2]]) (by kernel_rfl) ?_
                refine RJ.end (by kernel_rfl) ?_
                obtain rfl := Option.some.inj h76
                refine PJ.wk (Wk.sel (L2 := [(6, .bool false)]) (H2 := []) 0 (by rw [hFH]; rfl) hFD [] (by kernel_rfl) (by kernel_rfl) (by decide) (by kernel_rfl) (by kernel_rfl) (by kernel_rfl) (by kernel_rfl)) ?_
                exact PJ.cutN [6] (by kernel_rfl) (by kernel_rfl)
            · have h73 := condF hb71 h70
              refine RJ.seg 38 [6] (L2 := [(6, .bool false)]) (H2 := [.box [.int .i64 x0.Fuel_, .int .i64 x0.Room_, lsv (encI .i32) 1 x0.Out_], .box [.int .i64 y10.1.Fuel_, .int .i64 y10.1.Room_, lsv (encI .i32) 1 y10.1.Out_], .box [.int .i64 s22.2.1, .int .i64 s22.2.2.1, lsv (encI .i32) 1 s22.2.2.2]]) (by kernel_rfl) ?_
              refine RJ.end (by kernel_rfl) ?_
              obtain rfl := Option.some.inj h73
              refine PJ.wk (Wk.sel (L2 := [(6, .bool false)]) (H2 := []) 0 (by rw [hFH]; rfl) hFD [] (by kernel_rfl) (by kernel_rfl) (by decide) (by kernel_rfl) (by kernel_rfl) (by kernel_rfl) (by kernel_rfl)) ?_
              exact PJ.cutN [6] (by kernel_rfl) (by kernel_rfl)
          · have h67 := condF hb65 h63
            refine RJ.seg 43 [6] (L2 := [(6, .bool false)]) (H2 := [.box [.int .i64 x0.Fuel_, .int .i64 x0.Room_, lsv (encI .i32) 1 x0.Out_], .box [.int .i64 y10.1.Fuel_, .int .i64 y10.1.Room_, lsv (encI .i32) 1 y10.1.Out_], .box [.int .i64 s22.2.1, .int .i64 s22.2.2.1, lsv (encI .i32) 1 s22.2.2.2]]) (by kernel_rfl) ?_
            refine RJ.end (by kernel_rfl) ?_
            obtain rfl := Option.some.inj h67
            refine PJ.wk (Wk.sel (L2 := [(6, .bool false)]) (H2 := []) 0 (by rw [hFH]; rfl) hFD [] (by kernel_rfl) (by kernel_rfl) (by decide) (by kernel_rfl) (by kernel_rfl) (by kernel_rfl) (by kernel_rfl)) ?_
            exact PJ.cutN [6] (by kernel_rfl) (by kernel_rfl)
        · have h64 := condF hb62 hy59
          refine RJ.seg 48 [6] (L2 := [(6, .bool false)]) (H2 := [.box [.int .i64 x0.Fuel_, .int .i64 x0.Room_, lsv (encI .i32) 1 x0.Out_], .box [.int .i64 y10.1.Fuel_, .int .i64 y10.1.Room_, lsv (encI .i32) 1 y10.1.Out_], .box [.int .i64 s22.2.1, .int .i64 s22.2.2.1, lsv (encI .i32) 1 s22.2.2.2]]) (by kernel_rfl) ?_
          refine RJ.end (by kernel_rfl) ?_
          obtain rfl := Option.some.inj h64
          refine PJ.wk (Wk.sel (L2 := [(6, .bool false)]) (H2 := []) 0 (by rw [hFH]; rfl) hFD [] (by kernel_rfl) (by kernel_rfl) (by decide) (by kernel_rfl) (by kernel_rfl) (by kernel_rfl) (by kernel_rfl)) ?_
          exact PJ.cutN [6] (by kernel_rfl) (by kernel_rfl)
      · refine K.ret (by kernel_rfl) ?_
        obtain rfl := Option.some.inj h61
        exact K.ret0 (.inr rfl) hFn hFH hFD (by kernel_rfl) (by kernel_rfl) (by kernel_rfl)

def exerguelaw04_TankNone (x0 : St23) (x1 : Int) (x2 : Int) : Option (Bool) :=
  (Option.bind exerguelaw04_shown fun y1 => (Option.bind (exergueref04_Right x0) fun y4 => (bif (!y4) then (some y1) else (Option.bind (tank_New x1 x2) fun y10 => (Option.bind (tank_Put x0 ([] : List Int)) fun y13 => (Option.bind (Option.bind (bif (decide (¬ y13.2 = 0)) then (some true) else (Option.bind (exergueref04_Same y13.1 x0) fun y56 => (some (!y56)))) fun (s48 : Bool) => (bif s48 then (some (.inr false)) else (some (.inl ())))) (joinX fun (s37 : Unit) => (Option.bind (Option.bind (bif (decide (x1 < 0)) then (some true) else (some (decide (x2 < 0)))) fun (s109 : Bool) => (bif s109 then (Option.bind (bif y1 then (bif (decide (y10.2 = 1)) then (Option.bind (exergueref04_Same y10.1 (⟨0, 0, ([] : List Int)⟩ : St23)) fun y140 => (some y140)) else (some false)) else (some false)) fun (s129 : Bool) => (some (.inr s129))) else (some (.inl ())))) (joinX fun (s101 : Unit) => (Option.bind (bif y1 then (bif (decide (y10.2 = 0)) then (bif (decide (y10.1.Fuel_ = x1)) then (bif (decide (y10.1.Room_ = x2)) then (some ((decide ((y10.1.Out_.length : Int) = 0)))) else (some false)) else (some false)) else (some false)) else (some false)) fun (s156 : Bool) => (some s156)))))))))))
theorem exerguelaw04_TankNone_ok {x0 : St23} {x1 : Int} {x2 : Int} {r : Bool} (h : exerguelaw04_TankNone x0 x1 x2 = some r) : SC Try.prog 6 [.agg [.int .i64 x0.Fuel_, .int .i64 x0.Room_, lsv (encI .i32) 1 x0.Out_], .int .i64 x1, .int .i64 x2] [] (.bool r) [] := by
  refine K.fn (fn := Try.f6) (by kernel_rfl) (by kernel_rfl) (by kernel_rfl) (by kernel_rfl) (by kernel_rfl) (fun F hFn hFH hFD => ?_)
  unfold exerguelaw04_TankNone at h
  refine K.seq (by kernel_rfl) ?_
  refine K.region (by kernel_rfl) ?_
  refine RJ.seg 2 [1, 2, 3, 6] (L2 := [(1, .int .i64 x1), (2, .int .i64 x2), (3, .ptr 0 0), (6, .bool false)]) (H2 := [.box [.int .i64 x0.Fuel_, .int .i64 x0.Room_, lsv (encI .i32) 1 x0.Out_]]) (by kernel_rfl) ?_
  refine RJ.end (by kernel_rfl) ?_
  refine PJ.next ?_
  refine K.seq (by kernel_rfl) ?_
  refine K.region (by kernel_rfl) ?_
  obtain ⟨y1, hy2, h3⟩ := bindS h
  refine RJ.call0 (d := (some 12)) (f := 8) (args := []) (v := .bool y1) (tr2 := []) (by kernel_rfl) (by kernel_rfl) .nil (exerguelaw04_shown_ok hy2) (by kernel_rfl) ?_
  refine RJ.seg 1 [1, 2, 3, 6, 7] (L2 := [(1, .int .i64 x1), (2, .int .i64 x2), (3, .ptr 0 0), (6, .bool false), (7, .bool y1)]) (H2 := [.box [.int .i64 x0.Fuel_, .int .i64 x0.Room_, lsv (encI .i32) 1 x0.Out_]]) (by kernel_rfl) ?_
  refine RJ.end (by kernel_rfl) ?_
  refine PJ.next ?_
  refine K.seq (by kernel_rfl) ?_
  refine K.seq (by kernel_rfl) ?_
  refine K.region (by kernel_rfl) ?_
  refine RJ.seg 1 [1, 2, 3, 6, 7, 13] (L2 := [(1, .int .i64 x1), (2, .int .i64 x2), (3, .ptr 0 0), (6, .bool false), (7, .bool y1), (13, .agg [.int .i64 x0.Fuel_, .int .i64 x0.Room_, lsv (encI .i32) 1 x0.Out_])]) (H2 := [.box [.int .i64 x0.Fuel_, .int .i64 x0.Room_, lsv (encI .i32) 1 x0.Out_]]) (by kernel_rfl) ?_
  obtain ⟨y4, hy5, h6⟩ := bindS h3
  refine RJ.call0 (d := (some 14)) (f := 9) (args := [.agg [.int .i64 x0.Fuel_, .int .i64 x0.Room_, lsv (encI .i32) 1 x0.Out_]]) (v := .bool y4) (tr2 := []) (by kernel_rfl) (by kernel_rfl) (.cons (Le.refl _) .nil) (exergueref04_Right_ok hy5) (by kernel_rfl) ?_
  refine RJ.seg 1 [1, 2, 3, 6, 7, 15] (L2 := [(1, .int .i64 x1), (2, .int .i64 x2), (3, .ptr 0 0), (6, .bool false), (7, .bool y1), (15, .bool (!y4))]) (H2 := [.box [.int .i64 x0.Fuel_, .int .i64 x0.Room_, lsv (encI .i32) 1 x0.Out_]]) (by kernel_rfl) ?_
  refine RJ.end (by kernel_rfl) ?_
  refine PJ.next ?_
  refine J.caseB 15 (b := (!y4)) (by kernel_rfl) (fun hb7 => ?_) (fun hb7 => ?_)
  · have h8 := condT hb7 h6
    refine K.condT (by kernel_rfl) ?_
    refine K.seq (by kernel_rfl) ?_
    refine K.region (by kernel_rfl) ?_
    refine RJ.seg 2 [1, 2, 3, 6, 7] (L2 := [(1, .int .i64 x1), (2, .int .i64 x2), (3, .ptr 0 0), (6, .bool y1), (7, .bool y1)]) (H2 := [.box [.int .i64 x0.Fuel_, .int .i64 x0.Room_, lsv (encI .i32) 1 x0.Out_]]) (by kernel_rfl) ?_
    refine RJ.end (by kernel_rfl) ?_
    refine PJ.next ?_
    refine K.ret (by kernel_rfl) ?_
    refine PJ.passRet ?_
    obtain rfl := Option.some.inj h8
    exact K.ret0 (.inr rfl) hFn hFH hFD (by kernel_rfl) (by kernel_rfl) (by kernel_rfl)
  · have h9 := condF hb7 h6
    refine K.condF (by kernel_rfl) ?_
    refine K.skip (by kernel_rfl) ?_
    refine PJ.next ?_
    refine K.seq (by kernel_rfl) ?_
    refine K.region (by kernel_rfl) ?_
    refine RJ.seg 2 [1, 2, 3, 6, 7, 18, 19] (L2 := [(1, .int .i64 x1), (2, .int .i64 x2), (3, .ptr 0 0), (6, .bool false), (7, .bool y1), (18, .int .i64 x1), (19, .int .i64 x2)]) (H2 := [.box [.int .i64 x0.Fuel_, .int .i64 x0.Room_, lsv (encI .i32) 1 x0.Out_]]) (by kernel_rfl) ?_
    obtain ⟨y10, hy11, h12⟩ := bindS h9
    refine RJ.call0 (d := (some 20)) (f := 14) (args := [.int .i64 x1, .int .i64 x2]) (v := .tup [.agg [.int .i64 y10.1.Fuel_, .int .i64 y10.1.Room_, lsv (encI .i32) 1 y10.1.Out_], .int .i64 y10.2]) (tr2 := []) (by kernel_rfl) (by kernel_rfl) (.cons (Le.refl _) (.cons (Le.refl _) .nil)) (tank_New_ok hy11) (by kernel_rfl) ?_
    refine RJ.seg 6 [1, 2, 3, 6, 7, 8, 9] (L2 := [(1, .int .i64 x1), (2, .int .i64 x2), (3, .ptr 0 0), (6, .bool false), (7, .bool y1), (8, .ptr 1 0), (9, .int .i64 y10.2)]) (H2 := [.box [.int .i64 x0.Fuel_, .int .i64 x0.Room_, lsv (encI .i32) 1 x0.Out_], .box [.int .i64 y10.1.Fuel_, .int .i64 y10.1.Room_, lsv (encI .i32) 1 y10.1.Out_]]) (by kernel_rfl) ?_
    refine RJ.end (by kernel_rfl) ?_
    refine PJ.next ?_
    refine K.seq (by kernel_rfl) ?_
    refine K.region (by kernel_rfl) ?_
    refine RJ.seg 1 [1, 2, 3, 6, 7, 8, 9, 24] (L2 := [(1, .int .i64 x1), (2, .int .i64 x2), (3, .ptr 0 0), (6, .bool false), (7, .bool y1), (8, .ptr 1 0), (9, .int .i64 y10.2), (24, .agg [.int .i64 x0.Fuel_, .int .i64 x0.Room_, lsv (encI .i32) 1 x0.Out_])]) (H2 := [.box [.int .i64 x0.Fuel_, .int .i64 x0.Room_, lsv (encI .i32) 1 x0.Out_], .box [.int .i64 y10.1.Fuel_, .int .i64 y10.1.Room_, lsv (encI .i32) 1 y10.1.Out_]]) (by kernel_rfl) ?_
    obtain ⟨y13, hy14, h15⟩ := bindS h12
    refine RJ.call0 (d := (some 25)) (f := 10) (args := [.agg [.int .i64 x0.Fuel_, .int .i64 x0.Room_, lsv (encI .i32) 1 x0.Out_], .nl]) (v := .tup [.agg [.int .i64 y13.1.Fuel_, .int .i64 y13.1.Room_, lsv (encI .i32) 1 y13.1.Out_], .int .i64 y13.2]) (tr2 := []) (by kernel_rfl) (by kernel_rfl) (.cons (Le.refl _) (.cons (Le.nl _) .nil)) (tank_Put_ok hy14) (by kernel_rfl) ?_
    refine RJ.seg 6 [1, 2, 3, 6, 7, 8, 9, 10, 11] (L2 := [(1, .int .i64 x1), (2, .int .i64 x2), (3, .ptr 0 0), (6, .bool false), (7, .bool y1), (8, .ptr 1 0), (9, .int .i64 y10.2), (10, .ptr 2 0), (11, .int .i64 y13.2)]) (H2 := [.box [.int .i64 x0.Fuel_, .int .i64 x0.Room_, lsv (encI .i32) 1 x0.Out_], .box [.int .i64 y10.1.Fuel_, .int .i64 y10.1.Room_, lsv (encI .i32) 1 y10.1.Out_], .box [.int .i64 y13.1.Fuel_, .int .i64 y13.1.Room_, lsv (encI .i32) 1 y13.1.Out_]]) (by kernel_rfl) ?_
    refine RJ.end (by kernel_rfl) ?_
    refine PJ.next ?_
    obtain ⟨y38, hy39, h40⟩ := bindS h15
    refine K.cutX (by kernel_rfl) (fun (s37 : Unit) => ([(1, .int .i64 x1), (2, .int .i64 x2), (6, .bool false), (7, .bool y1), (8, .ptr 0 0), (9, .int .i64 y10.2)], [.box [.int .i64 y10.1.Fuel_, .int .i64 y10.1.Room_, lsv (encI .i32) 1 y10.1.Out_]])) y38 ?_ (fun s37 hs => ?_)
    · obtain ⟨s48, hy50, h52⟩ := bindS hy39
      refine K.cutN (by kernel_rfl) (fun (s48 : Bool) => ([(1, .int .i64 x1), (2, .int .i64 x2), (6, .bool false), (7, .bool y1), (8, .ptr 0 0), (9, .int .i64 y10.2), (35, .bool s48)], [.box [.int .i64 y10.1.Fuel_, .int .i64 y10.1.Room_, lsv (encI .i32) 1 y10.1.Out_]])) s48 ?_ ?_
      · refine K.region (by kernel_rfl) ?_
        refine RJ.seg 3 [1, 2, 3, 6, 7, 8, 9, 10, 30] (L2 := [(1, .int .i64 x1), (2, .int .i64 x2), (3, .ptr 0 0), (6, .bool false), (7, .bool y1), (8, .ptr 1 0), (9, .int .i64 y10.2), (10, .ptr 2 0), (30, .bool (decide (¬ y13.2 = 0)))]) (H2 := [.box [.int .i64 x0.Fuel_, .int .i64 x0.Room_, lsv (encI .i32) 1 x0.Out_], .box [.int .i64 y10.1.Fuel_, .int .i64 y10.1.Room_, lsv (encI .i32) 1 y10.1.Out_], .box [.int .i64 y13.1.Fuel_, .int .i64 y13.1.Room_, lsv (encI .i32) 1 y13.1.Out_]]) (by kernel_rfl) ?_
        refine RJ.caseB 30 (b := (decide (¬ y13.2 = 0))) (by kernel_rfl) (fun hb53 => ?_) (fun hb53 => ?_)
        · have h54 := condT hb53 hy50
          refine RJ.seg 5 [1, 2, 6, 7, 8, 9, 35] (L2 := [(1, .int .i64 x1), (2, .int .i64 x2), (6, .bool false), (7, .bool y1), (8, .ptr 1 0), (9, .int .i64 y10.2), (35, .bool true)]) (H2 := [.box [.int .i64 x0.Fuel_, .int .i64 x0.Room_, lsv (encI .i32) 1 x0.Out_], .box [.int .i64 y10.1.Fuel_, .int .i64 y10.1.Room_, lsv (encI .i32) 1 y10.1.Out_], .box [.int .i64 y13.1.Fuel_, .int .i64 y13.1.Room_, lsv (encI .i32) 1 y13.1.Out_]]) (by kernel_rfl) ?_
          refine RJ.end (by kernel_rfl) ?_
          obtain rfl := Option.some.inj h54
          refine PJ.wk (Wk.sel (L2 := [(1, .int .i64 x1), (2, .int .i64 x2), (6, .bool false), (7, .bool y1), (8, .ptr 0 0), (9, .int .i64 y10.2), (35, .bool true)]) (H2 := [.box [.int .i64 y10.1.Fuel_, .int .i64 y10.1.Room_, lsv (encI .i32) 1 y10.1.Out_]]) 0 (by rw [hFH]; rfl) hFD [1] (by kernel_rfl) (by kernel_rfl) (by decide) (by kernel_rfl) (by kernel_rfl) (by kernel_rfl) (by kernel_rfl)) ?_
          exact PJ.cutN [1, 2, 6, 7, 8, 9, 35] (by kernel_rfl) (by kernel_rfl)
        · have h55 := condF hb53 hy50
          refine RJ.seg 2 [1, 2, 6, 7, 8, 9, 30, 31, 32] (L2 := [(1, .int .i64 x1), (2, .int .i64 x2), (6, .bool false), (7, .bool y1), (8, .ptr 1 0), (9, .int .i64 y10.2), (30, .bool false), (31, .agg [.int .i64 y13.1.Fuel_, .int .i64 y13.1.Room_, lsv (encI .i32) 1 y13.1.Out_]), (32, .agg [.int .i64 x0.Fuel_, .int .i64 x0.Room_, lsv (encI .i32) 1 x0.Out_])]) (H2 := [.box [.int .i64 x0.Fuel_, .int .i64 x0.Room_, lsv (encI .i32) 1 x0.Out_], .box [.int .i64 y10.1.Fuel_, .int .i64 y10.1.Room_, lsv (encI .i32) 1 y10.1.Out_], .box [.int .i64 y13.1.Fuel_, .int .i64 y13.1.Room_, lsv (encI .i32) 1 y13.1.Out_]]) (by kernel_rfl) ?_
          obtain ⟨y56, hy57, h58⟩ := bindS h55
          refine RJ.call0 (d := (some 33)) (f := 11) (args := [.agg [.int .i64 y13.1.Fuel_, .int .i64 y13.1.Room_, lsv (encI .i32) 1 y13.1.Out_], .agg [.int .i64 x0.Fuel_, .int .i64 x0.Room_, lsv (encI .i32) 1 x0.Out_]]) (v := .bool y56) (tr2 := []) (by kernel_rfl) (by kernel_rfl) (.cons (Le.refl _) (.cons (Le.refl _) .nil)) (exergueref04_Same_ok hy57) (by kernel_rfl) ?_
          refine RJ.seg 2 [1, 2, 6, 7, 8, 9, 35] (L2 := [(1, .int .i64 x1), (2, .int .i64 x2), (6, .bool false), (7, .bool y1), (8, .ptr 1 0), (9, .int .i64 y10.2), (35, .bool (!y56))]) (H2 := [.box [.int .i64 x0.Fuel_, .int .i64 x0.Room_, lsv (encI .i32) 1 x0.Out_], .box [.int .i64 y10.1.Fuel_, .int .i64 y10.1.Room_, lsv (encI .i32) 1 y10.1.Out_], .box [.int .i64 y13.1.Fuel_, .int .i64 y13.1.Room_, lsv (encI .i32) 1 y13.1.Out_]]) (by kernel_rfl) ?_
          refine RJ.end (by kernel_rfl) ?_
          obtain rfl := Option.some.inj h58
          refine PJ.wk (Wk.sel (L2 := [(1, .int .i64 x1), (2, .int .i64 x2), (6, .bool false), (7, .bool y1), (8, .ptr 0 0), (9, .int .i64 y10.2), (35, .bool (!y56))]) (H2 := [.box [.int .i64 y10.1.Fuel_, .int .i64 y10.1.Room_, lsv (encI .i32) 1 y10.1.Out_]]) 0 (by rw [hFH]; rfl) hFD [1] (by kernel_rfl) (by kernel_rfl) (by decide) (by kernel_rfl) (by kernel_rfl) (by kernel_rfl) (by kernel_rfl)) ?_
          exact PJ.cutN [1, 2, 6, 7, 8, 9, 35] (by kernel_rfl) (by kernel_rfl)
      · refine J.caseB 35 (b := s48) (by kernel_rfl) (fun hb59 => ?_) (fun hb59 => ?_)
        · have h60 := condT hb59 h52
          refine K.condT (by kernel_rfl) ?_
          refine K.seq (by kernel_rfl) ?_
          refine K.region (by kernel_rfl) ?_
          refine RJ.seg 1 [1, 2, 6, 7, 8, 9] (L2 := [(1, .int .i64 x1), (2, .int .i64 x2), (6, .bool false), (7, .bool y1), (8, .ptr 0 0), (9, .int .i64 y10.2)]) (H2 := [.box [.int .i64 y10.1.Fuel_, .int .i64 y10.1.Room_, lsv (encI .i32) 1 y10.1.Out_]]) (by kernel_rfl) ?_
          refine RJ.end (by kernel_rfl) ?_
          refine PJ.next ?_
          refine K.ret (by kernel_rfl) ?_
          obtain rfl := Option.some.inj h60
          have h62 := joinX_inr h40
          refine PJ.cutXr (fun e => nomatch e) ?_
          obtain rfl := Option.some.inj h62
          exact K.ret0 (.inr rfl) hFn hFH hFD (by kernel_rfl) (by kernel_rfl) (by kernel_rfl)
        · have h61 := condF hb59 h52
          refine K.condF (by kernel_rfl) ?_
          refine K.skip (by kernel_rfl) ?_
          obtain rfl := Option.some.inj h61
          exact PJ.cutXl [1, 2, 6, 7, 8, 9] (by kernel_rfl) (by kernel_rfl)
    · subst hs
      have h41 := joinX_inl h40
      obtain ⟨y102, hy103, h104⟩ := bindS h41
      refine K.cutX (by kernel_rfl) (fun (s101 : Unit) => ([(1, .int .i64 x1), (2, .int .i64 x2), (6, .bool false), (7, .bool y1), (8, .ptr 0 0), (9, .int .i64 y10.2)], [.box [.int .i64 y10.1.Fuel_, .int .i64 y10.1.Room_, lsv (encI .i32) 1 y10.1.Out_]])) y102 ?_ (fun s101 hs => ?_)
      · obtain ⟨s109, hy111, h113⟩ := bindS hy103
        refine K.cutN (by kernel_rfl) (fun (s109 : Bool) => ([(1, .int .i64 x1), (2, .int .i64 x2), (6, .bool false), (7, .bool y1), (8, .ptr 0 0), (9, .int .i64 y10.2), (41, .bool s109)], [.box [.int .i64 y10.1.Fuel_, .int .i64 y10.1.Room_, lsv (encI .i32) 1 y10.1.Out_]])) s109 ?_ ?_
        · refine K.region (by kernel_rfl) ?_
          refine RJ.seg 3 [1, 2, 6, 7, 8, 9, 38] (L2 := [(1, .int .i64 x1), (2, .int .i64 x2), (6, .bool false), (7, .bool y1), (8, .ptr 0 0), (9, .int .i64 y10.2), (38, .bool (decide (x1 < 0)))]) (H2 := [.box [.int .i64 y10.1.Fuel_, .int .i64 y10.1.Room_, lsv (encI .i32) 1 y10.1.Out_]]) (by kernel_rfl) ?_
          refine RJ.caseB 38 (b := (decide (x1 < 0))) (by kernel_rfl) (fun hb114 => ?_) (fun hb114 => ?_)
          · have h115 := condT hb114 hy111
            refine RJ.seg 3 [1, 2, 6, 7, 8, 9, 41] (L2 := [(1, .int .i64 x1), (2, .int .i64 x2), (6, .bool false), (7, .bool y1), (8, .ptr 0 0), (9, .int .i64 y10.2), (41, .bool true)]) (H2 := [.box [.int .i64 y10.1.Fuel_, .int .i64 y10.1.Room_, lsv (encI .i32) 1 y10.1.Out_]]) (by kernel_rfl) ?_
            refine RJ.end (by kernel_rfl) ?_
            obtain rfl := Option.some.inj h115
            exact PJ.cutN [1, 2, 6, 7, 8, 9, 41] (by kernel_rfl) (by kernel_rfl)
          · have h116 := condF hb114 hy111
            refine RJ.seg 3 [1, 2, 6, 7, 8, 9, 41] (L2 := [(1, .int .i64 x1), (2, .int .i64 x2), (6, .bool false), (7, .bool y1), (8, .ptr 0 0), (9, .int .i64 y10.2), (41, .bool (decide (x2 < 0)))]) (H2 := [.box [.int .i64 y10.1.Fuel_, .int .i64 y10.1.Room_, lsv (encI .i32) 1 y10.1.Out_]]) (by kernel_rfl) ?_
            refine RJ.end (by kernel_rfl) ?_
            obtain rfl := Option.some.inj h116
            exact PJ.cutN [1, 2, 6, 7, 8, 9, 41] (by kernel_rfl) (by kernel_rfl)
        · refine J.caseB 41 (b := s109) (by kernel_rfl) (fun hb117 => ?_) (fun hb117 => ?_)
          · have h118 := condT hb117 h113
            refine K.condT (by kernel_rfl) ?_
            obtain ⟨s129, hy131, h133⟩ := bindS h118
            refine K.cutN (by kernel_rfl) (fun (s129 : Bool) => ([(1, .int .i64 x1), (2, .int .i64 x2), (6, .bool s129), (7, .bool y1), (8, .ptr 0 0), (9, .int .i64 y10.2)], [.box [.int .i64 y10.1.Fuel_, .int .i64 y10.1.Room_, lsv (encI .i32) 1 y10.1.Out_]])) s129 ?_ ?_
            · refine K.region (by kernel_rfl) ?_
              refine RJ.seg 2 [1, 2, 6, 7, 8, 9, 43] (L2 := [(1, .int .i64 x1), (2, .int .i64 x2), (6, .bool false), (7, .bool y1), (8, .ptr 0 0), (9, .int .i64 y10.2), (43, .bool y1)]) (H2 := [.box [.int .i64 y10.1.Fuel_, .int .i64 y10.1.Room_, lsv (encI .i32) 1 y10.1.Out_]]) (by kernel_rfl) ?_
              refine RJ.caseB 43 (b := y1) (by kernel_rfl) (fun hb134 => ?_) (fun hb134 => ?_)
              · have h135 := condT hb134 hy131
                refine RJ.seg 4 [1, 2, 6, 7, 8, 9, 47] (L2 := [(1, .int .i64 x1), (2, .int .i64 x2), (6, .bool false), (7, .bool y1), (8, .ptr 0 0), (9, .int .i64 y10.2), (47, .bool (decide (y10.2 = 1)))]) (H2 := [.box [.int .i64 y10.1.Fuel_, .int .i64 y10.1.Room_, lsv (encI .i32) 1 y10.1.Out_]]) (by kernel_rfl) ?_
                refine RJ.caseB 47 (b := (decide (y10.2 = 1))) (by kernel_rfl) (fun hb137 => ?_) (fun hb137 => ?_)
                · have h138 := condT hb137 h135
                  refine RJ.seg 2 [1, 2, 6, 7, 8, 9, 47, 48, 49] (L2 := [(1, .int .i64 x1), (2, .int .i64 x2), (6, .bool false), (7, .bool y1), (8, .ptr 0 0), (9, .int .i64 y10.2), (47, .bool true), (48, .agg [.int .i64 y10.1.Fuel_, .int .i64 y10.1.Room_, lsv (encI .i32) 1 y10.1.Out_]), (49, .agg [.int .i64 0, .int .i64 0, .nl])]) (H2 := [.box [.int .i64 y10.1.Fuel_, .int .i64 y10.1.Room_, lsv (encI .i32) 1 y10.1.Out_]]) (by kernel_rfl) ?_
                  obtain ⟨y140, hy141, h142⟩ := bindS h138
                  refine RJ.call0 (d := (some 50)) (f := 11) (args := [.agg [.int .i64 y10.1.Fuel_, .int .i64 y10.1.Room_, lsv (encI .i32) 1 y10.1.Out_], .agg [.int .i64 0, .int .i64 0, .nl]]) (v := .bool y140) (tr2 := []) (by kernel_rfl) (by kernel_rfl) (.cons (Le.refl _) (.cons (Le.agg (.cons (Le.refl _) (.cons (Le.refl _) (.cons (Le.nl _) .nil)))) .nil)) (exergueref04_Same_ok hy141) (by kernel_rfl) ?_
                  refine RJ.seg 2 [1, 2, 6, 7, 8, 9] (L2 := [(1, .int .i64 x1), (2, .int .i64 x2), (6, .bool y140), (7, .bool y1), (8, .ptr 0 0), (9, .int .i64 y10.2)]) (H2 := [.box [.int .i64 y10.1.Fuel_, .int .i64 y10.1.Room_, lsv (encI .i32) 1 y10.1.Out_]]) (by kernel_rfl) ?_
                  refine RJ.end (by kernel_rfl) ?_
                  obtain rfl := Option.some.inj h142
                  exact PJ.cutN [1, 2, 6, 7, 8, 9] (by kernel_rfl) (by kernel_rfl)
                · have h139 := condF hb137 h135
                  refine RJ.seg 5 [1, 2, 6, 7, 8, 9] (L2 := [(1, .int .i64 x1), (2, .int .i64 x2), (6, .bool false), (7, .bool y1), (8, .ptr 0 0), (9, .int .i64 y10.2)]) (H2 := [.box [.int .i64 y10.1.Fuel_, .int .i64 y10.1.Room_, lsv (encI .i32) 1 y10.1.Out_]]) (by kernel_rfl) ?_
                  refine RJ.end (by kernel_rfl) ?_
                  obtain rfl := Option.some.inj h139
                  exact PJ.cutN [1, 2, 6, 7, 8, 9] (by kernel_rfl) (by kernel_rfl)
              · have h136 := condF hb134 hy131
                refine RJ.seg 9 [1, 2, 6, 7, 8, 9] (L2 := [(1, .int .i64 x1), (2, .int .i64 x2), (6, .bool false), (7, .bool y1), (8, .ptr 0 0), (9, .int .i64 y10.2)]) (H2 := [.box [.int .i64 y10.1.Fuel_, .int .i64 y10.1.Room_, lsv (encI .i32) 1 y10.1.Out_]]) (by kernel_rfl) ?_
                refine RJ.end (by kernel_rfl) ?_
                obtain rfl := Option.some.inj h136
                exact PJ.cutN [1, 2, 6, 7, 8, 9] (by kernel_rfl) (by kernel_rfl)
            · refine K.ret (by kernel_rfl) ?_
              obtain rfl := Option.some.inj h133
              have h143 := joinX_inr h104
              refine PJ.cutXr (fun e => nomatch e) ?_
              obtain rfl := Option.some.inj h143
              exact K.ret0 (.inr rfl) hFn hFH hFD (by kernel_rfl) (by kernel_rfl) (by kernel_rfl)
          · have h119 := condF hb117 h113
            refine K.condF (by kernel_rfl) ?_
            refine K.skip (by kernel_rfl) ?_
            obtain rfl := Option.some.inj h119
            exact PJ.cutXl [1, 2, 6, 7, 8, 9] (by kernel_rfl) (by kernel_rfl)
      · subst hs
        have h105 := joinX_inl h104
        obtain ⟨s156, hy158, h160⟩ := bindS h105
        refine K.cutN (by kernel_rfl) (fun (s156 : Bool) => ([(6, .bool s156)], [])) s156 ?_ ?_
        · refine K.region (by kernel_rfl) ?_
          refine RJ.seg 2 [1, 2, 6, 8, 9, 53] (L2 := [(1, .int .i64 x1), (2, .int .i64 x2), (6, .bool false), (8, .ptr 0 0), (9, .int .i64 y10.2), (53, .bool y1)]) (H2 := [.box [.int .i64 y10.1.Fuel_, .int .i64 y10.1.Room_, lsv (encI .i32) 1 y10.1.Out_]]) (by kernel_rfl) ?_
          refine RJ.caseB 53 (b := y1) (by kernel_rfl) (fun hb161 => ?_) (fun hb161 => ?_)
          · have h162 := condT hb161 hy158
            refine RJ.seg 4 [1, 2, 6, 8, 57] (L2 := [(1, .int .i64 x1), (2, .int .i64 x2), (6, .bool false), (8, .ptr 0 0), (57, .bool (decide (y10.2 = 0)))]) (H2 := [.box [.int .i64 y10.1.Fuel_, .int .i64 y10.1.Room_, lsv (encI .i32) 1 y10.1.Out_]]) (by kernel_rfl) ?_
            refine RJ.caseB 57 (b := (decide (y10.2 = 0))) (by kernel_rfl) (fun hb164 => ?_) (fun hb164 => ?_)
            · have h165 := condT hb164 h162
              refine RJ.seg 6 [2, 6, 8, 63] (L2 := [(2, .int .i64 x2), (6, .bool false), (8, .ptr 0 0), (63, .bool (decide (y10.1.Fuel_ = x1)))]) (H2 := [.box [.int .i64 y10.1.Fuel_, .int .i64 y10.1.Room_, lsv (encI .i32) 1 y10.1.Out_]]) (by kernel_rfl) ?_
              refine RJ.caseB 63 (b := (decide (y10.1.Fuel_ = x1))) (by kernel_rfl) (fun hb167 => ?_) (fun hb167 => ?_)
              · have h168 := condT hb167 h165
                refine RJ.seg 6 [6, 8, 69] (L2 := [(6, .bool false), (8, .ptr 0 0), (69, .bool (decide (y10.1.Room_ = x2)))]) (H2 := [.box [.int .i64 y10.1.Fuel_, .int .i64 y10.1.Room_, lsv (encI .i32) 1 y10.1.Out_]]) (by kernel_rfl) ?_
                refine RJ.caseB 69 (b := (decide (y10.1.Room_ = x2))) (by kernel_rfl) (fun hb170 => ?_) (fun hb170 => ?_)
                · have h171 := condT hb170 h168
                  refine RJ.seg 6 [6] (L2 := [(6, .bool ((decide ((y10.1.Out_.length : Int) = 0))))]) (H2 := [.box [.int .i64 y10.1.Fuel_, .int .i64 y10.1.Room_, lsv (encI .i32) 1 y10.1.Out_]]) (by kernel_rfl) ?_
                  refine RJ.end (by kernel_rfl) ?_
                  obtain rfl := Option.some.inj h171
                  refine PJ.wk (Wk.sel (L2 := [(6, .bool ((decide ((y10.1.Out_.length : Int) = 0))))]) (H2 := []) 0 (by rw [hFH]; rfl) hFD [] (by kernel_rfl) (by kernel_rfl) (by decide) (by kernel_rfl) (by kernel_rfl) (by kernel_rfl) (by kernel_rfl)) ?_
                  exact PJ.cutN [6] (by kernel_rfl) (by kernel_rfl)
                · have h172 := condF hb170 h168
                  refine RJ.seg 6 [6] (L2 := [(6, .bool false)]) (H2 := [.box [.int .i64 y10.1.Fuel_, .int .i64 y10.1.Room_, lsv (encI .i32) 1 y10.1.Out_]]) (by kernel_rfl) ?_
                  refine RJ.end (by kernel_rfl) ?_
                  obtain rfl := Option.some.inj h172
                  refine PJ.wk (Wk.sel (L2 := [(6, .bool false)]) (H2 := []) 0 (by rw [hFH]; rfl) hFD [] (by kernel_rfl) (by kernel_rfl) (by decide) (by kernel_rfl) (by kernel_rfl) (by kernel_rfl) (by kernel_rfl)) ?_
                  exact PJ.cutN [6] (by kernel_rfl) (by kernel_rfl)
              · have h169 := condF hb167 h165
                refine RJ.seg 12 [6] (L2 := [(6, .bool false)]) (H2 := [.box [.int .i64 y10.1.Fuel_, .int .i64 y10.1.Room_, lsv (encI .i32) 1 y10.1.Out_]]) (by kernel_rfl) ?_
                refine RJ.end (by kernel_rfl) ?_
                obtain rfl := Option.some.inj h169
                refine PJ.wk (Wk.sel (L2 := [(6, .bool false)]) (H2 := []) 0 (by rw [hFH]; rfl) hFD [] (by kernel_rfl) (by kernel_rfl) (by decide) (by kernel_rfl) (by kernel_rfl) (by kernel_rfl) (by kernel_rfl)) ?_
                exact PJ.cutN [6] (by kernel_rfl) (by kernel_rfl)
            · have h166 := condF hb164 h162
              refine RJ.seg 18 [6] (L2 := [(6, .bool false)]) (H2 := [.box [.int .i64 y10.1.Fuel_, .int .i64 y10.1.Room_, lsv (encI .i32) 1 y10.1.Out_]]) (by kernel_rfl) ?_
              refine RJ.end (by kernel_rfl) ?_
              obtain rfl := Option.some.inj h166
              refine PJ.wk (Wk.sel (L2 := [(6, .bool false)]) (H2 := []) 0 (by rw [hFH]; rfl) hFD [] (by kernel_rfl) (by kernel_rfl) (by decide) (by kernel_rfl) (by kernel_rfl) (by kernel_rfl) (by kernel_rfl)) ?_
              exact PJ.cutN [6] (by kernel_rfl) (by kernel_rfl)
          · have h163 := condF hb161 hy158
            refine RJ.seg 22 [6] (L2 := [(6, .bool false)]) (H2 := [.box [.int .i64 y10.1.Fuel_, .int .i64 y10.1.Room_, lsv (encI .i32) 1 y10.1.Out_]]) (by kernel_rfl) ?_
            refine RJ.end (by kernel_rfl) ?_
            obtain rfl := Option.some.inj h163
            refine PJ.wk (Wk.sel (L2 := [(6, .bool false)]) (H2 := []) 0 (by rw [hFH]; rfl) hFD [] (by kernel_rfl) (by kernel_rfl) (by decide) (by kernel_rfl) (by kernel_rfl) (by kernel_rfl) (by kernel_rfl)) ?_
            exact PJ.cutN [6] (by kernel_rfl) (by kernel_rfl)
        · refine K.ret (by kernel_rfl) ?_
          obtain rfl := Option.some.inj h160
          exact K.ret0 (.inr rfl) hFn hFH hFD (by kernel_rfl) (by kernel_rfl) (by kernel_rfl)

def exerguelaw04_TankFull (x0 : St23) (x1 : List Int) : Option (Bool) :=
  (Option.bind exerguelaw04_shown fun y1 => (Option.bind (Option.bind (Option.bind (exergueref04_Right x0) fun y59 => (bif (!y59) then (some true) else (bif (decide ((x1.length : Int) > 1000)) then (some true) else (bif (decide (x0.Fuel_ > 1000000)) then (some true) else (some (decide (x0.Room_ > 1000000))))))) fun (s54 : Bool) => (bif s54 then (some (.inr y1)) else (some (.inl ())))) (joinX fun (s37 : Unit) => (Option.bind (tank_Put x0 x1) fun y75 => (Option.bind (tank_Put ((⟨(IntKind.wrap .i64 (x0.Fuel_ + 1)), (IntKind.wrap .i64 (x0.Room_ + 1)), x0.Out_⟩ : St23)) x1) fun y78 => (bif (decide (¬ y75.2 = 0)) then (Option.bind (bif y1 then (some ((decide ((y78.1.Out_.length : Int) ≥ (y75.1.Out_.length : Int))))) else (some false)) fun (s87 : Bool) => (some s87)) else (Option.bind (bif y1 then (bif (decide (y78.2 = 0)) then (Option.bind (exergueref04_Same y75.1 ((⟨(IntKind.wrap .i64 (y78.1.Fuel_ - 1)), (IntKind.wrap .i64 (y78.1.Room_ - 1)), y78.1.Out_⟩ : St23))) fun y115 => (some y115)) else (some false)) else (some false)) fun (s104 : Bool) => (some s104))))))))
theorem exerguelaw04_TankFull_ok {x0 : St23} {x1 : List Int} {r : Bool} (h : exerguelaw04_TankFull x0 x1 = some r) : SC Try.prog 7 [.agg [.int .i64 x0.Fuel_, .int .i64 x0.Room_, lsv (encI .i32) 1 x0.Out_], lsv (encI .i32) 1 x1] [] (.bool r) [] := by
  refine K.fn (fn := Try.f7) (by kernel_rfl) (by kernel_rfl) (by kernel_rfl) (by kernel_rfl) (by kernel_rfl) (fun F hFn hFH hFD => ?_)
  unfold exerguelaw04_TankFull at h
  refine K.seq (by kernel_rfl) ?_
  refine K.region (by kernel_rfl) ?_
  refine RJ.seg 2 [1, 2, 4] (L2 := [(1, lsv (encI .i32) 1 x1), (2, .ptr 0 0), (4, .bool false)]) (H2 := [.box [.int .i64 x0.Fuel_, .int .i64 x0.Room_, lsv (encI .i32) 1 x0.Out_]]) (by kernel_rfl) ?_
  refine RJ.end (by kernel_rfl) ?_
  refine PJ.next ?_
  refine K.seq (by kernel_rfl) ?_
  refine K.region (by kernel_rfl) ?_
  obtain ⟨y1, hy2, h3⟩ := bindS h
  refine RJ.call0 (d := (some 11)) (f := 8) (args := []) (v := .bool y1) (tr2 := []) (by kernel_rfl) (by kernel_rfl) .nil (exerguelaw04_shown_ok hy2) (by kernel_rfl) ?_
  refine RJ.seg 1 [1, 2, 4, 5] (L2 := [(1, lsv (encI .i32) 1 x1), (2, .ptr 0 0), (4, .bool false), (5, .bool y1)]) (H2 := [.box [.int .i64 x0.Fuel_, .int .i64 x0.Room_, lsv (encI .i32) 1 x0.Out_]]) (by kernel_rfl) ?_
  refine RJ.end (by kernel_rfl) ?_
  refine PJ.next ?_
  obtain ⟨y38, hy39, h40⟩ := bindS h3
  refine K.cutX (by kernel_rfl) (fun (s37 : Unit) => ([(1, lsv (encI .i32) 1 x1), (2, .ptr 0 0), (4, .bool false), (5, .bool y1)], [.box [.int .i64 x0.Fuel_, .int .i64 x0.Room_, lsv (encI .i32) 1 x0.Out_]])) y38 ?_ (fun s37 hs => ?_)
  · obtain ⟨s54, hy56, h58⟩ := bindS hy39
    refine K.cutN (by kernel_rfl) (fun (s54 : Bool) => ([(1, lsv (encI .i32) 1 x1), (2, .ptr 0 0), (4, .bool false), (5, .bool y1), (29, .bool s54)], [.box [.int .i64 x0.Fuel_, .int .i64 x0.Room_, lsv (encI .i32) 1 x0.Out_]])) s54 ?_ ?_
    · refine K.region (by kernel_rfl) ?_
      refine RJ.seg 1 [1, 2, 4, 5, 12] (L2 := [(1, lsv (encI .i32) 1 x1), (2, .ptr 0 0), (4, .bool false), (5, .bool y1), (12, .agg [.int .i64 x0.Fuel_, .int .i64 x0.Room_, lsv (encI .i32) 1 x0.Out_])]) (H2 := [.box [.int .i64 x0.Fuel_, .int .i64 x0.Room_, lsv (encI .i32) 1 x0.Out_]]) (by kernel_rfl) ?_
      obtain ⟨y59, hy60, h61⟩ := bindS hy56
      refine RJ.call0 (d := (some 13)) (f := 9) (args := [.agg [.int .i64 x0.Fuel_, .int .i64 x0.Room_, lsv (encI .i32) 1 x0.Out_]]) (v := .bool y59) (tr2 := []) (by kernel_rfl) (by kernel_rfl) (.cons (Le.refl _) .nil) (exergueref04_Right_ok hy60) (by kernel_rfl) ?_
      refine RJ.seg 2 [1, 2, 4, 5, 15] (L2 := [(1, lsv (encI .i32) 1 x1), (2, .ptr 0 0), (4, .bool false), (5, .bool y1), (15, .bool (!y59))]) (H2 := [.box [.int .i64 x0.Fuel_, .int .i64 x0.Room_, lsv (encI .i32) 1 x0.Out_]]) (by kernel_rfl) ?_
      refine RJ.caseB 15 (b := (!y59)) (by kernel_rfl) (fun hb62 => ?_) (fun hb62 => ?_)
      · have h63 := condT hb62 h61
        refine RJ.seg 14 [1, 2, 4, 5, 29] (L2 := [(1, lsv (encI .i32) 1 x1), (2, .ptr 0 0), (4, .bool false), (5, .bool y1), (29, .bool true)]) (H2 := [.box [.int .i64 x0.Fuel_, .int .i64 x0.Room_, lsv (encI .i32) 1 x0.Out_]]) (by kernel_rfl) ?_
        refine RJ.end (by kernel_rfl) ?_
        obtain rfl := Option.some.inj h63
        exact PJ.cutN [1, 2, 4, 5, 29] (by kernel_rfl) (by kernel_rfl)
      · have h64 := condF hb62 h61
        refine RJ.seg 5 [1, 2, 4, 5, 20] (L2 := [(1, lsv (encI .i32) 1 x1), (2, .ptr 0 0), (4, .bool false), (5, .bool y1), (20, .bool ((decide ((x1.length : Int) > 1000))))]) (H2 := [.box [.int .i64 x0.Fuel_, .int .i64 x0.Room_, lsv (encI .i32) 1 x0.Out_]]) (by kernel_rfl) ?_
        refine RJ.caseB 20 (b := (decide ((x1.length : Int) > 1000))) (by kernel_rfl) (fun hb65 => ?_) (fun hb65 => ?_)
        · have h66 := condT hb65 h64
          refine RJ.seg 9 [1, 2, 4, 5, 29] (L2 := [(1, lsv (encI .i32) 1 x1), (2, .ptr 0 0), (4, .bool false), (5, .bool y1), (29, .bool true)]) (H2 := [.box [.int .i64 x0.Fuel_, .int .i64 x0.Room_, lsv (encI .i32) 1 x0.Out_]]) (by kernel_rfl) ?_
          refine RJ.end (by kernel_rfl) ?_
          obtain rfl := Option.some.inj h66
          exact PJ.cutN [1, 2, 4, 5, 29] (by kernel_rfl) (by kernel_rfl)
        · have h67 := condF hb65 h64
          refine RJ.seg 5 [1, 2, 4, 5, 25] (L2 := [(1, lsv (encI .i32) 1 x1), (2, .ptr 0 0), (4, .bool false), (5, .bool y1), (25, .bool (decide (x0.Fuel_ > 1000000)))]) (H2 := [.box [.int .i64 x0.Fuel_, .int .i64 x0.Room_, lsv (encI .i32) 1 x0.Out_]]) (by kernel_rfl) ?_
          refine RJ.caseB 25 (b := (decide (x0.Fuel_ > 1000000))) (by kernel_rfl) (fun hb68 => ?_) (fun hb68 => ?_)
          · have h69 := condT hb68 h67
            refine RJ.seg 4 [1, 2, 4, 5, 29] (L2 := [(1, lsv (encI .i32) 1 x1), (2, .ptr 0 0), (4, .bool false), (5, .bool y1), (29, .bool true)]) (H2 := [.box [.int .i64 x0.Fuel_, .int .i64 x0.Room_, lsv (encI .i32) 1 x0.Out_]]) (by kernel_rfl) ?_
            refine RJ.end (by kernel_rfl) ?_
            obtain rfl := Option.some.inj h69
            exact PJ.cutN [1, 2, 4, 5, 29] (by kernel_rfl) (by kernel_rfl)
          · have h70 := condF hb68 h67
            refine RJ.seg 4 [1, 2, 4, 5, 29] (L2 := [(1, lsv (encI .i32) 1 x1), (2, .ptr 0 0), (4, .bool false), (5, .bool y1), (29, .bool (decide (x0.Room_ > 1000000)))]) (H2 := [.box [.int .i64 x0.Fuel_, .int .i64 x0.Room_, lsv (encI .i32) 1 x0.Out_]]) (by kernel_rfl) ?_
            refine RJ.end (by kernel_rfl) ?_
            obtain rfl := Option.some.inj h70
            exact PJ.cutN [1, 2, 4, 5, 29] (by kernel_rfl) (by kernel_rfl)
    · refine J.caseB 29 (b := s54) (by kernel_rfl) (fun hb71 => ?_) (fun hb71 => ?_)
      · have h72 := condT hb71 h58
        refine K.condT (by kernel_rfl) ?_
        refine K.seq (by kernel_rfl) ?_
        refine K.region (by kernel_rfl) ?_
        refine RJ.seg 2 [1, 2, 4, 5] (L2 := [(1, lsv (encI .i32) 1 x1), (2, .ptr 0 0), (4, .bool y1), (5, .bool y1)]) (H2 := [.box [.int .i64 x0.Fuel_, .int .i64 x0.Room_, lsv (encI .i32) 1 x0.Out_]]) (by kernel_rfl) ?_
        refine RJ.end (by kernel_rfl) ?_
        refine PJ.next ?_
        refine K.ret (by kernel_rfl) ?_
        obtain rfl := Option.some.inj h72
        have h74 := joinX_inr h40
        refine PJ.cutXr (fun e => nomatch e) ?_
        obtain rfl := Option.some.inj h74
        exact K.ret0 (.inr rfl) hFn hFH hFD (by kernel_rfl) (by kernel_rfl) (by kernel_rfl)
      · have h73 := condF hb71 h58
        refine K.condF (by kernel_rfl) ?_
        refine K.skip (by kernel_rfl) ?_
        obtain rfl := Option.some.inj h73
        exact PJ.cutXl [1, 2, 4, 5] (by kernel_rfl) (by kernel_rfl)
  · subst hs
    have h41 := joinX_inl h40
    refine K.seq (by kernel_rfl) ?_
    refine K.region (by kernel_rfl) ?_
    refine RJ.seg 2 [1, 2, 4, 5, 32, 33] (L2 := [(1, lsv (encI .i32) 1 x1), (2, .ptr 0 0), (4, .bool false), (5, .bool y1), (32, .agg [.int .i64 x0.Fuel_, .int .i64 x0.Room_, lsv (encI .i32) 1 x0.Out_]), (33, lsv (encI .i32) 1 x1)]) (H2 := [.box [.int .i64 x0.Fuel_, .int .i64 x0.Room_, lsv (encI .i32) 1 x0.Out_]]) (by kernel_rfl) ?_
    obtain ⟨y75, hy76, h77⟩ := bindS h41
    refine RJ.call0 (d := (some 34)) (f := 10) (args := [.agg [.int .i64 x0.Fuel_, .int .i64 x0.Room_, lsv (encI .i32) 1 x0.Out_], lsv (encI .i32) 1 x1]) (v := .tup [.agg [.int .i64 y75.1.Fuel_, .int .i64 y75.1.Room_, lsv (encI .i32) 1 y75.1.Out_], .int .i64 y75.2]) (tr2 := []) (by kernel_rfl) (by kernel_rfl) (.cons (Le.refl _) (.cons (Le.refl _) .nil)) (tank_Put_ok hy76) (by kernel_rfl) ?_
    refine RJ.seg 6 [1, 2, 4, 5, 6, 7] (L2 := [(1, lsv (encI .i32) 1 x1), (2, .ptr 0 0), (4, .bool false), (5, .bool y1), (6, .ptr 1 0), (7, .int .i64 y75.2)]) (H2 := [.box [.int .i64 x0.Fuel_, .int .i64 x0.Room_, lsv (encI .i32) 1 x0.Out_], .box [.int .i64 y75.1.Fuel_, .int .i64 y75.1.Room_, lsv (encI .i32) 1 y75.1.Out_]]) (by kernel_rfl) ?_
    refine RJ.end (by kernel_rfl) ?_
    refine PJ.next ?_
    refine K.seq (by kernel_rfl) ?_
    refine K.region (by kernel_rfl) ?_
    refine RJ.seg 3 [1, 4, 5, 6, 7, 8] (L2 := [(1, lsv (encI .i32) 1 x1), (4, .bool false), (5, .bool y1), (6, .ptr 1 0), (7, .int .i64 y75.2), (8, .ptr 2 0)]) (H2 := [.box [.int .i64 x0.Fuel_, .int .i64 x0.Room_, lsv (encI .i32) 1 x0.Out_], .box [.int .i64 y75.1.Fuel_, .int .i64 y75.1.Room_, lsv (encI .i32) 1 y75.1.Out_], .box [.int .i64 x0.Fuel_, .int .i64 x0.Room_, lsv (encI .i32) 1 x0.Out_]]) (by kernel_rfl) ?_
    refine RJ.end (by kernel_rfl) ?_
    refine PJ.next ?_
    refine K.seq (by kernel_rfl) ?_
    refine K.region (by kernel_rfl) ?_
    refine RJ.seg 5 [1, 4, 5, 6, 7, 8] (L2 := [(1, lsv (encI .i32) 1 x1), (4, .bool false), (5, .bool y1), (6, .ptr 1 0), (7, .int .i64 y75.2), (8, .ptr 2 0)]) (H2 := [.box [.int .i64 x0.Fuel_, .int .i64 x0.Room_, lsv (encI .i32) 1 x0.Out_], .box [.int .i64 y75.1.Fuel_, .int .i64 y75.1.Room_, lsv (encI .i32) 1 y75.1.Out_], .box [.int .i64 (IntKind.wrap .i64 (x0.Fuel_ + 1)), .int .i64 x0.Room_, lsv (encI .i32) 1 x0.Out_]]) (by kernel_rfl) ?_
    refine RJ.end (by kernel_rfl) ?_
    refine PJ.next ?_
    refine K.seq (by kernel_rfl) ?_
    refine K.region (by kernel_rfl) ?_
    refine RJ.seg 5 [1, 4, 5, 6, 7, 8] (L2 := [(1, lsv (encI .i32) 1 x1), (4, .bool false), (5, .bool y1), (6, .ptr 1 0), (7, .int .i64 y75.2), (8, .ptr 2 0)]) (H2 := [.box [.int .i64 x0.Fuel_, .int .i64 x0.Room_, lsv (encI .i32) 1 x0.Out_], .box [.int .i64 y75.1.Fuel_, .int .i64 y75.1.Room_, lsv (encI .i32) 1 y75.1.Out_], .box [.int .i64 (IntKind.wrap .i64 (x0.Fuel_ + 1)), .int .i64 (IntKind.wrap .i64 (x0.Room_ + 1)), lsv (encI .i32) 1 x0.Out_]]) (by kernel_rfl) ?_
    refine RJ.end (by kernel_rfl) ?_
    refine PJ.next ?_
    refine K.seq (by kernel_rfl) ?_
    refine K.region (by kernel_rfl) ?_
    refine RJ.seg 2 [4, 5, 6, 7, 47, 48] (L2 := [(4, .bool false), (5, .bool y1), (6, .ptr 1 0), (7, .int .i64 y75.2), (47, .agg [.int .i64 (IntKind.wrap .i64 (x0.Fuel_ + 1)), .int .i64 (IntKind.wrap .i64 (x0.Room_ + 1)), lsv (encI .i32) 1 x0.Out_]), (48, lsv (encI .i32) 1 x1)]) (H2 := [.box [.int .i64 x0.Fuel_, .int .i64 x0.Room_, lsv (encI .i32) 1 x0.Out_], .box [.int .i64 y75.1.Fuel_, .int .i64 y75.1.Room_, lsv (encI .i32) 1 y75.1.Out_], .box [.int .i64 (IntKind.wrap .i64 (x0.Fuel_ + 1)), .int .i64 (IntKind.wrap .i64 (x0.Room_ + 1)), lsv (encI .i32) 1 x0.Out_]]) (by kernel_rfl) ?_
    obtain ⟨y78, hy79, h80⟩ := bindS h77
    refine RJ.call0 (d := (some 49)) (f := 10) (args := [.agg [.int .i64 (IntKind.wrap .i64 (x0.Fuel_ + 1)), .int .i64 (IntKind.wrap .i64 (x0.Room_ + 1)), lsv (encI .i32) 1 x0.Out_], lsv (encI .i32) 1 x1]) (v := .tup [.agg [.int .i64 y78.1.Fuel_, .int .i64 y78.1.Room_, lsv (encI .i32) 1 y78.1.Out_], .int .i64 y78.2]) (tr2 := []) (by kernel_rfl) (by kernel_rfl) (.cons (Le.refl _) (.cons (Le.refl _) .nil)) (tank_Put_ok hy79) (by kernel_rfl) ?_
    refine RJ.seg 6 [4, 5, 6, 7, 9, 10] (L2 := [(4, .bool false), (5, .bool y1), (6, .ptr 1 0), (7, .int .i64 y75.2), (9, .ptr 3 0), (10, .int .i64 y78.2)]) (H2 := [.box [.int .i64 x0.Fuel_, .int .i64 x0.Room_, lsv (encI .i32) 1 x0.Out_], .box [.int .i64 y75.1.Fuel_, .int .i64 y75.1.Room_, lsv (encI .i32) 1 y75.1.Out_], .box [.int .i64 (IntKind.wrap .i64 (x0.Fuel_ + 1)), .int .i64 (IntKind.wrap .i64 (x0.Room_ + 1)), lsv (encI .i32) 1 x0.Out_], .box [.int .i64 y78.1.Fuel_, .int .i64 y78.1.Room_, lsv (encI .i32) 1 y78.1.Out_]]) (by kernel_rfl) ?_
    refine RJ.end (by kernel_rfl) ?_
    refine PJ.next ?_
    refine K.seq (by kernel_rfl) ?_
    refine K.seq (by kernel_rfl) ?_
    refine K.region (by kernel_rfl) ?_
    refine RJ.seg 2 [4, 5, 6, 9, 10, 53] (L2 := [(4, .bool false), (5, .bool y1), (6, .ptr 1 0), (9, .ptr 3 0), (10, .int .i64 y78.2), (53, .bool (decide (¬ y75.2 = 0)))]) (H2 := [.box [.int .i64 x0.Fuel_, .int .i64 x0.Room_, lsv (encI .i32) 1 x0.Out_], .box [.int .i64 y75.1.Fuel_, .int .i64 y75.1.Room_, lsv (encI .i32) 1 y75.1.Out_], .box [.int .i64 (IntKind.wrap .i64 (x0.Fuel_ + 1)), .int .i64 (IntKind.wrap .i64 (x0.Room_ + 1)), lsv (encI .i32) 1 x0.Out_], .box [.int .i64 y78.1.Fuel_, .int .i64 y78.1.Room_, lsv (encI .i32) 1 y78.1.Out_]]) (by kernel_rfl) ?_
    refine RJ.end (by kernel_rfl) ?_
    refine PJ.next ?_
    refine J.caseB 53 (b := (decide (¬ y75.2 = 0))) (by kernel_rfl) (fun hb81 => ?_) (fun hb81 => ?_)
    · have h82 := condT hb81 h80
      refine K.condT (by kernel_rfl) ?_
      obtain ⟨s87, hy89, h91⟩ := bindS h82
      refine K.cutN (by kernel_rfl) (fun (s87 : Bool) => ([(4, .bool s87), (5, .bool y1), (6, .ptr 0 0), (9, .ptr 1 0), (10, .int .i64 y78.2)], [.box [.int .i64 y75.1.Fuel_, .int .i64 y75.1.Room_, lsv (encI .i32) 1 y75.1.Out_], .box [.int .i64 y78.1.Fuel_, .int .i64 y78.1.Room_, lsv (encI .i32) 1 y78.1.Out_]])) s87 ?_ ?_
      · refine K.region (by kernel_rfl) ?_
        refine RJ.seg 2 [4, 5, 6, 9, 10, 55] (L2 := [(4, .bool false), (5, .bool y1), (6, .ptr 1 0), (9, .ptr 3 0), (10, .int .i64 y78.2), (55, .bool y1)]) (H2 := [.box [.int .i64 x0.Fuel_, .int .i64 x0.Room_, lsv (encI .i32) 1 x0.Out_], .box [.int .i64 y75.1.Fuel_, .int .i64 y75.1.Room_, lsv (encI .i32) 1 y75.1.Out_], .box [.int .i64 (IntKind.wrap .i64 (x0.Fuel_ + 1)), .int .i64 (IntKind.wrap .i64 (x0.Room_ + 1)), lsv (encI .i32) 1 x0.Out_], .box [.int .i64 y78.1.Fuel_, .int .i64 y78.1.Room_, lsv (encI .i32) 1 y78.1.Out_]]) (by kernel_rfl) ?_
        refine RJ.caseB 55 (b := y1) (by kernel_rfl) (fun hb92 => ?_) (fun hb92 => ?_)
        · have h93 := condT hb92 hy89
          refine RJ.seg 9 [4, 5, 6, 9, 10] (L2 := [(4, .bool ((decide ((y78.1.Out_.length : Int) ≥ (y75.1.Out_.length : Int))))), (5, .bool y1), (6, .ptr 1 0), (9, .ptr 3 0), (10, .int .i64 y78.2)]) (H2 := [.box [.int .i64 x0.Fuel_, .int .i64 x0.Room_, lsv (encI .i32) 1 x0.Out_], .box [.int .i64 y75.1.Fuel_, .int .i64 y75.1.Room_, lsv (encI .i32) 1 y75.1.Out_], .box [.int .i64 (IntKind.wrap .i64 (x0.Fuel_ + 1)), .int .i64 (IntKind.wrap .i64 (x0.Room_ + 1)), lsv (encI .i32) 1 x0.Out_], .box [.int .i64 y78.1.Fuel_, .int .i64 y78.1.Room_, lsv (encI .i32) 1 y78.1.Out_]]) (by kernel_rfl) ?_
          refine RJ.end (by kernel_rfl) ?_
          obtain rfl := Option.some.inj h93
          refine PJ.wk (Wk.sel (L2 := [(4, .bool ((decide ((y78.1.Out_.length : Int) ≥ (y75.1.Out_.length : Int))))), (5, .bool y1), (6, .ptr 0 0), (9, .ptr 1 0), (10, .int .i64 y78.2)]) (H2 := [.box [.int .i64 y75.1.Fuel_, .int .i64 y75.1.Room_, lsv (encI .i32) 1 y75.1.Out_], .box [.int .i64 y78.1.Fuel_, .int .i64 y78.1.Room_, lsv (encI .i32) 1 y78.1.Out_]]) 0 (by rw [hFH]; rfl) hFD [1, 3] (by kernel_rfl) (by kernel_rfl) (by decide) (by kernel_rfl) (by kernel_rfl) (by kernel_rfl) (by kernel_rfl)) ?_
          exact PJ.cutN [4, 5, 6, 9, 10] (by kernel_rfl) (by kernel_rfl)
        · have h94 := condF hb92 hy89
          refine RJ.seg 9 [4, 5, 6, 9, 10] (L2 := [(4, .bool false), (5, .bool y1), (6, .ptr 1 0), (9, .ptr 3 0), (10, .int .i64 y78.2)]) (H2 := [.box [.int .i64 x0.Fuel_, .int .i64 x0.Room_, lsv (encI .i32) 1 x0.Out_], .box [.int .i64 y75.1.Fuel_, .int .i64 y75.1.Room_, lsv (encI .i32) 1 y75.1.Out_], .box [.int .i64 (IntKind.wrap .i64 (x0.Fuel_ + 1)), .int .i64 (IntKind.wrap .i64 (x0.Room_ + 1)), lsv (encI .i32) 1 x0.Out_], .box [.int .i64 y78.1.Fuel_, .int .i64 y78.1.Room_, lsv (encI .i32) 1 y78.1.Out_]]) (by kernel_rfl) ?_
          refine RJ.end (by kernel_rfl) ?_
          obtain rfl := Option.some.inj h94
          refine PJ.wk (Wk.sel (L2 := [(4, .bool false), (5, .bool y1), (6, .ptr 0 0), (9, .ptr 1 0), (10, .int .i64 y78.2)]) (H2 := [.box [.int .i64 y75.1.Fuel_, .int .i64 y75.1.Room_, lsv (encI .i32) 1 y75.1.Out_], .box [.int .i64 y78.1.Fuel_, .int .i64 y78.1.Room_, lsv (encI .i32) 1 y78.1.Out_]]) 0 (by rw [hFH]; rfl) hFD [1, 3] (by kernel_rfl) (by kernel_rfl) (by decide) (by kernel_rfl) (by kernel_rfl) (by kernel_rfl) (by kernel_rfl)) ?_
          exact PJ.cutN [4, 5, 6, 9, 10] (by kernel_rfl) (by kernel_rfl)
      · refine K.ret (by kernel_rfl) ?_
        refine PJ.passRet ?_
        obtain rfl := Option.some.inj h91
        exact K.ret0 (.inr rfl) hFn hFH hFD (by kernel_rfl) (by kernel_rfl) (by kernel_rfl)
    · have h83 := condF hb81 h80
      refine K.condF (by kernel_rfl) ?_
      refine K.skip (by kernel_rfl) ?_
      refine PJ.next ?_
      refine K.seq (by kernel_rfl) ?_
      refine K.region (by kernel_rfl) ?_
      refine RJ.seg 5 [4, 5, 6, 9, 10] (L2 := [(4, .bool false), (5, .bool y1), (6, .ptr 1 0), (9, .ptr 3 0), (10, .int .i64 y78.2)]) (H2 := [.box [.int .i64 x0.Fuel_, .int .i64 x0.Room_, lsv (encI .i32) 1 x0.Out_], .box [.int .i64 y75.1.Fuel_, .int .i64 y75.1.Room_, lsv (encI .i32) 1 y75.1.Out_], .box [.int .i64 (IntKind.wrap .i64 (x0.Fuel_ + 1)), .int .i64 (IntKind.wrap .i64 (x0.Room_ + 1)), lsv (encI .i32) 1 x0.Out_], .box [.int .i64 (IntKind.wrap .i64 (y78.1.Fuel_ - 1)), .int .i64 y78.1.Room_, lsv (encI .i32) 1 y78.1.Out_]]) (by kernel_rfl) ?_
      refine RJ.end (by kernel_rfl) ?_
      refine PJ.next ?_
      refine K.seq (by kernel_rfl) ?_
      refine K.region (by kernel_rfl) ?_
      refine RJ.seg 5 [4, 5, 6, 9, 10] (L2 := [(4, .bool false), (5, .bool y1), (6, .ptr 1 0), (9, .ptr 3 0), (10, .int .i64 y78.2)]) (H2 := [.box [.int .i64 x0.Fuel_, .int .i64 x0.Room_, lsv (encI .i32) 1 x0.Out_], .box [.int .i64 y75.1.Fuel_, .int .i64 y75.1.Room_, lsv (encI .i32) 1 y75.1.Out_], .box [.int .i64 (IntKind.wrap .i64 (x0.Fuel_ + 1)), .int .i64 (IntKind.wrap .i64 (x0.Room_ + 1)), lsv (encI .i32) 1 x0.Out_], .box [.int .i64 (IntKind.wrap .i64 (y78.1.Fuel_ - 1)), .int .i64 (IntKind.wrap .i64 (y78.1.Room_ - 1)), lsv (encI .i32) 1 y78.1.Out_]]) (by kernel_rfl) ?_
      refine RJ.end (by kernel_rfl) ?_
      refine PJ.next ?_
      obtain ⟨s104, hy106, h108⟩ := bindS h83
      refine K.cutN (by kernel_rfl) (fun (s104 : Bool) => ([(4, .bool s104)], [])) s104 ?_ ?_
      · refine K.region (by kernel_rfl) ?_
        refine RJ.seg 2 [4, 6, 9, 10, 73] (L2 := [(4, .bool false), (6, .ptr 1 0), (9, .ptr 3 0), (10, .int .i64 y78.2), (73, .bool y1)]) (H2 := [.box [.int .i64 x0.Fuel_, .int .i64 x0.Room_, lsv (encI .i32) 1 x0.Out_], .box [.int .i64 y75.1.Fuel_, .int .i64 y75.1.Room_, lsv (encI .i32) 1 y75.1.Out_], .box [.int .i64 (IntKind.wrap .i64 (x0.Fuel_ + 1)), .int .i64 (IntKind.wrap .i64 (x0.Room_ + 1)), lsv (encI .i32) 1 x0.Out_], .box [.int .i64 (IntKind.wrap .i64 (y78.1.Fuel_ - 1)), .int .i64 (IntKind.wrap .i64 (y78.1.Room_ - 1)), lsv (encI .i32) 1 y78.1.Out_]]) (by kernel_rfl) ?_
        refine RJ.caseB 73 (b := y1) (by kernel_rfl) (fun hb109 => ?_) (fun hb109 => ?_)
        · have h110 := condT hb109 hy106
          refine RJ.seg 4 [4, 6, 9, 77] (L2 := [(4, .bool false), (6, .ptr 1 0), (9, .ptr 3 0), (77, .bool (decide (y78.2 = 0)))]) (H2 := [.box [.int .i64 x0.Fuel_, .int .i64 x0.Room_, lsv (encI .i32) 1 x0.Out_], .box [.int .i64 y75.1.Fuel_, .int .i64 y75.1.Room_, lsv (encI .i32) 1 y75.1.Out_], .box [.int .i64 (IntKind.wrap .i64 (x0.Fuel_ + 1)), .int .i64 (IntKind.wrap .i64 (x0.Room_ + 1)), lsv (encI .i32) 1 x0.Out_], .box [.int .i64 (IntKind.wrap .i64 (y78.1.Fuel_ - 1)), .int .i64 (IntKind.wrap .i64 (y78.1.Room_ - 1)), lsv (encI .i32) 1 y78.1.Out_]]) (by kernel_rfl) ?_
          refine RJ.caseB 77 (b := (decide (y78.2 = 0))) (by kernel_rfl) (fun hb112 => ?_) (fun hb112 => ?_)
          · have h113 := condT hb112 h110
            refine RJ.seg 2 [4, 77, 78, 79] (L2 := [(4, .bool false), (77, .bool true), (78, .agg [.int .i64 y75.1.Fuel_, .int .i64 y75.1.Room_, lsv (encI .i32) 1 y75.1.Out_]), (79, .agg [.int .i64 (IntKind.wrap .i64 (y78.1.Fuel_ - 1)), .int .i64 (IntKind.wrap .i64 (y78.1.Room_ - 1)), lsv (encI .i32) 1 y78.1.Out_])]) (H2 := [.box [.int .i64 x0.Fuel_, .int .i64 x0.Room_, lsv (encI .i32) 1 x0.Out_], .box [.int .i64 y75.1.Fuel_, .int .i64 y75.1.Room_, lsv (encI .i32) 1 y75.1.Out_], .box [.int .i64 (IntKind.wrap .i64 (x0.Fuel_ + 1)), .int .i64 (IntKind.wrap .i64 (x0.Room_ + 1)), lsv (encI .i32) 1 x0.Out_], .box [.int .i64 (IntKind.wrap .i64 (y78.1.Fuel_ - 1)), .int .i64 (IntKind.wrap .i64 (y78.1.Room_ - 1)), lsv (encI .i32) 1 y78.1.Out_]]) (by kernel_rfl) ?_
            obtain ⟨y115, hy116, h117⟩ := bindS h113
            refine RJ.call0 (d := (some 80)) (f := 11) (args := [.agg [.int .i64 y75.1.Fuel_, .int .i64 y75.1.Room_, lsv (encI .i32) 1 y75.1.Out_], .agg [.int .i64 (IntKind.wrap .i64 (y78.1.Fuel_ - 1)), .int .i64 (IntKind.wrap .i64 (y78.1.Room_ - 1)), lsv (encI .i32) 1 y78.1.Out_]]) (v := .bool y115) (tr2 := []) (by kernel_rfl) (by kernel_rfl) (.cons (Le.refl _) (.cons (Le.refl _) .nil)) (exergueref04_Same_ok hy116) (by kernel_rfl) ?_
            refine RJ.seg 2 [4] (L2 := [(4, .bool y115)]) (H2 := [.box [.int .i64 x0.Fuel_, .int .i64 x0.Room_, lsv (encI .i32) 1 x0.Out_], .box [.int .i64 y75.1.Fuel_, .int .i64 y75.1.Room_, lsv (encI .i32) 1 y75.1.Out_], .box [.int .i64 (IntKind.wrap .i64 (x0.Fuel_ + 1)), .int .i64 (IntKind.wrap .i64 (x0.Room_ + 1)), lsv (encI .i32) 1 x0.Out_], .box [.int .i64 (IntKind.wrap .i64 (y78.1.Fuel_ - 1)), .int .i64 (IntKind.wrap .i64 (y78.1.Room_ - 1)), lsv (encI .i32) 1 y78.1.Out_]]) (by kernel_rfl) ?_
            refine RJ.end (by kernel_rfl) ?_
            obtain rfl := Option.some.inj h117
            refine PJ.wk (Wk.sel (L2 := [(4, .bool y115)]) (H2 := []) 0 (by rw [hFH]; rfl) hFD [] (by kernel_rfl) (by kernel_rfl) (by decide) (by kernel_rfl) (by kernel_rfl) (by kernel_rfl) (by kernel_rfl)) ?_
            exact PJ.cutN [4] (by kernel_rfl) (by kernel_rfl)
          · have h114 := condF hb112 h110
            refine RJ.seg 5 [4] (L2 := [(4, .bool false)]) (H2 := [.box [.int .i64 x0.Fuel_, .int .i64 x0.Room_, lsv (encI .i32) 1 x0.Out_], .box [.int .i64 y75.1.Fuel_, .int .i64 y75.1.Room_, lsv (encI .i32) 1 y75.1.Out_], .box [.int .i64 (IntKind.wrap .i64 (x0.Fuel_ + 1)), .int .i64 (IntKind.wrap .i64 (x0.Room_ + 1)), lsv (encI .i32) 1 x0.Out_], .box [.int .i64 (IntKind.wrap .i64 (y78.1.Fuel_ - 1)), .int .i64 (IntKind.wrap .i64 (y78.1.Room_ - 1)), lsv (encI .i32) 1 y78.1.Out_]]) (by kernel_rfl) ?_
            refine RJ.end (by kernel_rfl) ?_
            obtain rfl := Option.some.inj h114
            refine PJ.wk (Wk.sel (L2 := [(4, .bool false)]) (H2 := []) 0 (by rw [hFH]; rfl) hFD [] (by kernel_rfl) (by kernel_rfl) (by decide) (by kernel_rfl) (by kernel_rfl) (by kernel_rfl) (by kernel_rfl)) ?_
            exact PJ.cutN [4] (by kernel_rfl) (by kernel_rfl)
        · have h111 := condF hb109 hy106
          refine RJ.seg 9 [4] (L2 := [(4, .bool false)]) (H2 := [.box [.int .i64 x0.Fuel_, .int .i64 x0.Room_, lsv (encI .i32) 1 x0.Out_], .box [.int .i64 y75.1.Fuel_, .int .i64 y75.1.Room_, lsv (encI .i32) 1 y75.1.Out_], .box [.int .i64 (IntKind.wrap .i64 (x0.Fuel_ + 1)), .int .i64 (IntKind.wrap .i64 (x0.Room_ + 1)), lsv (encI .i32) 1 x0.Out_], .box [.int .i64 (IntKind.wrap .i64 (y78.1.Fuel_ - 1)), .int .i64 (IntKind.wrap .i64 (y78.1.Room_ - 1)), lsv (encI .i32) 1 y78.1.Out_]]) (by kernel_rfl) ?_
          refine RJ.end (by kernel_rfl) ?_
          obtain rfl := Option.some.inj h111
          refine PJ.wk (Wk.sel (L2 := [(4, .bool false)]) (H2 := []) 0 (by rw [hFH]; rfl) hFD [] (by kernel_rfl) (by kernel_rfl) (by decide) (by kernel_rfl) (by kernel_rfl) (by kernel_rfl) (by kernel_rfl)) ?_
          exact PJ.cutN [4] (by kernel_rfl) (by kernel_rfl)
      · refine K.ret (by kernel_rfl) ?_
        obtain rfl := Option.some.inj h108
        exact K.ret0 (.inr rfl) hFn hFH hFD (by kernel_rfl) (by kernel_rfl) (by kernel_rfl)

theorem tank_own_ok {x0 : St23} {x1 : Int} {r : St23} (h : tank_own x0 x1 = some r) : SC Try.prog 16 [.agg [.int .i64 x0.Fuel_, .int .i64 x0.Room_, lsv (encI .i32) 1 x0.Out_], .int .i64 x1] [] (.agg [.int .i64 r.Fuel_, .int .i64 r.Room_, lsv (encI .i32) 1 r.Out_]) [] := by
  refine K.fn (fn := Try.f16) (by kernel_rfl) (by kernel_rfl) (by kernel_rfl) (by kernel_rfl) (by kernel_rfl) (fun F hFn hFH hFD => ?_)
  unfold tank_own at h
  refine K.seq (by kernel_rfl) ?_
  refine K.region (by kernel_rfl) ?_
  refine RJ.seg 2 [1, 2, 4] (L2 := [(1, .int .i64 x1), (2, .ptr 0 0), (4, .ptr 1 0)]) (H2 := [.box [.int .i64 x0.Fuel_, .int .i64 x0.Room_, lsv (encI .i32) 1 x0.Out_], .box [.int .i64 0, .int .i64 0, .nl]]) (by kernel_rfl) ?_
  refine RJ.end (by kernel_rfl) ?_
  refine PJ.next ?_
  refine K.seq (by kernel_rfl) ?_
  refine K.region (by kernel_rfl) ?_
  refine RJ.seg 8 [2, 4, 8, 13] (L2 := [(2, .ptr 0 0), (4, .ptr 1 0), (8, .int .i64 (x0.Out_.length : Int)), (13, .int .i64 ((IntKind.wrap .i64 ((x0.Out_.length : Int) + x1))))]) (H2 := [.box [.int .i64 x0.Fuel_, .int .i64 x0.Room_, lsv (encI .i32) 1 x0.Out_], .box [.int .i64 0, .int .i64 0, .nl]]) (by kernel_rfl) ?_
  obtain ⟨hm, h1⟩ := asrt h
  refine RJ.rel (d := (some 14)) (ef := ⟨.vc 2, [], [(2, .vec ((x0.Out_.length : Int) : Int).toNat 1 21 (List.replicate ((x0.Out_.length : Int) : Int).toNat ((encI .i32) (0 : Int))).flatten)]⟩) (ef' := ⟨.vc 2, [], [(2, vecL (encI .i32) 1 21 (rep (x0.Out_.length : Int) (0 : Int)))]⟩) (c := mk (x0.Out_.length : Int) ((IntKind.wrap .i64 ((x0.Out_.length : Int) + x1)))) (tr2 := []) (H2 := [.box [.int .i64 x0.Fuel_, .int .i64 x0.Room_, lsv (encI .i32) 1 x0.Out_], .box [.int .i64 0, .int .i64 0, .nl], vecL (encI .i32) 1 21 (rep (x0.Out_.length : Int) (0 : Int))]) (by kernel_rfl) hm (fun hc => N.make) (by kernel_rfl) ?_
  refine RJ.seg 1 [2, 4, 5] (L2 := [(2, .ptr 0 0), (4, .ptr 1 0), (5, .vc 2)]) (H2 := [.box [.int .i64 x0.Fuel_, .int .i64 x0.Room_, lsv (encI .i32) 1 x0.Out_], .box [.int .i64 0, .int .i64 0, .nl], vecL (encI .i32) 1 21 (rep (x0.Out_.length : Int) (0 : Int))]) (by kernel_rfl) ?_
  refine RJ.end (by kernel_rfl) ?_
  refine PJ.next ?_
  refine K.seq (by kernel_rfl) ?_
  refine K.region (by kernel_rfl) ?_
  refine RJ.seg 3 [2, 4, 5, 15, 17] (L2 := [(2, .ptr 0 0), (4, .ptr 1 0), (5, .vc 2), (15, .vc 2), (17, lsv (encI .i32) 1 x0.Out_)]) (H2 := [.box [.int .i64 x0.Fuel_, .int .i64 x0.Room_, lsv (encI .i32) 1 x0.Out_], .box [.int .i64 0, .int .i64 0, .nl], vecL (encI .i32) 1 21 (rep (x0.Out_.length : Int) (0 : Int))]) (by kernel_rfl) ?_
  refine RJ.rel (d := (some 18)) (ef := ⟨.int .i64 (((min x0.Out_.length (rep (x0.Out_.length : Int) (0 : Int)).length : Nat) : Int)), [2], [(2, .vec (rep (x0.Out_.length : Int) (0 : Int)).length 1 21 (splice ((rep (x0.Out_.length : Int) (0 : Int)).flatMap (encI .i32)) 0 ((x0.Out_.flatMap (encI .i32)).take (min x0.Out_.length (rep (x0.Out_.length : Int) (0 : Int)).length * 1))))]⟩) (ef' := ⟨.int .i64 (((min x0.Out_.length (rep (x0.Out_.length : Int) (0 : Int)).length : Nat) : Int)), [2], [(2, vecL (encI .i32) 1 21 (over (rep (x0.Out_.length : Int) (0 : Int)) x0.Out_))]⟩) (c := true) (tr2 := []) (H2 := [.box [.int .i64 x0.Fuel_, .int .i64 x0.Room_, lsv (encI .i32) 1 x0.Out_], .box [.int .i64 0, .int .i64 0, .nl], vecL (encI .i32) 1 21 ((over (rep (x0.Out_.length : Int) (0 : Int)) x0.Out_))]) (by kernel_rfl) rfl (fun hc => N.copy (encI_len .i32)) (by kernel_rfl) ?_
  refine RJ.end (by kernel_rfl) ?_
  refine PJ.next ?_
  refine K.seq (by kernel_rfl) ?_
  refine K.region (by kernel_rfl) ?_
  refine RJ.seg 3 [2, 4] (L2 := [(2, .ptr 0 0), (4, .ptr 1 0)]) (H2 := [.box [.int .i64 x0.Fuel_, .int .i64 x0.Room_, .vc 2], .box [.int .i64 0, .int .i64 0, .nl], vecL (encI .i32) 1 21 ((over (rep (x0.Out_.length : Int) (0 : Int)) x0.Out_))]) (by kernel_rfl) ?_
  refine RJ.end (by kernel_rfl) ?_
  refine PJ.next ?_
  refine K.seq (by kernel_rfl) ?_
  refine K.region (by kernel_rfl) ?_
  refine RJ.seg 2 [4] (L2 := [(4, .ptr 1 0)]) (H2 := [.box [.int .i64 x0.Fuel_, .int .i64 x0.Room_, .vc 2], .box [.int .i64 x0.Fuel_, .int .i64 x0.Room_, .vc 2], vecL (encI .i32) 1 21 ((over (rep (x0.Out_.length : Int) (0 : Int)) x0.Out_))]) (by kernel_rfl) ?_
  refine RJ.end (by kernel_rfl) ?_
  refine PJ.next ?_
  refine K.ret (by kernel_rfl) ?_
  obtain rfl := Option.some.inj h1
  refine PJ.wk (Wk.freeze 2 (n := ((over (rep (x0.Out_.length : Int) (0 : Int)) x0.Out_)).length) (k := 1) (e := 21) (cs := ((over (rep (x0.Out_.length : Int) (0 : Int)) x0.Out_)).flatMap (encI .i32)) (by kernel_rfl)) ?_
  exact K.ret0 (.inr rfl) hFn hFH hFD (by kernel_rfl) (by kernel_rfl) (by kernel_rfl)

theorem tank_burn_ok {x0 : St23} {x1 : Int} {r : St23 × Int} (h : tank_burn x0 x1 = some r) : SC Try.prog 17 [.agg [.int .i64 x0.Fuel_, .int .i64 x0.Room_, lsv (encI .i32) 1 x0.Out_], .int .i64 x1] [] (.tup [.agg [.int .i64 r.1.Fuel_, .int .i64 r.1.Room_, lsv (encI .i32) 1 r.1.Out_], .int .i64 r.2]) [] := by
  refine K.fn (fn := Try.f17) (by kernel_rfl) (by kernel_rfl) (by kernel_rfl) (by kernel_rfl) (by kernel_rfl) (fun F hFn hFH hFD => ?_)
  unfold tank_burn at h
  refine K.seq (by kernel_rfl) ?_
  refine K.region (by kernel_rfl) ?_
  refine RJ.seg 3 [1, 2, 4, 5] (L2 := [(1, .int .i64 x1), (2, .ptr 0 0), (4, .ptr 1 0), (5, .int .i64 0)]) (H2 := [.box [.int .i64 x0.Fuel_, .int .i64 x0.Room_, lsv (encI .i32) 1 x0.Out_], .box [.int .i64 0, .int .i64 0, .nl]]) (by kernel_rfl) ?_
  refine RJ.end (by kernel_rfl) ?_
  refine PJ.next ?_
  refine K.seq (by kernel_rfl) ?_
  refine K.seq (by kernel_rfl) ?_
  refine K.region (by kernel_rfl) ?_
  refine RJ.seg 4 [1, 2, 4, 5, 9] (L2 := [(1, .int .i64 x1), (2, .ptr 0 0), (4, .ptr 1 0), (5, .int .i64 0), (9, .bool (decide (x0.Fuel_ < x1)))]) (H2 := [.box [.int .i64 x0.Fuel_, .int .i64 x0.Room_, lsv (encI .i32) 1 x0.Out_], .box [.int .i64 0, .int .i64 0, .nl]]) (by kernel_rfl) ?_
  refine RJ.end (by kernel_rfl) ?_
  refine PJ.next ?_
  refine J.caseB 9 (b := (decide (x0.Fuel_ < x1))) (by kernel_rfl) (fun hb1 => ?_) (fun hb1 => ?_)
  · have h2 := condT hb1 h
    refine K.condT (by kernel_rfl) ?_
    refine K.seq (by kernel_rfl) ?_
    refine K.region (by kernel_rfl) ?_
    refine RJ.seg 2 [1, 2, 4, 5] (L2 := [(1, .int .i64 x1), (2, .ptr 0 0), (4, .ptr 1 0), (5, .int .i64 0)]) (H2 := [.box [.int .i64 0, .int .i64 x0.Room_, lsv (encI .i32) 1 x0.Out_], .box [.int .i64 0, .int .i64 0, .nl]]) (by kernel_rfl) ?_
    refine RJ.end (by kernel_rfl) ?_
    refine PJ.next ?_
    refine K.seq (by kernel_rfl) ?_
    refine K.region (by kernel_rfl) ?_
    refine RJ.seg 3 [1, 2, 4, 5] (L2 := [(1, .int .i64 x1), (2, .ptr 0 0), (4, .ptr 1 0), (5, .int .i64 4)]) (H2 := [.box [.int .i64 0, .int .i64 x0.Room_, lsv (encI .i32) 1 x0.Out_], .box [.int .i64 0, .int .i64 x0.Room_, lsv (encI .i32) 1 x0.Out_]]) (by kernel_rfl) ?_
    refine RJ.end (by kernel_rfl) ?_
    refine PJ.next ?_
    refine K.ret (by kernel_rfl) ?_
    refine PJ.passRet ?_
    obtain rfl := Option.some.inj h2
    exact K.ret0 (.inr rfl) hFn hFH hFD (by kernel_rfl) (by kernel_rfl) (by kernel_rfl)
  · have h3 := condF hb1 h
    refine K.condF (by kernel_rfl) ?_
    refine K.skip (by kernel_rfl) ?_
    refine PJ.next ?_
    refine K.seq (by kernel_rfl) ?_
    refine K.region (by kernel_rfl) ?_
    refine RJ.seg 6 [2, 4, 5] (L2 := [(2, .ptr 0 0), (4, .ptr 1 0), (5, .int .i64 0)]) (H2 := [.box [.int .i64 (IntKind.wrap .i64 (x0.Fuel_ - x1)), .int .i64 x0.Room_, lsv (encI .i32) 1 x0.Out_], .box [.int .i64 0, .int .i64 0, .nl]]) (by kernel_rfl) ?_
    refine RJ.end (by kernel_rfl) ?_
    refine PJ.next ?_
    refine K.seq (by kernel_rfl) ?_
    refine K.region (by kernel_rfl) ?_
    refine RJ.seg 3 [4, 5] (L2 := [(4, .ptr 1 0), (5, .int .i64 0)]) (H2 := [.box [.int .i64 (IntKind.wrap .i64 (x0.Fuel_ - x1)), .int .i64 x0.Room_, lsv (encI .i32) 1 x0.Out_], .box [.int .i64 (IntKind.wrap .i64 (x0.Fuel_ - x1)), .int .i64 x0.Room_, lsv (encI .i32) 1 x0.Out_]]) (by kernel_rfl) ?_
    refine RJ.end (by kernel_rfl) ?_
    refine PJ.next ?_
    refine K.ret (by kernel_rfl) ?_
    obtain rfl := Option.some.inj h3
    exact K.ret0 (.inr rfl) hFn hFH hFD (by kernel_rfl) (by kernel_rfl) (by kernel_rfl)

end Go.Proofs.Ytpfigkedefbedaa
