/-
  What the functions of this program come to, as functions of natives, each with the proof that it does. No conditions.
-/
import Derived.Test.YtkfgpandjbohfaaDoorProg
import Derived.Test.YtkfgpandjbohfaaDoorSyMP
namespace Go.Proofs.YtkfgpandjbohfaaDoor
open Go Go.Sy Go.RowKit
set_option linter.unusedVariables false
set_option linter.unusedSimpArgs false
set_option maxRecDepth 100000
set_option maxHeartbeats 4000000

/-- What package variables hold for good. -/
def gtabs : Nat → Option (List SV)
 | 0 => some [.int .i32 48, .int .i32 1632, .int .i32 1776, .int .i32 1984, .int .i32 2406, .int .i32 2534, .int .i32 2662, .int .i32 2790, .int .i32 2918, .int .i32 3046, .int .i32 3174, .int .i32 3302, .int .i32 3430, .int .i32 3664, .int .i32 3792, .int .i32 3872, .int .i32 6112, .int .i32 6160, .int .i32 65296, .int .i32 120782]
 | _ => none
instance : Inhabited GT := ⟨⟨gtabs⟩⟩

def class_Value (x0 : Int) : Option (Int × Bool) :=
 (Option.bind (loopN (fun (s151 : Int) => (bif (decide (s151 < 20)) then (Option.bind (bif inR s151 20 then (Option.bind (bif (decide ((nth ([48, 1632, 1776, 1984, 2406, 2534, 2662, 2790, 2918, 3046, 3174, 3302, 3430, 3664, 3792, 3872, 6112, 6160, 65296, 120782] : List Int) s151) ≤ x0)) then (some ((decide (x0 ≤ ((IntKind.wrap .i32 ((nth ([48, 1632, 1776, 1984, 2406, 2534, 2662, 2790, 2918, 3046, 3174, 3302, 3430, 3664, 3792, 3872, 6112, 6160, 65296, 120782] : List Int) s151) + 9))))))) else (some false)) fun (s279 : Bool) => (bif s279 then (some (.inr (.inr (.inr ((IntKind.wrap .i64 ((IntKind.wrap .i32 (x0 - (nth ([48, 1632, 1776, 1984, 2406, 2534, 2662, 2790, 2918, 3046, 3174, 3302, 3430, 3664, 3792, 3872, 6112, 6160, 65296, 120782] : List Int) s151))))), true))))) else (some (.inl ())))) else none) (joinX fun (s270 : Unit) => (some (.inl (IntKind.wrap .i64 (s151 + 1)))))) else (some (.inr (.inl ()))))) big 0) (joinX fun (s146 : Unit) => (some (0, false))))
theorem class_Value_ok {x0 : Int} {r : Int × Bool} (h : class_Value x0 = some r) : SC Tryd.prog 10 [.int .i32 x0] [] (.tup [.int .i64 r.1, .bool r.2]) [] := by
 refine kFn (fn := Tryd.f10) (fun F hFn hFH hFD => ?_)
 unfold class_Value at h
 refine kSR ?_
 refine kC 2 [0,2,3] ?_
 refine kEN ?_
 obtain ⟨y147, hy148, h149⟩ := bindS h
 refine K.cutX (by kernel_rfl) (fun (s146 : Unit) => ([(2, .int .i64 0), (3, .bool false)], [])) y147 ?_ (fun s146 hs => ?_)
 ·refine kSR ?_
  refine kC 2 [0,2,3,6,7] ?_
  refine kEN ?_
  refine K.block 0 (by kernel_rfl) ?_
  refine K.loop (by kernel_rfl) (fun (s151 : Int) => ([(0, .int .i32 x0), (2, .int .i64 0), (3, .bool false), (6, .agg [.int .i32 48, .int .i32 1632, .int .i32 1776, .int .i32 1984, .int .i32 2406, .int .i32 2534, .int .i32 2662, .int .i32 2790, .int .i32 2918, .int .i32 3046, .int .i32 3174, .int .i32 3302, .int .i32 3430, .int .i32 3664, .int .i32 3792, .int .i32 3872, .int .i32 6112, .int .i32 6160, .int .i32 65296, .int .i32 120782]), (7, .int .i64 s151)], [])) hy148 [0, 2, 3, 6, 7] (by kernel_rfl) (by kernel_rfl) (fun s151 x247 hs246 => ?_)
  refine kSR ?_
  refine kC 1 [0,2,3,6,7,8] ?_
  refine kEN ?_
  refine kS ?_
  refine J.caseB 8 (b := (decide (s151 < 20))) (by kernel_rfl) (fun hb248 => ?_) (fun hb248 => ?_)
  ·have h249 := condT hb248 hs246
   refine kT ?_
   refine kK ?_
   refine PJ.next ?_
   obtain ⟨y271, hy272, h273⟩ := bindS h249
   refine K.cutX (by kernel_rfl) (fun (s270 : Unit) => ([(0, .int .i32 x0), (2, .int .i64 0), (3, .bool false), (6, .agg [.int .i32 48, .int .i32 1632, .int .i32 1776, .int .i32 1984, .int .i32 2406, .int .i32 2534, .int .i32 2662, .int .i32 2790, .int .i32 2918, .int .i32 3046, .int .i32 3174, .int .i32 3302, .int .i32 3430, .int .i32 3664, .int .i32 3792, .int .i32 3872, .int .i32 6112, .int .i32 6160, .int .i32 65296, .int .i32 120782]), (7, .int .i64 s151)], [])) y271 ?_ (fun s270 hs => ?_)
   ·refine K.block 1 (by kernel_rfl) ?_
    refine kSR ?_
    obtain ⟨hm, h275⟩ := asrt hy272
    refine RJ.rel (d := (some 9)) (ef := ⟨((([48, 1632, 1776, 1984, 2406, 2534, 2662, 2790, 2918, 3046, 3174, 3302, 3430, 3664, 3792, 3872, 6112, 6160, 65296, 120782] : List Int).flatMap (encI .i32)).drop ((s151 : Int).toNat * 1)).headD .undef, [], []⟩) (ef' := ⟨.int .i32 (nth ([48, 1632, 1776, 1984, 2406, 2534, 2662, 2790, 2918, 3046, 3174, 3302, 3430, 3664, 3792, 3872, 6112, 6160, 65296, 120782] : List Int) s151), [], []⟩) (c := inR s151 20) (tr2 := []) (H2 := []) (by kernel_rfl) hm (fun hc => N.load1 (encI_len .i32) (fun _ => rfl) hc) (by kernel_rfl) ?_
    refine kC 1 [0,2,3,5,6,7] ?_
    refine kEN ?_
    obtain ⟨s279, hy281, h283⟩ := bindS h275
    refine K.cutN (by kernel_rfl) (fun (s279 : Bool) => ([(0, .int .i32 x0), (2, .int .i64 0), (3, .bool false), (5, .int .i32 (nth ([48, 1632, 1776, 1984, 2406, 2534, 2662, 2790, 2918, 3046, 3174, 3302, 3430, 3664, 3792, 3872, 6112, 6160, 65296, 120782] : List Int) s151)), (6, .agg [.int .i32 48, .int .i32 1632, .int .i32 1776, .int .i32 1984, .int .i32 2406, .int .i32 2534, .int .i32 2662, .int .i32 2790, .int .i32 2918, .int .i32 3046, .int .i32 3174, .int .i32 3302, .int .i32 3430, .int .i32 3664, .int .i32 3792, .int .i32 3872, .int .i32 6112, .int .i32 6160, .int .i32 65296, .int .i32 120782]), (7, .int .i64 s151), (18, .bool s279)], [])) s279 ?_ ?_
    ·refine kR ?_
     refine kC 4 [0,2,3,5,6,7,13] ?_
     refine RJ.caseB 13 (b := (decide ((nth ([48, 1632, 1776, 1984, 2406, 2534, 2662, 2790, 2918, 3046, 3174, 3302, 3430, 3664, 3792, 3872, 6112, 6160, 65296, 120782] : List Int) s151) ≤ x0))) (by kernel_rfl) (fun hb284 => ?_) (fun hb284 => ?_)
     ·have h285 := condT hb284 hy281
      refine RJ.seg 5 [0, 2, 3, 5, 6, 7, 18] (L2 := [(0, .int .i32 x0), (2, .int .i64 0), (3, .bool false), (5, .int .i32 (nth ([48, 1632, 1776, 1984, 2406, 2534, 2662, 2790, 2918, 3046, 3174, 3302, 3430, 3664, 3792, 3872, 6112, 6160, 65296, 120782] : List Int) s151)), (6, .agg [.int .i32 48, .int .i32 1632, .int .i32 1776, .int .i32 1984, .int .i32 2406, .int .i32 2534, .int .i32 2662, .int .i32 2790, .int .i32 2918, .int .i32 3046, .int .i32 3174, .int .i32 3302, .int .i32 3430, .int .i32 3664, .int .i32 3792, .int .i32 3872, .int .i32 6112, .int .i32 6160, .int .i32 65296, .int .i32 120782]), (7, .int .i64 s151), (18, .bool ((decide (x0 ≤ ((IntKind.wrap .i32 ((nth ([48, 1632, 1776, 1984, 2406, 2534, 2662, 2790, 2918, 3046, 3174, 3302, 3430, 3664, 3792, 3872, 6112, 6160, 65296, 120782] : List Int) s151) + 9)))))))]) (H2 := []) (by kernel_rfl) ?_
      refine kE ?_
      obtain rfl := oi h285
      exact kN [0, 2, 3, 5, 6, 7, 18]
     ·have h286 := condF hb284 hy281
      refine RJ.seg 5 [0, 2, 3, 5, 6, 7, 18] (L2 := [(0, .int .i32 x0), (2, .int .i64 0), (3, .bool false), (5, .int .i32 (nth ([48, 1632, 1776, 1984, 2406, 2534, 2662, 2790, 2918, 3046, 3174, 3302, 3430, 3664, 3792, 3872, 6112, 6160, 65296, 120782] : List Int) s151)), (6, .agg [.int .i32 48, .int .i32 1632, .int .i32 1776, .int .i32 1984, .int .i32 2406, .int .i32 2534, .int .i32 2662, .int .i32 2790, .int .i32 2918, .int .i32 3046, .int .i32 3174, .int .i32 3302, .int .i32 3430, .int .i32 3664, .int .i32 3792, .int .i32 3872, .int .i32 6112, .int .i32 6160, .int .i32 65296, .int .i32 120782]), (7, .int .i64 s151), (18, .bool false)]) (H2 := []) (by kernel_rfl) ?_
      refine kE ?_
      obtain rfl := oi h286
      exact kN [0, 2, 3, 5, 6, 7, 18]
    ·refine J.caseB 18 (b := s279) (by kernel_rfl) (fun hb287 => ?_) (fun hb287 => ?_)
     ·have h288 := condT hb287 h283
      refine kT ?_
      refine kSR ?_
      refine kC 6 [0,2,3,6,7] ?_
      refine kEN ?_
      refine kX ?_
      refine PJ.blockRet ?_
      obtain rfl := oi h288
      have h290 := joinX_inr h273
      refine PJ.cutXr (fun e => nomatch e) ?_
      obtain rfl := oi h290
      refine PJ.loopOut (fun e => nomatch e) (fun he293 => ?_)
      have h291 := congrArg some he293
      refine PJ.blockRet ?_
      obtain rfl := oi h291
      have h292 := joinX_inr h149
      refine PJ.cutXr (fun e => nomatch e) ?_
      obtain rfl := oi h292
      exact kZ hFn hFH hFD
     ·have h289 := condF hb287 h283
      refine kF ?_
      refine kK ?_
      refine PJ.blockNormal ?_
      obtain rfl := oi h289
      exact PJ.cutXl [0, 2, 3, 6, 7] (by kernel_rfl) (by kernel_rfl)
   ·subst hs
    have h274 := joinX_inl h273
    refine kR ?_
    refine kC 2 [0,2,3,6,7] ?_
    refine kE ?_
    obtain rfl := oi h274
    exact PJ.loopNext [0, 2, 3, 6, 7] (by kernel_rfl) (by kernel_rfl)
  ·have h250 := condF hb248 hs246
   refine kF ?_
   refine K.exit 0 (by kernel_rfl) ?_
   refine PJ.passExit ?_
   obtain rfl := oi h250
   refine PJ.loopOut (fun e => nomatch e) (fun he295 => ?_)
   have h294 := congrArg some he295
   refine PJ.blockOut ?_
   obtain rfl := oi h294
   exact PJ.cutXl [2, 3] (by kernel_rfl) (by kernel_rfl)
 ·subst hs
  have h150 := joinX_inl h149
  refine kSR ?_
  refine kC 2 [2,3] ?_
  refine kEN ?_
  refine kX ?_
  obtain rfl := oi h150
  exact kZ hFn hFH hFD

structure St38 where
 a0_ : Int
 a1_ : Int
 deriving Inhabited, DecidableEq
def encSt38 (x : St38) : List SV := [.int .i32 x.a0_, .int .i32 x.a1_]
theorem encSt38_len (x : St38) : (encSt38 x).length = 2 := rfl

def class_ranges_s0  : Option ((List (St38 × Int))) :=
 (some (([((⟨0, 31⟩ : St38), 1), ((⟨127, 159⟩ : St38), 1), ((⟨1564, 1564⟩ : St38), 2), ((⟨8206, 8207⟩ : St38), 2), ((⟨8234, 8238⟩ : St38), 2), ((⟨8294, 8297⟩ : St38), 2), ((⟨64976, 65007⟩ : St38), 3), ((⟨32, 32⟩ : St38), 4), ((⟨160, 160⟩ : St38), 4), ((⟨5760, 5760⟩ : St38), 4), ((⟨8192, 8202⟩ : St38), 4), ((⟨8232, 8233⟩ : St38), 4), ((⟨8239, 8239⟩ : St38), 4), ((⟨8287, 8287⟩ : St38), 4), ((⟨12288, 12288⟩ : St38), 4)] : List (St38 × Int))))
theorem class_ranges_s0_ok  {r : (List (St38 × Int))} (h : class_ranges_s0 = some r) : SC Tryd.prog 21 [] [] (.mp 0) [.pmap (mapL (fun k : St38 => .agg (encSt38 k)) (fun k : Int => .int .i64 k) r)] := by
 refine kFn (fn := Tryd.f21) (fun F hFn hFH hFD => ?_)
 unfold class_ranges_s0 at h
 refine kSR ?_
 refine kC 1 [] ?_
 refine kEN ?_
 refine kS ?_
 refine J.keep [] (L2 := []) (by kernel_rfl) ?_
 refine K.mapLitC 38 (es := mapL (fun k : St38 => .agg (encSt38 k)) (fun k : Int => .int .i64 k) ([((⟨0, 31⟩ : St38), 1), ((⟨127, 159⟩ : St38), 1), ((⟨1564, 1564⟩ : St38), 2), ((⟨8206, 8207⟩ : St38), 2), ((⟨8234, 8238⟩ : St38), 2), ((⟨8294, 8297⟩ : St38), 2), ((⟨64976, 65007⟩ : St38), 3), ((⟨32, 32⟩ : St38), 4), ((⟨160, 160⟩ : St38), 4), ((⟨5760, 5760⟩ : St38), 4), ((⟨8192, 8202⟩ : St38), 4), ((⟨8232, 8233⟩ : St38), 4), ((⟨8239, 8239⟩ : St38), 4), ((⟨8287, 8287⟩ : St38), 4), ((⟨12288, 12288⟩ : St38), 4)] : List (St38 × Int))) (L2 := [(0, .mp 0)]) (by kernel_rfl) (by kernel_rfl) (n := 0) (by kernel_rfl) (by kernel_rfl) (by kernel_rfl) (by kernel_rfl) (by kernel_rfl) (by kernel_rfl) [0] (by kernel_rfl) ?_
 refine PJ.next ?_
 refine kX ?_
 obtain rfl := oi h
 exact K.retV (H0 := []) [0] (.inr rfl) hFn hFH hFD (by kernel_rfl) (v1 := .mp 0) (by kernel_rfl) (by kernel_rfl) (by simp only [List.map_cons, List.map_nil, rn_pmapL (ek := (fun k : St38 => .agg (encSt38 k))) (ev := (fun k : Int => .int .i64 k)) (fun _ _ => rfl) (fun _ _ => rfl)]; kernel_rfl) (by decide) (by simp only [List.all_cons, List.all_nil, refs_pmapL (ek := (fun k : St38 => .agg (encSt38 k))) (ev := (fun k : Int => .int .i64 k)) (fun _ _ => rfl) (fun _ _ => rfl)]; kernel_rfl) (by kernel_rfl) (by kernel_rfl) (by kernel_rfl) (by kernel_rfl)

def utf_Is (x0 : Int) : Option (Bool) :=
 (Option.bind (bif (decide (x0 ≥ 0)) then (bif (decide (x0 ≤ 1114111)) then (bif (decide (x0 < 55296)) then (some true) else (some (decide (x0 > 57343)))) else (some false)) else (some false)) fun (s10 : Bool) => (some s10))
theorem utf_Is_ok {x0 : Int} {r : Bool} (h : utf_Is x0 = some r) : SC Tryd.prog 26 [.int .i32 x0] [] (.bool r) [] := by
 refine kFn (fn := Tryd.f26) (fun F hFn hFH hFD => ?_)
 unfold utf_Is at h
 refine kSR ?_
 refine kC 1 [0,2] ?_
 refine kEN ?_
 obtain ⟨s10, hy12, h14⟩ := bindS h
 refine K.cutN (by kernel_rfl) (fun (s10 : Bool) => ([(2, .bool s10)], [])) s10 ?_ ?_
 ·refine kR ?_
  refine kC 3 [0,2,5] ?_
  refine RJ.caseB 5 (b := (decide (x0 ≥ 0))) (by kernel_rfl) (fun hb15 => ?_) (fun hb15 => ?_)
  ·have h16 := condT hb15 hy12
   refine kC 4 [0,2,9] ?_
   refine RJ.caseB 9 (b := (decide (x0 ≤ 1114111))) (by kernel_rfl) (fun hb18 => ?_) (fun hb18 => ?_)
   ·have h19 := condT hb18 h16
    refine RJ.seg 3 [0, 2, 9, 12] (L2 := [(0, .int .i32 x0), (2, .bool false), (9, .bool true), (12, .bool (decide (x0 < 55296)))]) (H2 := []) (by kernel_rfl) ?_
    refine RJ.caseB 12 (b := (decide (x0 < 55296))) (by kernel_rfl) (fun hb21 => ?_) (fun hb21 => ?_)
    ·have h22 := condT hb21 h19
     refine kC 5 [2] ?_
     refine kE ?_
     obtain rfl := oi h22
     exact kN [2]
    ·have h23 := condF hb21 h19
     refine kC 5 [2] ?_
     refine kE ?_
     obtain rfl := oi h23
     exact kN [2]
   ·have h20 := condF hb18 h16
    refine RJ.seg 8 [2] (L2 := [(2, .bool false)]) (H2 := []) (by kernel_rfl) ?_
    refine kE ?_
    obtain rfl := oi h20
    exact kN [2]
  ·have h17 := condF hb15 hy12
   refine kC 12 [2] ?_
   refine kE ?_
   obtain rfl := oi h17
   exact kN [2]
 ·refine kX ?_
  obtain rfl := oi h14
  exact kZ hFn hFH hFD

def class_table__class_s0 (x0 : Int) (x1 : List (St38 × Int)) : Option (Int × (List (St38 × Int))) :=
 (Option.bind (utf_Is x0) fun y1 => (bif (!y1) then (some (6, x1)) else (bif (decide ((bits .and .i32 x0 65534) = 65534)) then (some (3, x1)) else (Option.bind (Option.bind (mapRun (fun (e49 : St38 × Int) => (Option.bind (bif (decide (e49.1.a0_ ≤ x0)) then (some (decide (x0 ≤ e49.1.a1_))) else (some false)) fun (s56 : Bool) => (bif s56 then (some (.inr (.inr (((mget (fun a b : St38 => ((decide (a.a0_ = b.a0_)) && ((decide (a.a1_ = b.a1_)) && true))) x1 e49.1).getD 0), x1)))) else (some (.inl ()))))) x1) (joinX fun (_ : Unit) => (some (.inl ())))) (joinX fun (s38 : Unit) => (Option.bind (class_Value x0) fun y71 => (bif y71.2 then (some (5, x1)) else (some (0, x1)))))))))
theorem class_table__class_s0_ok {x0 : Int} {x1 : List (St38 × Int)} {r : Int × (List (St38 × Int))} (h : class_table__class_s0 x0 x1 = some r) : SC Tryd.prog 22 [.mp 0, .int .i32 x0] [.map (mapL (fun k : St38 => .agg (encSt38 k)) (fun k : Int => .int .i64 k) x1)] (.int .i64 r.1) [.map (mapL (fun k : St38 => .agg (encSt38 k)) (fun k : Int => .int .i64 k) r.2)] := by
 refine kFn (fn := Tryd.f22) (fun F hFn hFH hFD => ?_)
 unfold class_table__class_s0 at h
 refine kSR ?_
 refine kC 1 [0,1,4] ?_
 refine kEN ?_
 refine kS ?_
 refine kSR ?_
 refine kC 1 [0,1,4,8] ?_
 obtain ⟨y1, hy2, h3⟩ := bindS h
 refine RJ.call0 (d := (some 9)) (f := 26) (args := [.int .i32 x0]) (v := .bool y1) (tr2 := []) (by kernel_rfl) (by kernel_rfl) (.cons (Le.refl _) .nil) (utf_Is_ok hy2) (by kernel_rfl) ?_
 refine kC 1 [0,1,4,10] ?_
 refine kEN ?_
 refine J.caseB 10 (b := (!y1)) (by kernel_rfl) (fun hb4 => ?_) (fun hb4 => ?_)
 ·have h5 := condT hb4 h3
  refine kT ?_
  refine kSR ?_
  refine RJ.seg 1 [0, 1, 4] (L2 := [(0, .mp 0), (1, .int .i32 x0), (4, .int .i64 6)]) (H2 := [.map (mapL (fun k : St38 => .agg (encSt38 k)) (fun k : Int => .int .i64 k) x1)]) (by kernel_rfl) ?_
  refine kEN ?_
  refine kX ?_
  refine PJ.passRet ?_
  obtain rfl := oi h5
  exact K.retV (H0 := [.map (mapL (fun k : St38 => .agg (encSt38 k)) (fun k : Int => .int .i64 k) x1)]) [0] (.inr rfl) hFn hFH hFD (by kernel_rfl) (v1 := .int .i64 6) (by kernel_rfl) (by kernel_rfl) (by simp only [List.map_cons, List.map_nil, rn_mapL (ek := (fun k : St38 => .agg (encSt38 k))) (ev := (fun k : Int => .int .i64 k)) (fun _ _ => rfl) (fun _ _ => rfl)]; kernel_rfl) (by decide) (by simp only [List.all_cons, List.all_nil, refs_mapL (ek := (fun k : St38 => .agg (encSt38 k))) (ev := (fun k : Int => .int .i64 k)) (fun _ _ => rfl) (fun _ _ => rfl)]; kernel_rfl) (by kernel_rfl) (by kernel_rfl) (by kernel_rfl) (by kernel_rfl)
 ·have h6 := condF hb4 h3
  refine kF ?_
  refine kK ?_
  refine PJ.next ?_
  refine kS ?_
  refine kSR ?_
  refine RJ.seg 3 [0, 1, 4, 13] (L2 := [(0, .mp 0), (1, .int .i32 x0), (4, .int .i64 0), (13, .bool ((decide ((bits .and .i32 x0 65534) = 65534))))]) (H2 := [.map (mapL (fun k : St38 => .agg (encSt38 k)) (fun k : Int => .int .i64 k) x1)]) (by kernel_rfl) ?_
  refine kEN ?_
  refine J.caseB 13 (b := (decide ((bits .and .i32 x0 65534) = 65534))) (by kernel_rfl) (fun hb7 => ?_) (fun hb7 => ?_)
  ·have h8 := condT hb7 h6
   refine kT ?_
   refine kSR ?_
   refine kC 1 [0,1,4] ?_
   refine kEN ?_
   refine kX ?_
   refine PJ.passRet ?_
   obtain rfl := oi h8
   exact K.retV (H0 := [.map (mapL (fun k : St38 => .agg (encSt38 k)) (fun k : Int => .int .i64 k) x1)]) [0] (.inr rfl) hFn hFH hFD (by kernel_rfl) (v1 := .int .i64 3) (by kernel_rfl) (by kernel_rfl) (by simp only [List.map_cons, List.map_nil, rn_mapL (ek := (fun k : St38 => .agg (encSt38 k))) (ev := (fun k : Int => .int .i64 k)) (fun _ _ => rfl) (fun _ _ => rfl)]; kernel_rfl) (by decide) (by simp only [List.all_cons, List.all_nil, refs_mapL (ek := (fun k : St38 => .agg (encSt38 k))) (ev := (fun k : Int => .int .i64 k)) (fun _ _ => rfl) (fun _ _ => rfl)]; kernel_rfl) (by kernel_rfl) (by kernel_rfl) (by kernel_rfl) (by kernel_rfl)
  ·have h9 := condF hb7 h6
   refine kF ?_
   refine kK ?_
   refine PJ.next ?_
   obtain ⟨y39, hy40, h41⟩ := bindS h9
   refine K.cutX (by kernel_rfl) (fun (s38 : Unit) => ([(1, .int .i32 x0), (4, .int .i64 0)], [.map (mapL (fun k : St38 => .agg (encSt38 k)) (fun k : Int => .int .i64 k) x1)])) y39 ?_ (fun s38 hs => ?_)
   ·refine kSR ?_
    refine kC 1 [0,1,4,14] ?_
    refine RJ.range (d := (some 15)) (i := 0) (n := (mapL (fun k : St38 => .agg (encSt38 k)) (fun k : Int => .int .i64 k) x1).length) (by kernel_rfl) ?_
    refine kEN ?_
    refine K.block 0 (by kernel_rfl) ?_
    obtain ⟨y43, hy44, h45⟩ := bindS hy40
    refine K.mapLoop 15 16 17 0 1 0 (n := (mapL (fun k : St38 => .agg (encSt38 k)) (fun k : Int => .int .i64 k) x1).length) (by kernel_rfl) (by kernel_rfl) _ _ (fun p : St38 × Int => ((fun k : St38 => .agg (encSt38 k)) p.1, (fun k : Int => .int .i64 k) p.2)) hy44 [0, 1, 4, 15] (L2 := [(0, .mp 0), (1, .int .i32 x0), (4, .int .i64 0), (15, .ptr 1 0)]) (by kernel_rfl) (by kernel_rfl) (by kernel_rfl) (by kernel_rfl) (by kernel_rfl) (by kernel_rfl) (fun sq => [.map (mapL (fun k : St38 => .agg (encSt38 k)) (fun k : Int => .int .i64 k) x1), .itr 0 ((mapL (fun k : St38 => .agg (encSt38 k)) (fun k : Int => .int .i64 k) x1).length) sq]) (by kernel_rfl) (fun _ _ => by kernel_rfl) (fun _ => by kernel_rfl) (fun _ => by kernel_rfl) rfl (fun sv50 he48 => ?_) (fun sv50 bv51 e49 x70 hb52 hx46 => ?_)
    ·subst he48
     have h47 := joinX_inl h45
     refine PJ.blockOut ?_
     obtain rfl := oi h47
     refine PJ.wk (Wk.sel (L2 := [(1, .int .i32 x0), (4, .int .i64 0)]) (H2 := [.map (mapL (fun k : St38 => .agg (encSt38 k)) (fun k : Int => .int .i64 k) x1)]) 1 (by rw [hFH]; rfl) hFD [0] (by kernel_rfl) (by simp only [List.map_cons, List.map_nil, rn_mapL (ek := (fun k : St38 => .agg (encSt38 k))) (ev := (fun k : Int => .int .i64 k)) (fun _ _ => rfl) (fun _ _ => rfl)]; kernel_rfl) (by decide) (by simp only [List.all_cons, List.all_nil, refs_mapL (ek := (fun k : St38 => .agg (encSt38 k))) (ev := (fun k : Int => .int .i64 k)) (fun _ _ => rfl) (fun _ _ => rfl)]; kernel_rfl) (by kernel_rfl) (by kernel_rfl) (by kernel_rfl)) ?_
     exact PJ.cutXl [1, 4] (by kernel_rfl) (by kernel_rfl)
    ·refine K.block 1 (by kernel_rfl) ?_
     refine kSR ?_
     refine RJ.entry (d := (some 18)) (i := 0) (n := (mapL (fun k : St38 => .agg (encSt38 k)) (fun k : Int => .int .i64 k) x1).length) (b := bv51) (s := sv50) (kv := ((.agg (encSt38 e49.1) : SV), (.int .i64 e49.2 : SV))) (by kernel_rfl) (by kernel_rfl) rfl hb52 ?_
     refine kC 3 [0,1,4,5,15] ?_
     refine kEN ?_
     obtain ⟨s56, hy58, h60⟩ := bindS hx46
     refine K.cutN (by kernel_rfl) (fun (s56 : Bool) => ([(0, .mp 0), (1, .int .i32 x0), (4, .int .i64 0), (5, .ptr 1 0), (15, .ptr 2 0), (29, .bool s56)], [.map (mapL (fun k : St38 => .agg (encSt38 k)) (fun k : Int => .int .i64 k) x1), .box (encSt38 e49.1), .itr 0 ((mapL (fun k : St38 => .agg (encSt38 k)) (fun k : Int => .int .i64 k) x1).length) (sv50 ++ [bv51])])) s56 ?_ ?_
     ·refine kR ?_
      refine kC 5 [0,1,4,5,15,24] ?_
      refine RJ.caseB 24 (b := (decide (e49.1.a0_ ≤ x0))) (by kernel_rfl) (fun hb61 => ?_) (fun hb61 => ?_)
      ·have h62 := condT hb61 hy58
       refine kC 5 [0,1,4,5,15,29] ?_
       refine kE ?_
       obtain rfl := oi h62
       refine PJ.wk (Wk.sel (L2 := [(0, .mp 0), (1, .int .i32 x0), (4, .int .i64 0), (5, .ptr 1 0), (15, .ptr 2 0), (29, .bool (decide (x0 ≤ e49.1.a1_)))]) (H2 := [.map (mapL (fun k : St38 => .agg (encSt38 k)) (fun k : Int => .int .i64 k) x1), .box (encSt38 e49.1), .itr 0 ((mapL (fun k : St38 => .agg (encSt38 k)) (fun k : Int => .int .i64 k) x1).length) (sv50 ++ [bv51])]) 1 (by rw [hFH]; rfl) hFD [0, 2, 1] (by kernel_rfl) (by simp only [List.map_cons, List.map_nil, rn_mapL (ek := (fun k : St38 => .agg (encSt38 k))) (ev := (fun k : Int => .int .i64 k)) (fun _ _ => rfl) (fun _ _ => rfl)]; kernel_rfl) (by decide) (by simp only [List.all_cons, List.all_nil, refs_mapL (ek := (fun k : St38 => .agg (encSt38 k))) (ev := (fun k : Int => .int .i64 k)) (fun _ _ => rfl) (fun _ _ => rfl)]; kernel_rfl) (by kernel_rfl) (by kernel_rfl) (by kernel_rfl)) ?_
       exact kN [0, 1, 4, 5, 15, 29]
      ·have h63 := condF hb61 hy58
       refine kC 5 [0,1,4,5,15,29] ?_
       refine kE ?_
       obtain rfl := oi h63
       refine PJ.wk (Wk.sel (L2 := [(0, .mp 0), (1, .int .i32 x0), (4, .int .i64 0), (5, .ptr 1 0), (15, .ptr 2 0), (29, .bool false)]) (H2 := [.map (mapL (fun k : St38 => .agg (encSt38 k)) (fun k : Int => .int .i64 k) x1), .box (encSt38 e49.1), .itr 0 ((mapL (fun k : St38 => .agg (encSt38 k)) (fun k : Int => .int .i64 k) x1).length) (sv50 ++ [bv51])]) 1 (by rw [hFH]; rfl) hFD [0, 2, 1] (by kernel_rfl) (by simp only [List.map_cons, List.map_nil, rn_mapL (ek := (fun k : St38 => .agg (encSt38 k))) (ev := (fun k : Int => .int .i64 k)) (fun _ _ => rfl) (fun _ _ => rfl)]; kernel_rfl) (by decide) (by simp only [List.all_cons, List.all_nil, refs_mapL (ek := (fun k : St38 => .agg (encSt38 k))) (ev := (fun k : Int => .int .i64 k)) (fun _ _ => rfl) (fun _ _ => rfl)]; kernel_rfl) (by kernel_rfl) (by kernel_rfl) (by kernel_rfl)) ?_
       exact kN [0, 1, 4, 5, 15, 29]
     ·refine J.caseB 29 (b := s56) (by kernel_rfl) (fun hb64 => ?_) (fun hb64 => ?_)
      ·have h65 := condT hb64 h60
       refine kT ?_
       refine kSR ?_
       refine kC 2 [0,1,4,15,30,31] ?_
       refine RJ.lookD (d := (some 32)) (kt := 38) (i := 0) (cs := (encSt38 e49.1)) (ok := false) (tr2 := []) (fun k : St38 => .agg (encSt38 k)) (fun k : Int => .int .i64 k) (fun a b : St38 => ((decide (a.a0_ = b.a0_)) && ((decide (a.a1_ = b.a1_)) && true))) x1 e49.1 (0 : Int) (by kernel_rfl) rfl (fun a b => by kernel_rfl) ?_
       refine kC 1 [0,1,4,15] ?_
       refine kEN ?_
       refine kX ?_
       refine PJ.blockRet ?_
       obtain rfl := oi h65
       refine PJ.mapOut (fun e => nomatch e) (fun he69 => ?_)
       subst he69
       have h67 := joinX_inr h45
       refine PJ.blockRet ?_
       obtain rfl := oi h67
       have h68 := joinX_inr h41
       refine PJ.cutXr (fun e => nomatch e) ?_
       obtain rfl := oi h68
       exact K.retV (H0 := [.map (mapL (fun k : St38 => .agg (encSt38 k)) (fun k : Int => .int .i64 k) x1)]) [0] (.inr rfl) hFn hFH hFD (by kernel_rfl) (v1 := .int .i64 (((mget (fun a b : St38 => ((decide (a.a0_ = b.a0_)) && ((decide (a.a1_ = b.a1_)) && true))) x1 e49.1).getD 0))) (by kernel_rfl) (by kernel_rfl) (by simp only [List.map_cons, List.map_nil, rn_mapL (ek := (fun k : St38 => .agg (encSt38 k))) (ev := (fun k : Int => .int .i64 k)) (fun _ _ => rfl) (fun _ _ => rfl)]; kernel_rfl) (by decide) (by simp only [List.all_cons, List.all_nil, refs_mapL (ek := (fun k : St38 => .agg (encSt38 k))) (ev := (fun k : Int => .int .i64 k)) (fun _ _ => rfl) (fun _ _ => rfl)]; kernel_rfl) (by kernel_rfl) (by kernel_rfl) (by kernel_rfl) (by kernel_rfl)
      ·have h66 := condF hb64 h60
       refine kF ?_
       refine kK ?_
       refine PJ.blockNormal ?_
       obtain rfl := oi h66
       refine PJ.wk (Wk.sel (L2 := [(0, .mp 0), (1, .int .i32 x0), (4, .int .i64 0), (15, .ptr 1 0)]) (H2 := [.map (mapL (fun k : St38 => .agg (encSt38 k)) (fun k : Int => .int .i64 k) x1), .itr 0 ((mapL (fun k : St38 => .agg (encSt38 k)) (fun k : Int => .int .i64 k) x1).length) (sv50 ++ [bv51])]) 1 (by rw [hFH]; rfl) hFD [0, 2] (by kernel_rfl) (by simp only [List.map_cons, List.map_nil, rn_mapL (ek := (fun k : St38 => .agg (encSt38 k))) (ev := (fun k : Int => .int .i64 k)) (fun _ _ => rfl) (fun _ _ => rfl)]; kernel_rfl) (by decide) (by simp only [List.all_cons, List.all_nil, refs_mapL (ek := (fun k : St38 => .agg (encSt38 k))) (ev := (fun k : Int => .int .i64 k)) (fun _ _ => rfl) (fun _ _ => rfl)]; kernel_rfl) (by kernel_rfl) (by kernel_rfl) (by kernel_rfl)) ?_
       exact PJ.mapNext [0, 1, 4, 15] (by kernel_rfl) (by kernel_rfl)
   ·subst hs
    have h42 := joinX_inl h41
    refine kS ?_
    refine kSR ?_
    refine kC 1 [4,34] ?_
    obtain ⟨y71, hy72, h73⟩ := bindS h42
    refine RJ.call0 (d := (some 35)) (f := 10) (args := [.int .i32 x0]) (v := .tup [.int .i64 y71.1, .bool y71.2]) (tr2 := []) (by kernel_rfl) (by kernel_rfl) (.cons (Le.refl _) .nil) (class_Value_ok hy72) (by kernel_rfl) ?_
    refine kC 5 [4,7] ?_
    refine kEN ?_
    refine kSR ?_
    refine kC 1 [4,38] ?_
    refine kEN ?_
    refine J.caseB 38 (b := y71.2) (by kernel_rfl) (fun hb74 => ?_) (fun hb74 => ?_)
    ·have h75 := condT hb74 h73
     refine kT ?_
     refine kSR ?_
     refine RJ.seg 1 [4] (L2 := [(4, .int .i64 5)]) (H2 := [.map (mapL (fun k : St38 => .agg (encSt38 k)) (fun k : Int => .int .i64 k) x1)]) (by kernel_rfl) ?_
     refine kEN ?_
     refine kX ?_
     refine PJ.passRet ?_
     obtain rfl := oi h75
     exact K.retV (H0 := [.map (mapL (fun k : St38 => .agg (encSt38 k)) (fun k : Int => .int .i64 k) x1)]) [0] (.inr rfl) hFn hFH hFD (by kernel_rfl) (v1 := .int .i64 5) (by kernel_rfl) (by kernel_rfl) (by simp only [List.map_cons, List.map_nil, rn_mapL (ek := (fun k : St38 => .agg (encSt38 k))) (ev := (fun k : Int => .int .i64 k)) (fun _ _ => rfl) (fun _ _ => rfl)]; kernel_rfl) (by decide) (by simp only [List.all_cons, List.all_nil, refs_mapL (ek := (fun k : St38 => .agg (encSt38 k))) (ev := (fun k : Int => .int .i64 k)) (fun _ _ => rfl) (fun _ _ => rfl)]; kernel_rfl) (by kernel_rfl) (by kernel_rfl) (by kernel_rfl) (by kernel_rfl)
    ·have h76 := condF hb74 h73
     refine kF ?_
     refine kK ?_
     refine PJ.next ?_
     refine kSR ?_
     refine RJ.seg 1 [4] (L2 := [(4, .int .i64 0)]) (H2 := [.map (mapL (fun k : St38 => .agg (encSt38 k)) (fun k : Int => .int .i64 k) x1)]) (by kernel_rfl) ?_
     refine kEN ?_
     refine kX ?_
     obtain rfl := oi h76
     exact K.retV (H0 := [.map (mapL (fun k : St38 => .agg (encSt38 k)) (fun k : Int => .int .i64 k) x1)]) [0] (.inr rfl) hFn hFH hFD (by kernel_rfl) (v1 := .int .i64 0) (by kernel_rfl) (by kernel_rfl) (by simp only [List.map_cons, List.map_nil, rn_mapL (ek := (fun k : St38 => .agg (encSt38 k))) (ev := (fun k : Int => .int .i64 k)) (fun _ _ => rfl) (fun _ _ => rfl)]; kernel_rfl) (by decide) (by simp only [List.all_cons, List.all_nil, refs_mapL (ek := (fun k : St38 => .agg (encSt38 k))) (ev := (fun k : Int => .int .i64 k)) (fun _ _ => rfl) (fun _ _ => rfl)]; kernel_rfl) (by kernel_rfl) (by kernel_rfl) (by kernel_rfl) (by kernel_rfl)

noncomputable def class_Of (x0 : Int) : Option (Int) :=
 (Option.bind class_ranges_s0 fun y1 => anyOrd (fun (ms4 : List (St38 × Int)) => (Option.bind (class_table__class_s0 x0 ms4) fun y7 => (some y7.1))) y1)
theorem class_Of_ok {x0 : Int} {r : Int} (h : class_Of x0 = some r) : SC Tryd.prog 12 [.int .i32 x0] [] (.int .i64 r) [] := by
 refine kFn (fn := Tryd.f12) (fun F hFn hFH hFD => ?_)
 unfold class_Of at h
 refine kSR ?_
 refine kC 1 [0,2] ?_
 refine kEN ?_
 refine kSR ?_
 obtain ⟨y1, hy2, h3⟩ := bindS h
 refine RJ.callG (d := (some 3)) (f := 21) (args := []) (args0 := []) (v0 := .mp 0) (v := .mp 0) (tr2 := []) (H0 := []) (H0' := [.pmap (mapL (fun k : St38 => .agg (encSt38 k)) (fun k : Int => .int .i64 k) y1)]) (H2 := [.pmap (mapL (fun k : St38 => .agg (encSt38 k)) (fun k : Int => .int .i64 k) y1)]) [] (by kernel_rfl) (by kernel_rfl) (by kernel_rfl) (by kernel_rfl) (by decide) (by kernel_rfl) (by kernel_rfl) (by kernel_rfl) .nil (class_ranges_s0_ok hy2) (by kernel_rfl) (by kernel_rfl) ((show frameH (selF []) 0 _ [.pmap (mapL (fun k : St38 => .agg (encSt38 k)) (fun k : Int => .int .i64 k) y1)] = [Ent.rn (gOf (selF []) 0 0) (.pmap (mapL (fun k : St38 => .agg (encSt38 k)) (fun k : Int => .int .i64 k) y1))] by kernel_rfl).trans (by simp only [rn_pmapL (ek := (fun k : St38 => .agg (encSt38 k))) (ev := (fun k : Int => .int .i64 k)) (fun _ _ => rfl) (fun _ _ => rfl)])) ?_
 refine RJ.openMap (ek := (fun k : St38 => .agg (encSt38 k))) (ev := (fun k : Int => .int .i64 k)) y1 0 (fun ms4 => [.map (mapL (fun k : St38 => .agg (encSt38 k)) (fun k : Int => .int .i64 k) ms4)]) (by kernel_rfl) (fun _ => by kernel_rfl) (fun ms4 hp5 => ?_)
 have h6 := anyOrd_all h3 ms4 hp5
 refine kC 1 [2,3,4] ?_
 obtain ⟨y7, hy8, h9⟩ := bindS h6
 refine RJ.callG (d := (some 5)) (f := 22) (args := [.mp 0, .int .i32 x0]) (args0 := [.mp 0, .int .i32 x0]) (v0 := .int .i64 y7.1) (v := .int .i64 y7.1) (tr2 := []) (H0 := [.map (mapL (fun k : St38 => .agg (encSt38 k)) (fun k : Int => .int .i64 k) ms4)]) (H0' := [.map (mapL (fun k : St38 => .agg (encSt38 k)) (fun k : Int => .int .i64 k) y7.2)]) (H2 := [.map (mapL (fun k : St38 => .agg (encSt38 k)) (fun k : Int => .int .i64 k) y7.2)]) [0] (by kernel_rfl) (by kernel_rfl) (by kernel_rfl) (by simp only [List.map_cons, List.map_nil, rn_mapL (ek := (fun k : St38 => .agg (encSt38 k))) (ev := (fun k : Int => .int .i64 k)) (fun _ _ => rfl) (fun _ _ => rfl)]; kernel_rfl) (by decide) (by simp only [List.all_cons, List.all_nil, refs_mapL (ek := (fun k : St38 => .agg (encSt38 k))) (ev := (fun k : Int => .int .i64 k)) (fun _ _ => rfl) (fun _ _ => rfl)]; kernel_rfl) (by kernel_rfl) (by kernel_rfl) (.cons (Le.refl _) (.cons (Le.refl _) .nil)) (class_table__class_s0_ok hy8) (by kernel_rfl) (by kernel_rfl) ((show frameH (selF [0]) 1 _ [.map (mapL (fun k : St38 => .agg (encSt38 k)) (fun k : Int => .int .i64 k) y7.2)] = [Ent.rn (gOf (selF [0]) 1 1) (.map (mapL (fun k : St38 => .agg (encSt38 k)) (fun k : Int => .int .i64 k) y7.2))] by kernel_rfl).trans (by simp only [rn_mapL (ek := (fun k : St38 => .agg (encSt38 k))) (ev := (fun k : Int => .int .i64 k)) (fun _ _ => rfl) (fun _ _ => rfl)])) ?_
 refine kC 1 [2] ?_
 refine kEN ?_
 refine kX ?_
 obtain rfl := oi h9
 exact kZ hFn hFH hFD

def class_Zero (x0 : Int) : Option (Bool) :=
 (Option.bind (class_Value x0) fun y1 => (Option.bind (bif y1.2 then (some (decide (y1.1 = 0))) else (some false)) fun (s7 : Bool) => (some s7)))
theorem class_Zero_ok {x0 : Int} {r : Bool} (h : class_Zero x0 = some r) : SC Tryd.prog 14 [.int .i32 x0] [] (.bool r) [] := by
 refine kFn (fn := Tryd.f14) (fun F hFn hFH hFD => ?_)
 unfold class_Zero at h
 refine kSR ?_
 refine kC 1 [0,2] ?_
 refine kEN ?_
 refine kSR ?_
 refine kC 1 [2,6] ?_
 obtain ⟨y1, hy2, h3⟩ := bindS h
 refine RJ.call0 (d := (some 7)) (f := 10) (args := [.int .i32 x0]) (v := .tup [.int .i64 y1.1, .bool y1.2]) (tr2 := []) (by kernel_rfl) (by kernel_rfl) (.cons (Le.refl _) .nil) (class_Value_ok hy2) (by kernel_rfl) ?_
 refine kC 5 [2,3,4] ?_
 refine kEN ?_
 obtain ⟨s7, hy9, h11⟩ := bindS h3
 refine K.cutN (by kernel_rfl) (fun (s7 : Bool) => ([(2, .bool s7)], [])) s7 ?_ ?_
 ·refine kR ?_
  refine RJ.seg 2 [2, 3, 11] (L2 := [(2, .bool false), (3, .int .i64 y1.1), (11, .bool y1.2)]) (H2 := []) (by kernel_rfl) ?_
  refine RJ.caseB 11 (b := y1.2) (by kernel_rfl) (fun hb12 => ?_) (fun hb12 => ?_)
  ·have h13 := condT hb12 hy9
   refine kC 4 [2] ?_
   refine kE ?_
   obtain rfl := oi h13
   exact kN [2]
  ·have h14 := condF hb12 hy9
   refine kC 4 [2] ?_
   refine kE ?_
   obtain rfl := oi h14
   exact kN [2]
 ·refine kX ?_
  obtain rfl := oi h11
  exact kZ hFn hFH hFD

noncomputable def class_Calm (x0 : List Int) : Option (Bool) :=
 (Option.bind class_ranges_s0 fun y1 => anyOrd (fun (ms4 : List (St38 × Int)) => (Option.bind (loopN (fun (s249 : Int × (List (St38 × Int))) => (bif (decide (s249.1 < (x0.length : Int))) then (Option.bind (bif inR s249.1 x0.length then (Option.bind (class_table__class_s0 (nth x0 s249.1) s249.2) fun y451 => (Option.bind (bif (decide (y451.1 = 0)) then (some true) else (bif (decide (y451.1 = 4)) then (some true) else (bif (decide (y451.1 = 5)) then (some true) else (some (decide (y451.1 = 2)))))) fun (s463 : Bool) => (bif s463 then (some (.inl y451.2)) else (some (.inr (.inr (.inr false))))))) else none) (joinX fun (s445 : (List (St38 × Int))) => (some (.inl ((IntKind.wrap .i64 (s249.1 + 1)), s445))))) else (some (.inr (.inl ()))))) big (0, ms4)) (joinX fun (s244 : Unit) => (some true)))) y1)
theorem class_Calm_ok {x0 : List Int} {r : Bool} (h : class_Calm x0 = some r) : SC Tryd.prog 16 [lsv (encI .i32) 1 x0] [] (.bool r) [] := by
 refine kFn (fn := Tryd.f16) (fun F hFn hFH hFD => ?_)
 unfold class_Calm at h
 refine kSR ?_
 refine kC 1 [0,2] ?_
 refine kEN ?_
 refine kSR ?_
 obtain ⟨y1, hy2, h3⟩ := bindS h
 refine RJ.callG (d := (some 6)) (f := 21) (args := []) (args0 := []) (v0 := .mp 0) (v := .mp 0) (tr2 := []) (H0 := []) (H0' := [.pmap (mapL (fun k : St38 => .agg (encSt38 k)) (fun k : Int => .int .i64 k) y1)]) (H2 := [.pmap (mapL (fun k : St38 => .agg (encSt38 k)) (fun k : Int => .int .i64 k) y1)]) [] (by kernel_rfl) (by kernel_rfl) (by kernel_rfl) (by kernel_rfl) (by decide) (by kernel_rfl) (by kernel_rfl) (by kernel_rfl) .nil (class_ranges_s0_ok hy2) (by kernel_rfl) (by kernel_rfl) ((show frameH (selF []) 0 _ [.pmap (mapL (fun k : St38 => .agg (encSt38 k)) (fun k : Int => .int .i64 k) y1)] = [Ent.rn (gOf (selF []) 0 0) (.pmap (mapL (fun k : St38 => .agg (encSt38 k)) (fun k : Int => .int .i64 k) y1))] by kernel_rfl).trans (by simp only [rn_pmapL (ek := (fun k : St38 => .agg (encSt38 k))) (ev := (fun k : Int => .int .i64 k)) (fun _ _ => rfl) (fun _ _ => rfl)])) ?_
 refine RJ.openMap (ek := (fun k : St38 => .agg (encSt38 k))) (ev := (fun k : Int => .int .i64 k)) y1 0 (fun ms4 => [.map (mapL (fun k : St38 => .agg (encSt38 k)) (fun k : Int => .int .i64 k) ms4)]) (by kernel_rfl) (fun _ => by kernel_rfl) (fun ms4 hp5 => ?_)
 have h6 := anyOrd_all h3 ms4 hp5
 refine kC 1 [0,2,3] ?_
 refine kEN ?_
 obtain ⟨y245, hy246, h247⟩ := bindS h6
 refine K.cutX (by kernel_rfl) (fun (s244 : Unit) => ([(2, .bool false)], [])) y245 ?_ (fun s244 hs => ?_)
 ·refine kSR ?_
  refine kC 3 [2,3,7,8,9] ?_
  refine kEN ?_
  refine K.block 0 (by kernel_rfl) ?_
  refine K.loop (by kernel_rfl) (fun (s249 : Int × (List (St38 × Int))) => ([(2, .bool false), (3, .mp 0), (7, lsv (encI .i32) 1 x0), (8, .int .i64 (x0.length : Int)), (9, .int .i64 s249.1)], [.map (mapL (fun k : St38 => .agg (encSt38 k)) (fun k : Int => .int .i64 k) s249.2)])) hy246 [2, 3, 7, 8, 9] (by kernel_rfl) (by kernel_rfl) (fun s249 x407 hs406 => ?_)
  refine kSR ?_
  refine kC 1 [2,3,7,8,9,10] ?_
  refine kEN ?_
  refine kS ?_
  refine J.caseB 10 (b := (decide (s249.1 < (x0.length : Int)))) (by kernel_rfl) (fun hb408 => ?_) (fun hb408 => ?_)
  ·have h409 := condT hb408 hs406
   refine kT ?_
   refine kK ?_
   refine PJ.next ?_
   obtain ⟨y446, hy447, h448⟩ := bindS h409
   refine K.cutX (by kernel_rfl) (fun (s445 : (List (St38 × Int))) => ([(2, .bool false), (3, .mp 0), (7, lsv (encI .i32) 1 x0), (8, .int .i64 (x0.length : Int)), (9, .int .i64 s249.1)], [.map (mapL (fun k : St38 => .agg (encSt38 k)) (fun k : Int => .int .i64 k) s445)])) y446 ?_ (fun s445 hs => ?_)
   ·refine K.block 1 (by kernel_rfl) ?_
    refine kSR ?_
    obtain ⟨hm, h450⟩ := asrt hy447
    refine RJ.rel (d := (some 11)) (ef := ⟨.ep (((x0.flatMap (encI .i32)).drop ((s249.1 : Int).toNat * 1)).take 1), [], []⟩) (ef' := ⟨.ep ((encI .i32) (nth x0 s249.1)), [], []⟩) (c := inR s249.1 x0.length) (tr2 := []) (H2 := [.map (mapL (fun k : St38 => .agg (encSt38 k)) (fun k : Int => .int .i64 k) s249.2)]) (by kernel_rfl) hm (fun hc => N.idx (encI_len .i32) hc) (by kernel_rfl) ?_
    refine kC 2 [2,3,5,7,8,9] ?_
    refine kEN ?_
    refine kSR ?_
    refine kC 2 [2,3,7,8,9,13,14] ?_
    obtain ⟨y451, hy452, h453⟩ := bindS h450
    refine RJ.callG (d := (some 15)) (f := 22) (args := [.mp 0, .int .i32 (nth x0 s249.1)]) (args0 := [.mp 0, .int .i32 (nth x0 s249.1)]) (v0 := .int .i64 y451.1) (v := .int .i64 y451.1) (tr2 := []) (H0 := [.map (mapL (fun k : St38 => .agg (encSt38 k)) (fun k : Int => .int .i64 k) s249.2)]) (H0' := [.map (mapL (fun k : St38 => .agg (encSt38 k)) (fun k : Int => .int .i64 k) y451.2)]) (H2 := [.map (mapL (fun k : St38 => .agg (encSt38 k)) (fun k : Int => .int .i64 k) y451.2)]) [0] (by kernel_rfl) (by kernel_rfl) (by kernel_rfl) (by simp only [List.map_cons, List.map_nil, rn_mapL (ek := (fun k : St38 => .agg (encSt38 k))) (ev := (fun k : Int => .int .i64 k)) (fun _ _ => rfl) (fun _ _ => rfl)]; kernel_rfl) (by decide) (by simp only [List.all_cons, List.all_nil, refs_mapL (ek := (fun k : St38 => .agg (encSt38 k))) (ev := (fun k : Int => .int .i64 k)) (fun _ _ => rfl) (fun _ _ => rfl)]; kernel_rfl) (by kernel_rfl) (by kernel_rfl) (.cons (Le.refl _) (.cons (Le.refl _) .nil)) (class_table__class_s0_ok hy452) (by kernel_rfl) (by kernel_rfl) ((show frameH (selF [0]) 1 _ [.map (mapL (fun k : St38 => .agg (encSt38 k)) (fun k : Int => .int .i64 k) y451.2)] = [Ent.rn (gOf (selF [0]) 1 1) (.map (mapL (fun k : St38 => .agg (encSt38 k)) (fun k : Int => .int .i64 k) y451.2))] by kernel_rfl).trans (by simp only [rn_mapL (ek := (fun k : St38 => .agg (encSt38 k))) (ev := (fun k : Int => .int .i64 k)) (fun _ _ => rfl) (fun _ _ => rfl)])) ?_
    refine kEN ?_
    refine K.block 2 (by kernel_rfl) ?_
    obtain ⟨s463, hy465, h467⟩ := bindS h453
    refine K.cutN (by kernel_rfl) (fun (s463 : Bool) => ([(2, .bool false), (3, .mp 0), (7, lsv (encI .i32) 1 x0), (8, .int .i64 (x0.length : Int)), (9, .int .i64 s249.1), (16, .bool s463)], [.map (mapL (fun k : St38 => .agg (encSt38 k)) (fun k : Int => .int .i64 k) y451.2)])) s463 ?_ ?_
    ·refine kSR ?_
     refine RJ.seg 2 [2, 3, 7, 8, 9, 15, 16] (L2 := [(2, .bool false), (3, .mp 0), (7, lsv (encI .i32) 1 x0), (8, .int .i64 (x0.length : Int)), (9, .int .i64 s249.1), (15, .int .i64 y451.1), (16, .bool (decide (y451.1 = 0)))]) (H2 := [.map (mapL (fun k : St38 => .agg (encSt38 k)) (fun k : Int => .int .i64 k) y451.2)]) (by kernel_rfl) ?_
     refine kEN ?_
     refine J.caseB 16 (b := (decide (y451.1 = 0))) (by kernel_rfl) (fun hb468 => ?_) (fun hb468 => ?_)
     ·have h469 := condT hb468 hy465
      refine kT ?_
      refine kK ?_
      obtain rfl := oi h469
      exact kN [2, 3, 7, 8, 9, 16]
     ·have h470 := condF hb468 hy465
      refine kF ?_
      refine kSR ?_
      refine kC 2 [2,3,7,8,9,15,16] ?_
      refine kEN ?_
      refine J.caseB 16 (b := (decide (y451.1 = 4))) (by kernel_rfl) (fun hb471 => ?_) (fun hb471 => ?_)
      ·have h472 := condT hb471 h470
       refine kT ?_
       refine kK ?_
       obtain rfl := oi h472
       exact kN [2, 3, 7, 8, 9, 16]
      ·have h473 := condF hb471 h470
       refine kF ?_
       refine kSR ?_
       refine kC 2 [2,3,7,8,9,15,16] ?_
       refine kEN ?_
       refine J.caseB 16 (b := (decide (y451.1 = 5))) (by kernel_rfl) (fun hb474 => ?_) (fun hb474 => ?_)
       ·have h475 := condT hb474 h473
        refine kT ?_
        refine kK ?_
        obtain rfl := oi h475
        exact kN [2, 3, 7, 8, 9, 16]
       ·have h476 := condF hb474 h473
        refine kF ?_
        refine kR ?_
        refine kC 2 [2,3,7,8,9,16] ?_
        refine kE ?_
        obtain rfl := oi h476
        exact kN [2, 3, 7, 8, 9, 16]
    ·refine J.caseB 16 (b := s463) (by kernel_rfl) (fun hb477 => ?_) (fun hb477 => ?_)
     ·have h478 := condT hb477 h467
      refine kT ?_
      refine kK ?_
      refine PJ.blockNormal ?_
      refine PJ.blockNormal ?_
      obtain rfl := oi h478
      exact PJ.cutXl [2, 3, 7, 8, 9] (by kernel_rfl) (by kernel_rfl)
     ·have h479 := condF hb477 h467
      refine kF ?_
      refine kSR ?_
      refine kC 1 [2,3,7,8,9] ?_
      refine kEN ?_
      refine kX ?_
      refine PJ.blockRet ?_
      refine PJ.blockRet ?_
      obtain rfl := oi h479
      have h480 := joinX_inr h448
      refine PJ.cutXr (fun e => nomatch e) ?_
      obtain rfl := oi h480
      refine PJ.loopOut (fun e => nomatch e) (fun he483 => ?_)
      have h481 := congrArg some he483
      refine PJ.blockRet ?_
      obtain rfl := oi h481
      have h482 := joinX_inr h247
      refine PJ.cutXr (fun e => nomatch e) ?_
      obtain rfl := oi h482
      exact kZ hFn hFH hFD
   ·subst hs
    have h449 := joinX_inl h448
    refine kR ?_
    refine kC 2 [2,3,7,8,9] ?_
    refine kE ?_
    obtain rfl := oi h449
    exact PJ.loopNext [2, 3, 7, 8, 9] (by kernel_rfl) (by kernel_rfl)
  ·have h410 := condF hb408 hs406
   refine kF ?_
   refine K.exit 0 (by kernel_rfl) ?_
   refine PJ.passExit ?_
   obtain rfl := oi h410
   refine PJ.loopOut (fun e => nomatch e) (fun he485 => ?_)
   have h484 := congrArg some he485
   refine PJ.blockOut ?_
   obtain rfl := oi h484
   refine PJ.wk (Wk.sel (L2 := [(2, .bool false)]) (H2 := []) 0 (by rw [hFH]; rfl) hFD [] (by kernel_rfl) (by kernel_rfl) (by decide) (by kernel_rfl) (by kernel_rfl) (by kernel_rfl) (by kernel_rfl)) ?_
   exact PJ.cutXl [2] (by kernel_rfl) (by kernel_rfl)
 ·subst hs
  have h248 := joinX_inl h247
  refine kSR ?_
  refine kC 1 [2] ?_
  refine kEN ?_
  refine kX ?_
  obtain rfl := oi h248
  exact kZ hFn hFH hFD

def class_Turns (x0 : List Int) : Option (Bool) :=
 (Option.bind (loopN (fun (s363 : Int × Int) => (bif (decide (s363.2 < (x0.length : Int))) then (Option.bind (bif inR s363.2 x0.length then (Option.bind (bif (decide (8234 ≤ (nth x0 s363.2))) then (some ((decide ((nth x0 s363.2) ≤ 8238)))) else (some false)) fun (s668 : Bool) => (bif s668 then (some (.inr (.inr (.inr false)))) else (Option.bind (bif (decide (8294 ≤ (nth x0 s363.2))) then (some ((decide ((nth x0 s363.2) ≤ 8296)))) else (some false)) fun (s686 : Bool) => (bif s686 then (some (.inl (IntKind.wrap .i64 (s363.1 + 1)))) else (Option.bind (bif (decide ((nth x0 s363.2) = 8297)) then (some (decide (s363.1 = 0))) else (some false)) fun (s700 : Bool) => (bif s700 then (some (.inr (.inr (.inr false)))) else (bif (decide ((nth x0 s363.2) = 8297)) then (some (.inl (IntKind.wrap .i64 (s363.1 - 1)))) else (some (.inl s363.1))))))))) else none) (joinX fun (s659 : Int) => (some (.inl (s659, (IntKind.wrap .i64 (s363.2 + 1))))))) else (some (.inr (.inl s363.1))))) big (0, 0)) (joinX fun (s358 : Int) => (some (decide (s358 = 0)))))
theorem class_Turns_ok {x0 : List Int} {r : Bool} (h : class_Turns x0 = some r) : SC Tryd.prog 18 [lsv (encI .i32) 1 x0] [] (.bool r) [] := by
 refine kFn (fn := Tryd.f18) (fun F hFn hFH hFD => ?_)
 unfold class_Turns at h
 refine kSR ?_
 refine kC 1 [0,2] ?_
 refine kEN ?_
 refine kSR ?_
 refine kC 1 [0,2,3] ?_
 refine kEN ?_
 obtain ⟨y359, hy360, h361⟩ := bindS h
 refine K.cutX (by kernel_rfl) (fun (s358 : Int) => ([(2, .bool false), (3, .int .i64 s358)], [])) y359 ?_ (fun s358 hs => ?_)
 ·refine kSR ?_
  refine kC 3 [2,3,6,7,8] ?_
  refine kEN ?_
  refine K.block 0 (by kernel_rfl) ?_
  refine K.loop (by kernel_rfl) (fun (s363 : Int × Int) => ([(2, .bool false), (3, .int .i64 s363.1), (6, lsv (encI .i32) 1 x0), (7, .int .i64 (x0.length : Int)), (8, .int .i64 s363.2)], [])) hy360 [2, 3, 6, 7, 8] (by kernel_rfl) (by kernel_rfl) (fun s363 x601 hs600 => ?_)
  refine kSR ?_
  refine kC 1 [2,3,6,7,8,9] ?_
  refine kEN ?_
  refine kS ?_
  refine J.caseB 9 (b := (decide (s363.2 < (x0.length : Int)))) (by kernel_rfl) (fun hb602 => ?_) (fun hb602 => ?_)
  ·have h603 := condT hb602 hs600
   refine kT ?_
   refine kK ?_
   refine PJ.next ?_
   obtain ⟨y660, hy661, h662⟩ := bindS h603
   refine K.cutX (by kernel_rfl) (fun (s659 : Int) => ([(2, .bool false), (3, .int .i64 s659), (6, lsv (encI .i32) 1 x0), (7, .int .i64 (x0.length : Int)), (8, .int .i64 s363.2)], [])) y660 ?_ (fun s659 hs => ?_)
   ·refine K.block 1 (by kernel_rfl) ?_
    refine kSR ?_
    obtain ⟨hm, h664⟩ := asrt hy661
    refine RJ.rel (d := (some 10)) (ef := ⟨.ep (((x0.flatMap (encI .i32)).drop ((s363.2 : Int).toNat * 1)).take 1), [], []⟩) (ef' := ⟨.ep ((encI .i32) (nth x0 s363.2)), [], []⟩) (c := inR s363.2 x0.length) (tr2 := []) (H2 := []) (by kernel_rfl) hm (fun hc => N.idx (encI_len .i32) hc) (by kernel_rfl) ?_
    refine kC 2 [2,3,5,6,7,8] ?_
    refine kEN ?_
    refine K.block 2 (by kernel_rfl) ?_
    obtain ⟨s668, hy670, h672⟩ := bindS h664
    refine K.cutN (by kernel_rfl) (fun (s668 : Bool) => ([(2, .bool false), (3, .int .i64 s363.1), (5, .int .i32 (nth x0 s363.2)), (6, lsv (encI .i32) 1 x0), (7, .int .i64 (x0.length : Int)), (8, .int .i64 s363.2), (12, .bool s668)], [])) s668 ?_ ?_
    ·refine kR ?_
     refine kC 3 [2,3,5,6,7,8,15] ?_
     refine RJ.caseB 15 (b := (decide (8234 ≤ (nth x0 s363.2)))) (by kernel_rfl) (fun hb673 => ?_) (fun hb673 => ?_)
     ·have h674 := condT hb673 hy670
      refine RJ.seg 4 [2, 3, 5, 6, 7, 8, 12] (L2 := [(2, .bool false), (3, .int .i64 s363.1), (5, .int .i32 (nth x0 s363.2)), (6, lsv (encI .i32) 1 x0), (7, .int .i64 (x0.length : Int)), (8, .int .i64 s363.2), (12, .bool ((decide ((nth x0 s363.2) ≤ 8238))))]) (H2 := []) (by kernel_rfl) ?_
      refine kE ?_
      obtain rfl := oi h674
      exact kN [2, 3, 5, 6, 7, 8, 12]
     ·have h675 := condF hb673 hy670
      refine RJ.seg 4 [2, 3, 5, 6, 7, 8, 12] (L2 := [(2, .bool false), (3, .int .i64 s363.1), (5, .int .i32 (nth x0 s363.2)), (6, lsv (encI .i32) 1 x0), (7, .int .i64 (x0.length : Int)), (8, .int .i64 s363.2), (12, .bool false)]) (H2 := []) (by kernel_rfl) ?_
      refine kE ?_
      obtain rfl := oi h675
      exact kN [2, 3, 5, 6, 7, 8, 12]
    ·refine J.caseB 12 (b := s668) (by kernel_rfl) (fun hb676 => ?_) (fun hb676 => ?_)
     ·have h677 := condT hb676 h672
      refine kT ?_
      refine kSR ?_
      refine kC 1 [2,3,6,7,8] ?_
      refine kEN ?_
      refine kX ?_
      refine PJ.blockRet ?_
      refine PJ.blockRet ?_
      obtain rfl := oi h677
      have h679 := joinX_inr h662
      refine PJ.cutXr (fun e => nomatch e) ?_
      obtain rfl := oi h679
      refine PJ.loopOut (fun e => nomatch e) (fun he682 => ?_)
      have h680 := congrArg some he682
      refine PJ.blockRet ?_
      obtain rfl := oi h680
      have h681 := joinX_inr h361
      refine PJ.cutXr (fun e => nomatch e) ?_
      obtain rfl := oi h681
      exact kZ hFn hFH hFD
     ·have h678 := condF hb676 h672
      refine kF ?_
      obtain ⟨s686, hy688, h690⟩ := bindS h678
      refine K.cutN (by kernel_rfl) (fun (s686 : Bool) => ([(2, .bool false), (3, .int .i64 s363.1), (5, .int .i32 (nth x0 s363.2)), (6, lsv (encI .i32) 1 x0), (7, .int .i64 (x0.length : Int)), (8, .int .i64 s363.2), (19, .bool s686)], [])) s686 ?_ ?_
      ·refine kR ?_
       refine kC 3 [2,3,5,6,7,8,22] ?_
       refine RJ.caseB 22 (b := (decide (8294 ≤ (nth x0 s363.2)))) (by kernel_rfl) (fun hb691 => ?_) (fun hb691 => ?_)
       ·have h692 := condT hb691 hy688
        refine kC 4 [2,3,5,6,7,8,19] ?_
        refine kE ?_
        obtain rfl := oi h692
        exact kN [2, 3, 5, 6, 7, 8, 19]
       ·have h693 := condF hb691 hy688
        refine kC 4 [2,3,5,6,7,8,19] ?_
        refine kE ?_
        obtain rfl := oi h693
        exact kN [2, 3, 5, 6, 7, 8, 19]
      ·refine J.caseB 19 (b := s686) (by kernel_rfl) (fun hb694 => ?_) (fun hb694 => ?_)
       ·have h695 := condT hb694 h690
        refine kT ?_
        refine kR ?_
        refine kC 3 [2,3,6,7,8] ?_
        refine kE ?_
        refine PJ.blockNormal ?_
        refine PJ.blockNormal ?_
        obtain rfl := oi h695
        exact PJ.cutXl [2, 3, 6, 7, 8] (by kernel_rfl) (by kernel_rfl)
       ·have h696 := condF hb694 h690
        refine kF ?_
        obtain ⟨s700, hy702, h704⟩ := bindS h696
        refine K.cutN (by kernel_rfl) (fun (s700 : Bool) => ([(2, .bool false), (3, .int .i64 s363.1), (5, .int .i32 (nth x0 s363.2)), (6, lsv (encI .i32) 1 x0), (7, .int .i64 (x0.length : Int)), (8, .int .i64 s363.2), (28, .bool s700)], [])) s700 ?_ ?_
        ·refine kR ?_
         refine kC 3 [2,3,5,6,7,8,31] ?_
         refine RJ.caseB 31 (b := (decide ((nth x0 s363.2) = 8297))) (by kernel_rfl) (fun hb705 => ?_) (fun hb705 => ?_)
         ·have h706 := condT hb705 hy702
          refine kC 4 [2,3,5,6,7,8,28] ?_
          refine kE ?_
          obtain rfl := oi h706
          exact kN [2, 3, 5, 6, 7, 8, 28]
         ·have h707 := condF hb705 hy702
          refine kC 4 [2,3,5,6,7,8,28] ?_
          refine kE ?_
          obtain rfl := oi h707
          exact kN [2, 3, 5, 6, 7, 8, 28]
        ·refine J.caseB 28 (b := s700) (by kernel_rfl) (fun hb708 => ?_) (fun hb708 => ?_)
         ·have h709 := condT hb708 h704
          refine kT ?_
          refine kSR ?_
          refine kC 1 [2,3,6,7,8] ?_
          refine kEN ?_
          refine kX ?_
          refine PJ.blockRet ?_
          refine PJ.blockRet ?_
          obtain rfl := oi h709
          have h711 := joinX_inr h662
          refine PJ.cutXr (fun e => nomatch e) ?_
          obtain rfl := oi h711
          refine PJ.loopOut (fun e => nomatch e) (fun he714 => ?_)
          have h712 := congrArg some he714
          refine PJ.blockRet ?_
          obtain rfl := oi h712
          have h713 := joinX_inr h361
          refine PJ.cutXr (fun e => nomatch e) ?_
          obtain rfl := oi h713
          exact kZ hFn hFH hFD
         ·have h710 := condF hb708 h704
          refine kF ?_
          refine kSR ?_
          refine kC 3 [2,3,6,7,8,35] ?_
          refine kEN ?_
          refine J.caseB 35 (b := (decide ((nth x0 s363.2) = 8297))) (by kernel_rfl) (fun hb715 => ?_) (fun hb715 => ?_)
          ·have h716 := condT hb715 h710
           refine kT ?_
           refine kR ?_
           refine kC 3 [2,3,6,7,8] ?_
           refine kE ?_
           refine PJ.blockNormal ?_
           refine PJ.blockNormal ?_
           obtain rfl := oi h716
           exact PJ.cutXl [2, 3, 6, 7, 8] (by kernel_rfl) (by kernel_rfl)
          ·have h717 := condF hb715 h710
           refine kF ?_
           refine kK ?_
           refine PJ.blockNormal ?_
           refine PJ.blockNormal ?_
           obtain rfl := oi h717
           exact PJ.cutXl [2, 3, 6, 7, 8] (by kernel_rfl) (by kernel_rfl)
   ·subst hs
    have h663 := joinX_inl h662
    refine kR ?_
    refine kC 2 [2,3,6,7,8] ?_
    refine kE ?_
    obtain rfl := oi h663
    exact PJ.loopNext [2, 3, 6, 7, 8] (by kernel_rfl) (by kernel_rfl)
  ·have h604 := condF hb602 hs600
   refine kF ?_
   refine K.exit 0 (by kernel_rfl) ?_
   refine PJ.passExit ?_
   obtain rfl := oi h604
   refine PJ.loopOut (fun e => nomatch e) (fun he719 => ?_)
   have h718 := congrArg some he719
   refine PJ.blockOut ?_
   obtain rfl := oi h718
   exact PJ.cutXl [2, 3] (by kernel_rfl) (by kernel_rfl)
 ·subst hs
  have h362 := joinX_inl h361
  refine kSR ?_
  refine kC 3 [2] ?_
  refine kEN ?_
  refine kX ?_
  obtain rfl := oi h362
  exact kZ hFn hFH hFD

noncomputable def exerguelaw02_shown  : Option (Bool) :=
 (Option.bind (class_Value 51) fun y1 => (Option.bind (Option.bind (class_Of 65) fun y48 => (bif (decide (y48 = 0)) then (Option.bind (class_Of 32) fun y54 => (bif (decide (y54 = 4)) then (Option.bind (class_Of 7) fun y60 => (bif (decide (y60 = 1)) then (bif y1.2 then (bif (decide (y1.1 = 3)) then (Option.bind (class_Zero 48) fun y72 => (bif y72 then (Option.bind (class_Calm ([65] : List Int)) fun y78 => (bif y78 then (Option.bind (class_Turns ([] : List Int)) fun y84 => (some y84)) else (some false))) else (some false))) else (some false)) else (some false)) else (some false))) else (some false))) else (some false))) fun (s43 : Bool) => (some s43)))
theorem exerguelaw02_shown_ok  {r : Bool} (h : exerguelaw02_shown = some r) : SC Tryd.prog 9 [] [] (.bool r) [] := by
 refine kFn (fn := Tryd.f9) (fun F hFn hFH hFD => ?_)
 unfold exerguelaw02_shown at h
 refine kSR ?_
 refine kC 1 [0] ?_
 refine kEN ?_
 refine kSR ?_
 obtain ⟨y1, hy2, h3⟩ := bindS h
 refine RJ.call0 (d := (some 4)) (f := 10) (args := [.int .i32 51]) (v := .tup [.int .i64 y1.1, .bool y1.2]) (tr2 := []) (by kernel_rfl) (by kernel_rfl) (.cons (Le.refl _) .nil) (class_Value_ok hy2) (by kernel_rfl) ?_
 refine kC 5 [0,1,2] ?_
 refine kEN ?_
 obtain ⟨s43, hy45, h47⟩ := bindS h3
 refine K.cutN (by kernel_rfl) (fun (s43 : Bool) => ([(0, .bool s43)], [])) s43 ?_ ?_
 ·refine kR ?_
  obtain ⟨y48, hy49, h50⟩ := bindS hy45
  refine RJ.call0 (d := (some 7)) (f := 12) (args := [.int .i32 65]) (v := .int .i64 y48) (tr2 := []) (by kernel_rfl) (by kernel_rfl) (.cons (Le.refl _) .nil) (class_Of_ok hy49) (by kernel_rfl) ?_
  refine kC 2 [0,1,2,9] ?_
  refine RJ.caseB 9 (b := (decide (y48 = 0))) (by kernel_rfl) (fun hb51 => ?_) (fun hb51 => ?_)
  ·have h52 := condT hb51 h50
   obtain ⟨y54, hy55, h56⟩ := bindS h52
   refine RJ.call0 (d := (some 10)) (f := 12) (args := [.int .i32 32]) (v := .int .i64 y54) (tr2 := []) (by kernel_rfl) (by kernel_rfl) (.cons (Le.refl _) .nil) (class_Of_ok hy55) (by kernel_rfl) ?_
   refine RJ.seg 3 [0, 1, 2, 13] (L2 := [(0, .bool false), (1, .int .i64 y1.1), (2, .bool y1.2), (13, .bool (decide (y54 = 4)))]) (H2 := []) (by kernel_rfl) ?_
   refine RJ.caseB 13 (b := (decide (y54 = 4))) (by kernel_rfl) (fun hb57 => ?_) (fun hb57 => ?_)
   ·have h58 := condT hb57 h56
    obtain ⟨y60, hy61, h62⟩ := bindS h58
    refine RJ.call0 (d := (some 14)) (f := 12) (args := [.int .i32 7]) (v := .int .i64 y60) (tr2 := []) (by kernel_rfl) (by kernel_rfl) (.cons (Le.refl _) .nil) (class_Of_ok hy61) (by kernel_rfl) ?_
    refine kC 3 [0,1,2,17] ?_
    refine RJ.caseB 17 (b := (decide (y60 = 1))) (by kernel_rfl) (fun hb63 => ?_) (fun hb63 => ?_)
    ·have h64 := condT hb63 h62
     refine kC 3 [0,1,20] ?_
     refine RJ.caseB 20 (b := y1.2) (by kernel_rfl) (fun hb66 => ?_) (fun hb66 => ?_)
     ·have h67 := condT hb66 h64
      refine kC 4 [0,24] ?_
      refine RJ.caseB 24 (b := (decide (y1.1 = 3))) (by kernel_rfl) (fun hb69 => ?_) (fun hb69 => ?_)
      ·have h70 := condT hb69 h67
       obtain ⟨y72, hy73, h74⟩ := bindS h70
       refine RJ.call0 (d := (some 25)) (f := 14) (args := [.int .i32 48]) (v := .bool y72) (tr2 := []) (by kernel_rfl) (by kernel_rfl) (.cons (Le.refl _) .nil) (class_Zero_ok hy73) (by kernel_rfl) ?_
       refine RJ.seg 2 [0, 27] (L2 := [(0, .bool false), (27, .bool y72)]) (H2 := []) (by kernel_rfl) ?_
       refine RJ.caseB 27 (b := y72) (by kernel_rfl) (fun hb75 => ?_) (fun hb75 => ?_)
       ·have h76 := condT hb75 h74
        refine kC 1 [0,27,28] ?_
        obtain ⟨y78, hy79, h80⟩ := bindS h76
        refine RJ.callL (d := (some 29)) (f := 16) (args := [.vc 0]) (args0 := [.vc 0]) (args1 := [lsv (encI .i32) 1 ([65] : List Int)]) (H0 := [vecL (encI .i32) 1 21 ([65] : List Int)]) (v := .bool y78) (tr2 := []) [0] (by kernel_rfl) (by kernel_rfl) (by kernel_rfl) (by kernel_rfl) (by decide) (by kernel_rfl) (by kernel_rfl) (by kernel_rfl) (by kernel_rfl) (.cons (Le.refl _) .nil) (class_Calm_ok hy79) (by kernel_rfl) (by kernel_rfl) ?_
        refine kC 2 [0,31] ?_
        refine RJ.caseB 31 (b := y78) (by kernel_rfl) (fun hb81 => ?_) (fun hb81 => ?_)
        ·have h82 := condT hb81 h80
         obtain ⟨y84, hy85, h86⟩ := bindS h82
         refine RJ.call0 (d := (some 32)) (f := 18) (args := [.nl]) (v := .bool y84) (tr2 := []) (by kernel_rfl) (by kernel_rfl) (.cons (Le.nl _) .nil) (class_Turns_ok hy85) (by kernel_rfl) ?_
         refine kC 2 [0] ?_
         refine kE ?_
         obtain rfl := oi h86
         refine PJ.wk (Wk.sel (L2 := [(0, .bool y84)]) (H2 := []) 0 (by rw [hFH]; rfl) hFD [] (by kernel_rfl) (by kernel_rfl) (by decide) (by kernel_rfl) (by kernel_rfl) (by kernel_rfl) (by kernel_rfl)) ?_
         exact kN [0]
        ·have h83 := condF hb81 h80
         refine kC 3 [0] ?_
         refine kE ?_
         obtain rfl := oi h83
         refine PJ.wk (Wk.sel (L2 := [(0, .bool false)]) (H2 := []) 0 (by rw [hFH]; rfl) hFD [] (by kernel_rfl) (by kernel_rfl) (by decide) (by kernel_rfl) (by kernel_rfl) (by kernel_rfl) (by kernel_rfl)) ?_
         exact kN [0]
       ·have h77 := condF hb75 h74
        refine kC 7 [0] ?_
        refine kE ?_
        obtain rfl := oi h77
        exact kN [0]
      ·have h71 := condF hb69 h67
       refine RJ.seg 10 [0] (L2 := [(0, .bool false)]) (H2 := []) (by kernel_rfl) ?_
       refine kE ?_
       obtain rfl := oi h71
       exact kN [0]
     ·have h68 := condF hb66 h64
      refine kC 14 [0] ?_
      refine kE ?_
      obtain rfl := oi h68
      exact kN [0]
    ·have h65 := condF hb63 h62
     refine kC 17 [0] ?_
     refine kE ?_
     obtain rfl := oi h65
     exact kN [0]
   ·have h59 := condF hb57 h56
    refine kC 21 [0] ?_
    refine kE ?_
    obtain rfl := oi h59
    exact kN [0]
  ·have h53 := condF hb51 h50
   refine RJ.seg 25 [0] (L2 := [(0, .bool false)]) (H2 := []) (by kernel_rfl) ?_
   refine kE ?_
   obtain rfl := oi h53
   exact kN [0]
 ·refine kX ?_
  obtain rfl := oi h47
  exact kZ hFn hFH hFD

def exergueref02_noughts  : Option (List Int) :=
 (some ([48, 1632, 1776, 1984, 2406, 2534, 2662, 2790, 2918, 3046, 3174, 3302, 3430, 3664, 3792, 3872, 6112, 6160, 65296, 120782] : List Int))
theorem exergueref02_noughts_ok  {r : List Int} (h : exergueref02_noughts = some r) : SC Tryd.prog 20 [] [] (lsv (encI .i32) 1 r) [] := by
 refine kFn (fn := Tryd.f20) (fun F hFn hFH hFD => ?_)
 unfold exergueref02_noughts at h
 refine kSR ?_
 refine kC 1 [0] ?_
 refine kEN ?_
 refine kSR ?_
 refine kC 2 [0] ?_
 refine kEN ?_
 refine kX ?_
 obtain rfl := oi h
 refine PJ.wk (Wk.freeze 0 (n := ([48, 1632, 1776, 1984, 2406, 2534, 2662, 2790, 2918, 3046, 3174, 3302, 3430, 3664, 3792, 3872, 6112, 6160, 65296, 120782] : List Int).length) (k := 1) (e := 21) (cs := ([48, 1632, 1776, 1984, 2406, 2534, 2662, 2790, 2918, 3046, 3174, 3302, 3430, 3664, 3792, 3872, 6112, 6160, 65296, 120782] : List Int).flatMap (encI .i32)) (by kernel_rfl)) ?_
 exact kZ hFn hFH hFD

def exergueref02_Value (x0 : Int) : Option (Int × Bool) :=
 (Option.bind exergueref02_noughts fun y1 => (Option.bind (loopN (fun (s330 : Int) => (bif (decide (s330 < (y1.length : Int))) then (Option.bind (loopN (fun (s601 : Int) => (bif (decide (s601 < 10)) then (bif inR s330 y1.length then (bif (decide (((IntKind.wrap .i64 ((IntKind.wrap .i64 (nth y1 s330)) + s601))) = (IntKind.wrap .i64 x0))) then (some (.inr (.inr (.inr (.inr (s601, true)))))) else (some (.inl (IntKind.wrap .i64 (s601 + 1))))) else none) else (some (.inr (.inl ()))))) big 0) (joinX fun (s596 : Unit) => (some (.inl (IntKind.wrap .i64 (s330 + 1)))))) else (some (.inr (.inl ()))))) big 0) (joinX fun (s325 : Unit) => (some (0, false)))))
theorem exergueref02_Value_ok {x0 : Int} {r : Int × Bool} (h : exergueref02_Value x0 = some r) : SC Tryd.prog 11 [.int .i32 x0] [] (.tup [.int .i64 r.1, .bool r.2]) [] := by
 refine kFn (fn := Tryd.f11) (fun F hFn hFH hFD => ?_)
 unfold exergueref02_Value at h
 refine kSR ?_
 refine kC 2 [0,2,3] ?_
 refine kEN ?_
 refine kSR ?_
 obtain ⟨y1, hy2, h3⟩ := bindS h
 refine RJ.call0 (d := (some 7)) (f := 20) (args := []) (v := lsv (encI .i32) 1 y1) (tr2 := []) (by kernel_rfl) (by kernel_rfl) .nil (exergueref02_noughts_ok hy2) (by kernel_rfl) ?_
 refine kC 1 [0,2,3,4] ?_
 refine kEN ?_
 obtain ⟨y326, hy327, h328⟩ := bindS h3
 refine K.cutX (by kernel_rfl) (fun (s325 : Unit) => ([(2, .int .i64 0), (3, .bool false)], [])) y326 ?_ (fun s325 hs => ?_)
 ·refine kSR ?_
  refine kC 1 [0,2,3,4,5] ?_
  refine kEN ?_
  refine K.block 0 (by kernel_rfl) ?_
  refine K.loop (by kernel_rfl) (fun (s330 : Int) => ([(0, .int .i32 x0), (2, .int .i64 0), (3, .bool false), (4, lsv (encI .i32) 1 y1), (5, .int .i64 s330)], [])) hy327 [0, 2, 3, 4, 5] (by kernel_rfl) (by kernel_rfl) (fun s330 x544 hs543 => ?_)
  refine kS ?_
  refine kSR ?_
  refine kC 4 [0,2,3,4,5,11] ?_
  refine kEN ?_
  refine J.caseB 11 (b := (decide (s330 < (y1.length : Int)))) (by kernel_rfl) (fun hb545 => ?_) (fun hb545 => ?_)
  ·have h546 := condT hb545 hs543
   refine kT ?_
   refine kK ?_
   refine PJ.next ?_
   obtain ⟨y597, hy598, h599⟩ := bindS h546
   refine K.cutX (by kernel_rfl) (fun (s596 : Unit) => ([(0, .int .i32 x0), (2, .int .i64 0), (3, .bool false), (4, lsv (encI .i32) 1 y1), (5, .int .i64 s330)], [])) y597 ?_ (fun s596 hs => ?_)
   ·refine K.block 1 (by kernel_rfl) ?_
    refine kSR ?_
    refine kC 1 [0,2,3,4,5,6] ?_
    refine kEN ?_
    refine K.block 2 (by kernel_rfl) ?_
    refine K.loop (by kernel_rfl) (fun (s601 : Int) => ([(0, .int .i32 x0), (2, .int .i64 0), (3, .bool false), (4, lsv (encI .i32) 1 y1), (5, .int .i64 s330), (6, .int .i64 s601)], [])) hy598 [0, 2, 3, 4, 5, 6] (by kernel_rfl) (by kernel_rfl) (fun s601 x633 hs632 => ?_)
    refine kS ?_
    refine kSR ?_
    refine kC 2 [0,2,3,4,5,6,15] ?_
    refine kEN ?_
    refine J.caseB 15 (b := (decide (s601 < 10))) (by kernel_rfl) (fun hb634 => ?_) (fun hb634 => ?_)
    ·have h635 := condT hb634 hs632
     refine kT ?_
     refine kK ?_
     refine PJ.next ?_
     refine kS ?_
     refine K.block 3 (by kernel_rfl) ?_
     refine kSR ?_
     refine kC 2 [0,2,3,4,5,6,18,19] ?_
     obtain ⟨hm, h637⟩ := asrt h635
     refine RJ.rel (d := (some 20)) (ef := ⟨.ep (((y1.flatMap (encI .i32)).drop ((s330 : Int).toNat * 1)).take 1), [], []⟩) (ef' := ⟨.ep ((encI .i32) (nth y1 s330)), [], []⟩) (c := inR s330 y1.length) (tr2 := []) (H2 := []) (by kernel_rfl) hm (fun hc => N.idx (encI_len .i32) hc) (by kernel_rfl) ?_
     refine kC 7 [0,2,3,4,5,6,27] ?_
     refine kEN ?_
     refine J.caseB 27 (b := (decide (((IntKind.wrap .i64 ((IntKind.wrap .i64 (nth y1 s330)) + s601))) = (IntKind.wrap .i64 x0)))) (by kernel_rfl) (fun hb638 => ?_) (fun hb638 => ?_)
     ·have h639 := condT hb638 h637
      refine kT ?_
      refine kSR ?_
      refine RJ.seg 3 [0, 2, 3, 4, 5, 6] (L2 := [(0, .int .i32 x0), (2, .int .i64 s601), (3, .bool true), (4, lsv (encI .i32) 1 y1), (5, .int .i64 s330), (6, .int .i64 s601)]) (H2 := []) (by kernel_rfl) ?_
      refine kEN ?_
      refine kX ?_
      refine PJ.blockRet ?_
      refine PJ.passRet ?_
      obtain rfl := oi h639
      refine PJ.loopOut (fun e => nomatch e) (fun he646 => ?_)
      have h641 := congrArg some he646
      refine PJ.blockRet ?_
      refine PJ.blockRet ?_
      obtain rfl := oi h641
      have h642 := joinX_inr h599
      refine PJ.cutXr (fun e => nomatch e) ?_
      obtain rfl := oi h642
      refine PJ.loopOut (fun e => nomatch e) (fun he645 => ?_)
      have h643 := congrArg some he645
      refine PJ.blockRet ?_
      obtain rfl := oi h643
      have h644 := joinX_inr h328
      refine PJ.cutXr (fun e => nomatch e) ?_
      obtain rfl := oi h644
      exact kZ hFn hFH hFD
     ·have h640 := condF hb638 h637
      refine kF ?_
      refine kK ?_
      refine PJ.blockNormal ?_
      refine PJ.next ?_
      refine kR ?_
      refine RJ.seg 3 [0, 2, 3, 4, 5, 6] (L2 := [(0, .int .i32 x0), (2, .int .i64 0), (3, .bool false), (4, lsv (encI .i32) 1 y1), (5, .int .i64 s330), (6, .int .i64 (IntKind.wrap .i64 (s601 + 1)))]) (H2 := []) (by kernel_rfl) ?_
      refine kE ?_
      obtain rfl := oi h640
      exact PJ.loopNext [0, 2, 3, 4, 5, 6] (by kernel_rfl) (by kernel_rfl)
    ·have h636 := condF hb634 hs632
     refine kF ?_
     refine K.exit 2 (by kernel_rfl) ?_
     refine PJ.passExit ?_
     obtain rfl := oi h636
     refine PJ.loopOut (fun e => nomatch e) (fun he648 => ?_)
     have h647 := congrArg some he648
     refine PJ.blockOut ?_
     refine PJ.blockNormal ?_
     obtain rfl := oi h647
     exact PJ.cutXl [0, 2, 3, 4, 5] (by kernel_rfl) (by kernel_rfl)
   ·subst hs
    have h600 := joinX_inl h599
    refine kR ?_
    refine kC 3 [0,2,3,4,5] ?_
    refine kE ?_
    obtain rfl := oi h600
    exact PJ.loopNext [0, 2, 3, 4, 5] (by kernel_rfl) (by kernel_rfl)
  ·have h547 := condF hb545 hs543
   refine kF ?_
   refine K.exit 0 (by kernel_rfl) ?_
   refine PJ.passExit ?_
   obtain rfl := oi h547
   refine PJ.loopOut (fun e => nomatch e) (fun he650 => ?_)
   have h649 := congrArg some he650
   refine PJ.blockOut ?_
   obtain rfl := oi h649
   exact PJ.cutXl [2, 3] (by kernel_rfl) (by kernel_rfl)
 ·subst hs
  have h329 := joinX_inl h328
  refine kSR ?_
  refine kC 2 [2,3] ?_
  refine kEN ?_
  refine kX ?_
  obtain rfl := oi h329
  exact kZ hFn hFH hFD

def exergueref01_Is (x0 : Int) : Option (Bool) :=
 (Option.bind (bif (decide ((IntKind.wrap .i64 x0) ≥ 0)) then (bif (decide ((IntKind.wrap .i64 x0) < 55296)) then (some true) else (bif (decide ((IntKind.wrap .i64 x0) > 57343)) then (some ((decide ((IntKind.wrap .i64 x0) ≤ 1114111)))) else (some false))) else (bif (decide ((IntKind.wrap .i64 x0) > 57343)) then (some ((decide ((IntKind.wrap .i64 x0) ≤ 1114111)))) else (some false))) fun (s13 : Bool) => (some s13))
theorem exergueref01_Is_ok {x0 : Int} {r : Bool} (h : exergueref01_Is x0 = some r) : SC Tryd.prog 23 [.int .i32 x0] [] (.bool r) [] := by
 refine kFn (fn := Tryd.f23) (fun F hFn hFH hFD => ?_)
 unfold exergueref01_Is at h
 refine kSR ?_
 refine kC 1 [0,2] ?_
 refine kEN ?_
 refine kSR ?_
 refine kC 3 [2,3] ?_
 refine kEN ?_
 obtain ⟨s13, hy15, h17⟩ := bindS h
 refine K.cutN (by kernel_rfl) (fun (s13 : Bool) => ([(2, .bool s13)], [])) s13 ?_ ?_
 ·refine kR ?_
  refine kC 3 [2,3,8] ?_
  refine RJ.caseB 8 (b := (decide ((IntKind.wrap .i64 x0) ≥ 0))) (by kernel_rfl) (fun hb18 => ?_) (fun hb18 => ?_)
  ·have h19 := condT hb18 hy15
   refine RJ.seg 4 [2, 3, 12] (L2 := [(2, .bool false), (3, .int .i64 (IntKind.wrap .i64 x0)), (12, .bool ((decide ((IntKind.wrap .i64 x0) < 55296))))]) (H2 := []) (by kernel_rfl) ?_
   refine RJ.caseB 12 (b := (decide ((IntKind.wrap .i64 x0) < 55296))) (by kernel_rfl) (fun hb21 => ?_) (fun hb21 => ?_)
   ·have h22 := condT hb21 h19
    refine kC 8 [2] ?_
    refine kE ?_
    obtain rfl := oi h22
    exact kN [2]
   ·have h23 := condF hb21 h19
    refine kC 3 [2,3,12,15] ?_
    refine RJ.caseB 15 (b := (decide ((IntKind.wrap .i64 x0) > 57343))) (by kernel_rfl) (fun hb24 => ?_) (fun hb24 => ?_)
    ·have h25 := condT hb24 h23
     refine kC 5 [2] ?_
     refine kE ?_
     obtain rfl := oi h25
     exact kN [2]
    ·have h26 := condF hb24 h23
     refine kC 5 [2] ?_
     refine kE ?_
     obtain rfl := oi h26
     exact kN [2]
  ·have h20 := condF hb18 hy15
   refine RJ.seg 7 [2, 3, 12, 15] (L2 := [(2, .bool false), (3, .int .i64 (IntKind.wrap .i64 x0)), (12, .bool false), (15, .bool ((decide ((IntKind.wrap .i64 x0) > 57343))))]) (H2 := []) (by kernel_rfl) ?_
   refine RJ.caseB 15 (b := (decide ((IntKind.wrap .i64 x0) > 57343))) (by kernel_rfl) (fun hb27 => ?_) (fun hb27 => ?_)
   ·have h28 := condT hb27 h20
    refine kC 5 [2] ?_
    refine kE ?_
    obtain rfl := oi h28
    exact kN [2]
   ·have h29 := condF hb27 h20
    refine kC 5 [2] ?_
    refine kE ?_
    obtain rfl := oi h29
    exact kN [2]
 ·refine kX ?_
  obtain rfl := oi h17
  exact kZ hFn hFH hFD

def exergueref02_turning (x0 : Int) : Option (Bool) :=
 (Option.bind (bif (decide (x0 = 1564)) then (some true) else (bif (decide (x0 = 8206)) then (some true) else (bif (decide (x0 = 8207)) then (some true) else (bif (decide (x0 ≥ 8234)) then (bif (decide (x0 ≤ 8238)) then (some true) else (bif (decide (x0 ≥ 8294)) then (some (decide (x0 ≤ 8297))) else (some false))) else (bif (decide (x0 ≥ 8294)) then (some (decide (x0 ≤ 8297))) else (some false)))))) fun (s22 : Bool) => (some s22))
theorem exergueref02_turning_ok {x0 : Int} {r : Bool} (h : exergueref02_turning x0 = some r) : SC Tryd.prog 24 [.int .i64 x0] [] (.bool r) [] := by
 refine kFn (fn := Tryd.f24) (fun F hFn hFH hFD => ?_)
 unfold exergueref02_turning at h
 refine kSR ?_
 refine kC 1 [0,2] ?_
 refine kEN ?_
 obtain ⟨s22, hy24, h26⟩ := bindS h
 refine K.cutN (by kernel_rfl) (fun (s22 : Bool) => ([(2, .bool s22)], [])) s22 ?_ ?_
 ·refine kR ?_
  refine kC 3 [0,2,5] ?_
  refine RJ.caseB 5 (b := (decide (x0 = 1564))) (by kernel_rfl) (fun hb27 => ?_) (fun hb27 => ?_)
  ·have h28 := condT hb27 hy24
   refine kC 24 [2] ?_
   refine kE ?_
   obtain rfl := oi h28
   exact kN [2]
  ·have h29 := condF hb27 hy24
   refine kC 4 [0,2,9] ?_
   refine RJ.caseB 9 (b := (decide (x0 = 8206))) (by kernel_rfl) (fun hb30 => ?_) (fun hb30 => ?_)
   ·have h31 := condT hb30 h29
    refine RJ.seg 20 [2] (L2 := [(2, .bool true)]) (H2 := []) (by kernel_rfl) ?_
    refine kE ?_
    obtain rfl := oi h31
    exact kN [2]
   ·have h32 := condF hb30 h29
    refine RJ.seg 4 [0, 2, 13] (L2 := [(0, .int .i64 x0), (2, .bool false), (13, .bool (decide (x0 = 8207)))]) (H2 := []) (by kernel_rfl) ?_
    refine RJ.caseB 13 (b := (decide (x0 = 8207))) (by kernel_rfl) (fun hb33 => ?_) (fun hb33 => ?_)
    ·have h34 := condT hb33 h32
     refine kC 16 [2] ?_
     refine kE ?_
     obtain rfl := oi h34
     exact kN [2]
    ·have h35 := condF hb33 h32
     refine kC 3 [0,2,13,16] ?_
     refine RJ.caseB 16 (b := (decide (x0 ≥ 8234))) (by kernel_rfl) (fun hb36 => ?_) (fun hb36 => ?_)
     ·have h37 := condT hb36 h35
      refine kC 5 [0,2,21] ?_
      refine RJ.caseB 21 (b := (decide (x0 ≤ 8238))) (by kernel_rfl) (fun hb39 => ?_) (fun hb39 => ?_)
      ·have h40 := condT hb39 h37
       refine kC 8 [2] ?_
       refine kE ?_
       obtain rfl := oi h40
       exact kN [2]
      ·have h41 := condF hb39 h37
       refine kC 3 [0,2,21,24] ?_
       refine RJ.caseB 24 (b := (decide (x0 ≥ 8294))) (by kernel_rfl) (fun hb42 => ?_) (fun hb42 => ?_)
       ·have h43 := condT hb42 h41
        refine RJ.seg 5 [2] (L2 := [(2, .bool (decide (x0 ≤ 8297)))]) (H2 := []) (by kernel_rfl) ?_
        refine kE ?_
        obtain rfl := oi h43
        exact kN [2]
       ·have h44 := condF hb42 h41
        refine RJ.seg 5 [2] (L2 := [(2, .bool false)]) (H2 := []) (by kernel_rfl) ?_
        refine kE ?_
        obtain rfl := oi h44
        exact kN [2]
     ·have h38 := condF hb36 h35
      refine kC 8 [0,2,21,24] ?_
      refine RJ.caseB 24 (b := (decide (x0 ≥ 8294))) (by kernel_rfl) (fun hb45 => ?_) (fun hb45 => ?_)
      ·have h46 := condT hb45 h38
       refine kC 5 [2] ?_
       refine kE ?_
       obtain rfl := oi h46
       exact kN [2]
      ·have h47 := condF hb45 h38
       refine kC 5 [2] ?_
       refine kE ?_
       obtain rfl := oi h47
       exact kN [2]
 ·refine kX ?_
  obtain rfl := oi h26
  exact kZ hFn hFH hFD

def exergueref02_blank (x0 : Int) : Option (Bool) :=
 (Option.bind (bif (decide (x0 = 32)) then (some true) else (bif (decide (x0 = 160)) then (some true) else (bif (decide (x0 = 5760)) then (some true) else (bif (decide (x0 ≥ 8192)) then (bif (decide (x0 ≤ 8202)) then (some true) else (bif (decide (x0 = 8232)) then (some true) else (bif (decide (x0 = 8233)) then (some true) else (bif (decide (x0 = 8239)) then (some true) else (bif (decide (x0 = 8287)) then (some true) else (some (decide (x0 = 12288)))))))) else (bif (decide (x0 = 8232)) then (some true) else (bif (decide (x0 = 8233)) then (some true) else (bif (decide (x0 = 8239)) then (some true) else (bif (decide (x0 = 8287)) then (some true) else (some (decide (x0 = 12288))))))))))) fun (s40 : Bool) => (some s40))
theorem exergueref02_blank_ok {x0 : Int} {r : Bool} (h : exergueref02_blank x0 = some r) : SC Tryd.prog 25 [.int .i64 x0] [] (.bool r) [] := by
 refine kFn (fn := Tryd.f25) (fun F hFn hFH hFD => ?_)
 unfold exergueref02_blank at h
 refine kSR ?_
 refine kC 1 [0,2] ?_
 refine kEN ?_
 obtain ⟨s40, hy42, h44⟩ := bindS h
 refine K.cutN (by kernel_rfl) (fun (s40 : Bool) => ([(2, .bool s40)], [])) s40 ?_ ?_
 ·refine kR ?_
  refine kC 3 [0,2,5] ?_
  refine RJ.caseB 5 (b := (decide (x0 = 32))) (by kernel_rfl) (fun hb45 => ?_) (fun hb45 => ?_)
  ·have h46 := condT hb45 hy42
   refine kC 36 [2] ?_
   refine kE ?_
   obtain rfl := oi h46
   exact kN [2]
  ·have h47 := condF hb45 hy42
   refine kC 4 [0,2,9] ?_
   refine RJ.caseB 9 (b := (decide (x0 = 160))) (by kernel_rfl) (fun hb48 => ?_) (fun hb48 => ?_)
   ·have h49 := condT hb48 h47
    refine RJ.seg 32 [2] (L2 := [(2, .bool true)]) (H2 := []) (by kernel_rfl) ?_
    refine kE ?_
    obtain rfl := oi h49
    exact kN [2]
   ·have h50 := condF hb48 h47
    refine RJ.seg 4 [0, 2, 13] (L2 := [(0, .int .i64 x0), (2, .bool false), (13, .bool (decide (x0 = 5760)))]) (H2 := []) (by kernel_rfl) ?_
    refine RJ.caseB 13 (b := (decide (x0 = 5760))) (by kernel_rfl) (fun hb51 => ?_) (fun hb51 => ?_)
    ·have h52 := condT hb51 h50
     refine kC 28 [2] ?_
     refine kE ?_
     obtain rfl := oi h52
     exact kN [2]
    ·have h53 := condF hb51 h50
     refine kC 3 [0,2,13,16] ?_
     refine RJ.caseB 16 (b := (decide (x0 ≥ 8192))) (by kernel_rfl) (fun hb54 => ?_) (fun hb54 => ?_)
     ·have h55 := condT hb54 h53
      refine kC 5 [0,2,21] ?_
      refine RJ.caseB 21 (b := (decide (x0 ≤ 8202))) (by kernel_rfl) (fun hb57 => ?_) (fun hb57 => ?_)
      ·have h58 := condT hb57 h55
       refine kC 20 [2] ?_
       refine kE ?_
       obtain rfl := oi h58
       exact kN [2]
      ·have h59 := condF hb57 h55
       refine kC 4 [0,2,25] ?_
       refine RJ.caseB 25 (b := (decide (x0 = 8232))) (by kernel_rfl) (fun hb60 => ?_) (fun hb60 => ?_)
       ·have h61 := condT hb60 h59
        refine RJ.seg 16 [2] (L2 := [(2, .bool true)]) (H2 := []) (by kernel_rfl) ?_
        refine kE ?_
        obtain rfl := oi h61
        exact kN [2]
       ·have h62 := condF hb60 h59
        refine RJ.seg 4 [0, 2, 29] (L2 := [(0, .int .i64 x0), (2, .bool false), (29, .bool (decide (x0 = 8233)))]) (H2 := []) (by kernel_rfl) ?_
        refine RJ.caseB 29 (b := (decide (x0 = 8233))) (by kernel_rfl) (fun hb63 => ?_) (fun hb63 => ?_)
        ·have h64 := condT hb63 h62
         refine kC 12 [2] ?_
         refine kE ?_
         obtain rfl := oi h64
         exact kN [2]
        ·have h65 := condF hb63 h62
         refine kC 4 [0,2,33] ?_
         refine RJ.caseB 33 (b := (decide (x0 = 8239))) (by kernel_rfl) (fun hb66 => ?_) (fun hb66 => ?_)
         ·have h67 := condT hb66 h65
          refine kC 8 [2] ?_
          refine kE ?_
          obtain rfl := oi h67
          exact kN [2]
         ·have h68 := condF hb66 h65
          refine kC 4 [0,2,37] ?_
          refine RJ.caseB 37 (b := (decide (x0 = 8287))) (by kernel_rfl) (fun hb69 => ?_) (fun hb69 => ?_)
          ·have h70 := condT hb69 h68
           refine kC 4 [2] ?_
           refine kE ?_
           obtain rfl := oi h70
           exact kN [2]
          ·have h71 := condF hb69 h68
           refine kC 4 [2] ?_
           refine kE ?_
           obtain rfl := oi h71
           exact kN [2]
     ·have h56 := condF hb54 h53
      refine kC 9 [0,2,25] ?_
      refine RJ.caseB 25 (b := (decide (x0 = 8232))) (by kernel_rfl) (fun hb72 => ?_) (fun hb72 => ?_)
      ·have h73 := condT hb72 h56
       refine kC 16 [2] ?_
       refine kE ?_
       obtain rfl := oi h73
       exact kN [2]
      ·have h74 := condF hb72 h56
       refine kC 4 [0,2,29] ?_
       refine RJ.caseB 29 (b := (decide (x0 = 8233))) (by kernel_rfl) (fun hb75 => ?_) (fun hb75 => ?_)
       ·have h76 := condT hb75 h74
        refine RJ.seg 12 [2] (L2 := [(2, .bool true)]) (H2 := []) (by kernel_rfl) ?_
        refine kE ?_
        obtain rfl := oi h76
        exact kN [2]
       ·have h77 := condF hb75 h74
        refine RJ.seg 4 [0, 2, 33] (L2 := [(0, .int .i64 x0), (2, .bool false), (33, .bool (decide (x0 = 8239)))]) (H2 := []) (by kernel_rfl) ?_
        refine RJ.caseB 33 (b := (decide (x0 = 8239))) (by kernel_rfl) (fun hb78 => ?_) (fun hb78 => ?_)
        ·have h79 := condT hb78 h77
         refine kC 8 [2] ?_
         refine kE ?_
         obtain rfl := oi h79
         exact kN [2]
        ·have h80 := condF hb78 h77
         refine kC 4 [0,2,37] ?_
         refine RJ.caseB 37 (b := (decide (x0 = 8287))) (by kernel_rfl) (fun hb81 => ?_) (fun hb81 => ?_)
         ·have h82 := condT hb81 h80
          refine kC 4 [2] ?_
          refine kE ?_
          obtain rfl := oi h82
          exact kN [2]
         ·have h83 := condF hb81 h80
          refine kC 4 [2] ?_
          refine kE ?_
          obtain rfl := oi h83
          exact kN [2]
 ·refine kX ?_
  obtain rfl := oi h44
  exact kZ hFn hFH hFD

def exergueref02_Of (x0 : Int) : Option (Int) :=
 (Option.bind (exergueref01_Is x0) fun y1 => (Option.bind (exergueref02_turning (IntKind.wrap .i64 x0)) fun y4 => (Option.bind (exergueref02_blank (IntKind.wrap .i64 x0)) fun y7 => (Option.bind (exergueref02_Value x0) fun y10 => (bif (!y1) then (some 6) else (Option.bind (Option.bind (bif (decide ((IntKind.wrap .i64 x0) < 32)) then (some true) else (bif (decide ((IntKind.wrap .i64 x0) ≥ 127)) then (some ((decide ((IntKind.wrap .i64 x0) ≤ 159)))) else (some false))) fun (s48 : Bool) => (bif s48 then (some (.inr 1)) else (some (.inl ())))) (joinX fun (s37 : Unit) => (bif y4 then (some 2) else (Option.bind (Option.bind (bif (decide ((IntKind.wrap .i64 x0) ≥ 64976)) then (bif (decide ((IntKind.wrap .i64 x0) ≤ 65007)) then (some true) else (some ((decide ((Int.tmod (IntKind.wrap .i64 x0) 65536) ≥ 65534))))) else (some ((decide ((Int.tmod (IntKind.wrap .i64 x0) 65536) ≥ 65534))))) fun (s98 : Bool) => (bif s98 then (some (.inr 3)) else (some (.inl ())))) (joinX fun (s87 : Unit) => (bif y7 then (some 4) else (bif y10.2 then (some 5) else (some 0)))))))))))))
theorem exergueref02_Of_ok {x0 : Int} {r : Int} (h : exergueref02_Of x0 = some r) : SC Tryd.prog 13 [.int .i32 x0] [] (.int .i64 r) [] := by
 refine kFn (fn := Tryd.f13) (fun F hFn hFH hFD => ?_)
 unfold exergueref02_Of at h
 refine kSR ?_
 refine kC 1 [0,2] ?_
 refine kEN ?_
 refine kSR ?_
 refine kC 3 [0,2,3] ?_
 refine kEN ?_
 refine kSR ?_
 refine kC 1 [0,2,3,11] ?_
 obtain ⟨y1, hy2, h3⟩ := bindS h
 refine RJ.call0 (d := (some 12)) (f := 23) (args := [.int .i32 x0]) (v := .bool y1) (tr2 := []) (by kernel_rfl) (by kernel_rfl) (.cons (Le.refl _) .nil) (exergueref01_Is_ok hy2) (by kernel_rfl) ?_
 refine RJ.seg 1 [0, 2, 3, 4] (L2 := [(0, .int .i32 x0), (2, .int .i64 0), (3, .int .i64 (IntKind.wrap .i64 x0)), (4, .bool y1)]) (H2 := []) (by kernel_rfl) ?_
 refine kEN ?_
 refine kSR ?_
 refine kC 1 [0,2,3,4,13] ?_
 obtain ⟨y4, hy5, h6⟩ := bindS h3
 refine RJ.call0 (d := (some 14)) (f := 24) (args := [.int .i64 (IntKind.wrap .i64 x0)]) (v := .bool y4) (tr2 := []) (by kernel_rfl) (by kernel_rfl) (.cons (Le.refl _) .nil) (exergueref02_turning_ok hy5) (by kernel_rfl) ?_
 refine kC 1 [0,2,3,4,5] ?_
 refine kEN ?_
 refine kSR ?_
 refine kC 1 [0,2,3,4,5,15] ?_
 obtain ⟨y7, hy8, h9⟩ := bindS h6
 refine RJ.call0 (d := (some 16)) (f := 25) (args := [.int .i64 (IntKind.wrap .i64 x0)]) (v := .bool y7) (tr2 := []) (by kernel_rfl) (by kernel_rfl) (.cons (Le.refl _) .nil) (exergueref02_blank_ok hy8) (by kernel_rfl) ?_
 refine RJ.seg 1 [0, 2, 3, 4, 5, 6] (L2 := [(0, .int .i32 x0), (2, .int .i64 0), (3, .int .i64 (IntKind.wrap .i64 x0)), (4, .bool y1), (5, .bool y4), (6, .bool y7)]) (H2 := []) (by kernel_rfl) ?_
 refine kEN ?_
 refine kSR ?_
 refine kC 1 [2,3,4,5,6,18] ?_
 obtain ⟨y10, hy11, h12⟩ := bindS h9
 refine RJ.call0 (d := (some 19)) (f := 11) (args := [.int .i32 x0]) (v := .tup [.int .i64 y10.1, .bool y10.2]) (tr2 := []) (by kernel_rfl) (by kernel_rfl) (.cons (Le.refl _) .nil) (exergueref02_Value_ok hy11) (by kernel_rfl) ?_
 refine kC 5 [2,3,4,5,6,8] ?_
 refine kEN ?_
 refine kS ?_
 refine kSR ?_
 refine kC 2 [2,3,5,6,8,23] ?_
 refine kEN ?_
 refine J.caseB 23 (b := (!y1)) (by kernel_rfl) (fun hb13 => ?_) (fun hb13 => ?_)
 ·have h14 := condT hb13 h12
  refine kT ?_
  refine kSR ?_
  refine RJ.seg 1 [2, 3, 5, 6, 8] (L2 := [(2, .int .i64 6), (3, .int .i64 (IntKind.wrap .i64 x0)), (5, .bool y4), (6, .bool y7), (8, .bool y10.2)]) (H2 := []) (by kernel_rfl) ?_
  refine kEN ?_
  refine kX ?_
  refine PJ.passRet ?_
  obtain rfl := oi h14
  exact kZ hFn hFH hFD
 ·have h15 := condF hb13 h12
  refine kF ?_
  refine kK ?_
  refine PJ.next ?_
  obtain ⟨y38, hy39, h40⟩ := bindS h15
  refine K.cutX (by kernel_rfl) (fun (s37 : Unit) => ([(2, .int .i64 0), (3, .int .i64 (IntKind.wrap .i64 x0)), (5, .bool y4), (6, .bool y7), (8, .bool y10.2)], [])) y38 ?_ (fun s37 hs => ?_)
  ·obtain ⟨s48, hy50, h52⟩ := bindS hy39
   refine K.cutN (by kernel_rfl) (fun (s48 : Bool) => ([(2, .int .i64 0), (3, .int .i64 (IntKind.wrap .i64 x0)), (5, .bool y4), (6, .bool y7), (8, .bool y10.2), (33, .bool s48)], [])) s48 ?_ ?_
   ·refine kR ?_
    refine RJ.seg 3 [2, 3, 5, 6, 8, 26] (L2 := [(2, .int .i64 0), (3, .int .i64 (IntKind.wrap .i64 x0)), (5, .bool y4), (6, .bool y7), (8, .bool y10.2), (26, .bool ((decide ((IntKind.wrap .i64 x0) < 32))))]) (H2 := []) (by kernel_rfl) ?_
    refine RJ.caseB 26 (b := (decide ((IntKind.wrap .i64 x0) < 32))) (by kernel_rfl) (fun hb53 => ?_) (fun hb53 => ?_)
    ·have h54 := condT hb53 hy50
     refine kC 7 [2,3,5,6,8,33] ?_
     refine kE ?_
     obtain rfl := oi h54
     exact kN [2, 3, 5, 6, 8, 33]
    ·have h55 := condF hb53 hy50
     refine kC 3 [2,3,5,6,8,26,29] ?_
     refine RJ.caseB 29 (b := (decide ((IntKind.wrap .i64 x0) ≥ 127))) (by kernel_rfl) (fun hb56 => ?_) (fun hb56 => ?_)
     ·have h57 := condT hb56 h55
      refine kC 4 [2,3,5,6,8,33] ?_
      refine kE ?_
      obtain rfl := oi h57
      exact kN [2, 3, 5, 6, 8, 33]
     ·have h58 := condF hb56 h55
      refine kC 4 [2,3,5,6,8,33] ?_
      refine kE ?_
      obtain rfl := oi h58
      exact kN [2, 3, 5, 6, 8, 33]
   ·refine J.caseB 33 (b := s48) (by kernel_rfl) (fun hb59 => ?_) (fun hb59 => ?_)
    ·have h60 := condT hb59 h52
     refine kT ?_
     refine kSR ?_
     refine kC 1 [2,3,5,6,8] ?_
     refine kEN ?_
     refine kX ?_
     obtain rfl := oi h60
     have h62 := joinX_inr h40
     refine PJ.cutXr (fun e => nomatch e) ?_
     obtain rfl := oi h62
     exact kZ hFn hFH hFD
    ·have h61 := condF hb59 h52
     refine kF ?_
     refine kK ?_
     obtain rfl := oi h61
     exact PJ.cutXl [2, 3, 5, 6, 8] (by kernel_rfl) (by kernel_rfl)
  ·subst hs
   have h41 := joinX_inl h40
   refine kS ?_
   refine kSR ?_
   refine kC 1 [2,3,6,8,34] ?_
   refine kEN ?_
   refine J.caseB 34 (b := y4) (by kernel_rfl) (fun hb63 => ?_) (fun hb63 => ?_)
   ·have h64 := condT hb63 h41
    refine kT ?_
    refine kSR ?_
    refine kC 1 [2,3,6,8] ?_
    refine kEN ?_
    refine kX ?_
    refine PJ.passRet ?_
    obtain rfl := oi h64
    exact kZ hFn hFH hFD
   ·have h65 := condF hb63 h41
    refine kF ?_
    refine kK ?_
    refine PJ.next ?_
    obtain ⟨y88, hy89, h90⟩ := bindS h65
    refine K.cutX (by kernel_rfl) (fun (s87 : Unit) => ([(2, .int .i64 0), (6, .bool y7), (8, .bool y10.2)], [])) y88 ?_ (fun s87 hs => ?_)
    ·obtain ⟨s98, hy100, h102⟩ := bindS hy89
     refine K.cutN (by kernel_rfl) (fun (s98 : Bool) => ([(2, .int .i64 0), (6, .bool y7), (8, .bool y10.2), (45, .bool s98)], [])) s98 ?_ ?_
     ·refine kR ?_
      refine kC 3 [2,3,6,8,37] ?_
      refine RJ.caseB 37 (b := (decide ((IntKind.wrap .i64 x0) ≥ 64976))) (by kernel_rfl) (fun hb103 => ?_) (fun hb103 => ?_)
      ·have h104 := condT hb103 hy100
       refine kC 4 [2,3,6,8,41] ?_
       refine RJ.caseB 41 (b := (decide ((IntKind.wrap .i64 x0) ≤ 65007))) (by kernel_rfl) (fun hb106 => ?_) (fun hb106 => ?_)
       ·have h107 := condT hb106 h104
        refine RJ.seg 4 [2, 6, 8, 45] (L2 := [(2, .int .i64 0), (6, .bool y7), (8, .bool y10.2), (45, .bool true)]) (H2 := []) (by kernel_rfl) ?_
        refine kE ?_
        obtain rfl := oi h107
        exact kN [2, 6, 8, 45]
       ·have h108 := condF hb106 h104
        refine RJ.seg 4 [2, 6, 8, 45] (L2 := [(2, .int .i64 0), (6, .bool y7), (8, .bool y10.2), (45, .bool ((decide ((Int.tmod (IntKind.wrap .i64 x0) 65536) ≥ 65534))))]) (H2 := []) (by kernel_rfl) ?_
        refine kE ?_
        obtain rfl := oi h108
        exact kN [2, 6, 8, 45]
      ·have h105 := condF hb103 hy100
       refine kC 8 [2,6,8,45] ?_
       refine kE ?_
       obtain rfl := oi h105
       exact kN [2, 6, 8, 45]
     ·refine J.caseB 45 (b := s98) (by kernel_rfl) (fun hb109 => ?_) (fun hb109 => ?_)
      ·have h110 := condT hb109 h102
       refine kT ?_
       refine kSR ?_
       refine kC 1 [2,6,8] ?_
       refine kEN ?_
       refine kX ?_
       obtain rfl := oi h110
       have h112 := joinX_inr h90
       refine PJ.cutXr (fun e => nomatch e) ?_
       obtain rfl := oi h112
       exact kZ hFn hFH hFD
      ·have h111 := condF hb109 h102
       refine kF ?_
       refine kK ?_
       obtain rfl := oi h111
       exact PJ.cutXl [2, 6, 8] (by kernel_rfl) (by kernel_rfl)
    ·subst hs
     have h91 := joinX_inl h90
     refine kS ?_
     refine kSR ?_
     refine kC 1 [2,8,46] ?_
     refine kEN ?_
     refine J.caseB 46 (b := y7) (by kernel_rfl) (fun hb113 => ?_) (fun hb113 => ?_)
     ·have h114 := condT hb113 h91
      refine kT ?_
      refine kSR ?_
      refine kC 1 [2,8] ?_
      refine kEN ?_
      refine kX ?_
      refine PJ.passRet ?_
      obtain rfl := oi h114
      exact kZ hFn hFH hFD
     ·have h115 := condF hb113 h91
      refine kF ?_
      refine kK ?_
      refine PJ.next ?_
      refine kS ?_
      refine kSR ?_
      refine kC 1 [2,47] ?_
      refine kEN ?_
      refine J.caseB 47 (b := y10.2) (by kernel_rfl) (fun hb116 => ?_) (fun hb116 => ?_)
      ·have h117 := condT hb116 h115
       refine kT ?_
       refine kSR ?_
       refine kC 1 [2] ?_
       refine kEN ?_
       refine kX ?_
       refine PJ.passRet ?_
       obtain rfl := oi h117
       exact kZ hFn hFH hFD
      ·have h118 := condF hb116 h115
       refine kF ?_
       refine kK ?_
       refine PJ.next ?_
       refine kSR ?_
       refine kC 1 [2] ?_
       refine kEN ?_
       refine kX ?_
       obtain rfl := oi h118
       exact kZ hFn hFH hFD

def exergueref02_Zero (x0 : Int) : Option (Bool) :=
 (Option.bind exergueref02_noughts fun y1 => (Option.bind (loopN (fun (s48 : Int) => (bif (decide (s48 < (y1.length : Int))) then (bif inR s48 y1.length then (bif (decide ((nth y1 s48) = x0)) then (some (.inr (.inr true))) else (some (.inl (IntKind.wrap .i64 (s48 + 1))))) else none) else (some (.inr (.inl ()))))) big 0) (joinX fun (s43 : Unit) => (some false))))
theorem exergueref02_Zero_ok {x0 : Int} {r : Bool} (h : exergueref02_Zero x0 = some r) : SC Tryd.prog 15 [.int .i32 x0] [] (.bool r) [] := by
 refine kFn (fn := Tryd.f15) (fun F hFn hFH hFD => ?_)
 unfold exergueref02_Zero at h
 refine kSR ?_
 refine kC 1 [0,2] ?_
 refine kEN ?_
 refine kSR ?_
 obtain ⟨y1, hy2, h3⟩ := bindS h
 refine RJ.call0 (d := (some 5)) (f := 20) (args := []) (v := lsv (encI .i32) 1 y1) (tr2 := []) (by kernel_rfl) (by kernel_rfl) .nil (exergueref02_noughts_ok hy2) (by kernel_rfl) ?_
 refine kC 1 [0,2,3] ?_
 refine kEN ?_
 obtain ⟨y44, hy45, h46⟩ := bindS h3
 refine K.cutX (by kernel_rfl) (fun (s43 : Unit) => ([(2, .bool false)], [])) y44 ?_ (fun s43 hs => ?_)
 ·refine kSR ?_
  refine kC 1 [0,2,3,4] ?_
  refine kEN ?_
  refine K.block 0 (by kernel_rfl) ?_
  refine K.loop (by kernel_rfl) (fun (s48 : Int) => ([(0, .int .i32 x0), (2, .bool false), (3, lsv (encI .i32) 1 y1), (4, .int .i64 s48)], [])) hy45 [0, 2, 3, 4] (by kernel_rfl) (by kernel_rfl) (fun s48 x74 hs73 => ?_)
  refine kS ?_
  refine kSR ?_
  refine kC 4 [0,2,3,4,9] ?_
  refine kEN ?_
  refine J.caseB 9 (b := (decide (s48 < (y1.length : Int)))) (by kernel_rfl) (fun hb75 => ?_) (fun hb75 => ?_)
  ·have h76 := condT hb75 hs73
   refine kT ?_
   refine kK ?_
   refine PJ.next ?_
   refine kS ?_
   refine K.block 1 (by kernel_rfl) ?_
   refine kSR ?_
   refine kC 2 [0,2,3,4,12,13] ?_
   obtain ⟨hm, h78⟩ := asrt h76
   refine RJ.rel (d := (some 14)) (ef := ⟨.ep (((y1.flatMap (encI .i32)).drop ((s48 : Int).toNat * 1)).take 1), [], []⟩) (ef' := ⟨.ep ((encI .i32) (nth y1 s48)), [], []⟩) (c := inR s48 y1.length) (tr2 := []) (H2 := []) (by kernel_rfl) hm (fun hc => N.idx (encI_len .i32) hc) (by kernel_rfl) ?_
   refine kC 3 [0,2,3,4,17] ?_
   refine kEN ?_
   refine J.caseB 17 (b := (decide ((nth y1 s48) = x0))) (by kernel_rfl) (fun hb79 => ?_) (fun hb79 => ?_)
   ·have h80 := condT hb79 h78
    refine kT ?_
    refine kSR ?_
    refine RJ.seg 1 [0, 2, 3, 4] (L2 := [(0, .int .i32 x0), (2, .bool true), (3, lsv (encI .i32) 1 y1), (4, .int .i64 s48)]) (H2 := []) (by kernel_rfl) ?_
    refine kEN ?_
    refine kX ?_
    refine PJ.blockRet ?_
    refine PJ.passRet ?_
    obtain rfl := oi h80
    refine PJ.loopOut (fun e => nomatch e) (fun he84 => ?_)
    have h82 := congrArg some he84
    refine PJ.blockRet ?_
    obtain rfl := oi h82
    have h83 := joinX_inr h46
    refine PJ.cutXr (fun e => nomatch e) ?_
    obtain rfl := oi h83
    exact kZ hFn hFH hFD
   ·have h81 := condF hb79 h78
    refine kF ?_
    refine kK ?_
    refine PJ.blockNormal ?_
    refine PJ.next ?_
    refine kR ?_
    refine RJ.seg 3 [0, 2, 3, 4] (L2 := [(0, .int .i32 x0), (2, .bool false), (3, lsv (encI .i32) 1 y1), (4, .int .i64 (IntKind.wrap .i64 (s48 + 1)))]) (H2 := []) (by kernel_rfl) ?_
    refine kE ?_
    obtain rfl := oi h81
    exact PJ.loopNext [0, 2, 3, 4] (by kernel_rfl) (by kernel_rfl)
  ·have h77 := condF hb75 hs73
   refine kF ?_
   refine K.exit 0 (by kernel_rfl) ?_
   refine PJ.passExit ?_
   obtain rfl := oi h77
   refine PJ.loopOut (fun e => nomatch e) (fun he86 => ?_)
   have h85 := congrArg some he86
   refine PJ.blockOut ?_
   obtain rfl := oi h85
   exact PJ.cutXl [2] (by kernel_rfl) (by kernel_rfl)
 ·subst hs
  have h47 := joinX_inl h46
  refine kSR ?_
  refine kC 1 [2] ?_
  refine kEN ?_
  refine kX ?_
  obtain rfl := oi h47
  exact kZ hFn hFH hFD

noncomputable def exerguelaw02_ClassTells (x0 : Int) : Option (Bool) :=
 (Option.bind exerguelaw02_shown fun y1 => (Option.bind (class_Value x0) fun y4 => (Option.bind (exergueref02_Value x0) fun y7 => (Option.bind (bif y1 then (Option.bind (class_Of x0) fun y42 => (Option.bind (exergueref02_Of x0) fun y45 => (bif (decide (y42 = y45)) then (bif (decide (y4.1 = y7.1)) then (bif (y4.2 == y7.2) then (Option.bind (class_Zero x0) fun y57 => (Option.bind (exergueref02_Zero x0) fun y60 => (some (y57 == y60)))) else (some false)) else (some false)) else (some false)))) else (some false)) fun (s34 : Bool) => (some s34)))))
theorem exerguelaw02_ClassTells_ok {x0 : Int} {r : Bool} (h : exerguelaw02_ClassTells x0 = some r) : SC Tryd.prog 3 [.int .i32 x0] [] (.bool r) [] := by
 refine kFn (fn := Tryd.f3) (fun F hFn hFH hFD => ?_)
 unfold exerguelaw02_ClassTells at h
 refine kSR ?_
 refine kC 1 [0,2] ?_
 refine kEN ?_
 refine kSR ?_
 obtain ⟨y1, hy2, h3⟩ := bindS h
 refine RJ.call0 (d := (some 8)) (f := 9) (args := []) (v := .bool y1) (tr2 := []) (by kernel_rfl) (by kernel_rfl) .nil (exerguelaw02_shown_ok hy2) (by kernel_rfl) ?_
 refine kC 1 [0,2,3] ?_
 refine kEN ?_
 refine kSR ?_
 refine kC 1 [0,2,3,10] ?_
 obtain ⟨y4, hy5, h6⟩ := bindS h3
 refine RJ.call0 (d := (some 11)) (f := 10) (args := [.int .i32 x0]) (v := .tup [.int .i64 y4.1, .bool y4.2]) (tr2 := []) (by kernel_rfl) (by kernel_rfl) (.cons (Le.refl _) .nil) (class_Value_ok hy5) (by kernel_rfl) ?_
 refine RJ.seg 5 [0, 2, 3, 4, 5] (L2 := [(0, .int .i32 x0), (2, .bool false), (3, .bool y1), (4, .int .i64 y4.1), (5, .bool y4.2)]) (H2 := []) (by kernel_rfl) ?_
 refine kEN ?_
 refine kSR ?_
 refine kC 1 [0,2,3,4,5,15] ?_
 obtain ⟨y7, hy8, h9⟩ := bindS h6
 refine RJ.call0 (d := (some 16)) (f := 11) (args := [.int .i32 x0]) (v := .tup [.int .i64 y7.1, .bool y7.2]) (tr2 := []) (by kernel_rfl) (by kernel_rfl) (.cons (Le.refl _) .nil) (exergueref02_Value_ok hy8) (by kernel_rfl) ?_
 refine kC 5 [0,2,3,4,5,6,7] ?_
 refine kEN ?_
 obtain ⟨s34, hy36, h38⟩ := bindS h9
 refine K.cutN (by kernel_rfl) (fun (s34 : Bool) => ([(2, .bool s34)], [])) s34 ?_ ?_
 ·refine kR ?_
  refine kC 2 [0,2,4,5,6,7,20] ?_
  refine RJ.caseB 20 (b := y1) (by kernel_rfl) (fun hb39 => ?_) (fun hb39 => ?_)
  ·have h40 := condT hb39 hy36
   refine RJ.seg 1 [0, 2, 4, 5, 6, 7, 20, 21] (L2 := [(0, .int .i32 x0), (2, .bool false), (4, .int .i64 y4.1), (5, .bool y4.2), (6, .int .i64 y7.1), (7, .bool y7.2), (20, .bool true), (21, .int .i32 x0)]) (H2 := []) (by kernel_rfl) ?_
   obtain ⟨y42, hy43, h44⟩ := bindS h40
   refine RJ.call0 (d := (some 22)) (f := 12) (args := [.int .i32 x0]) (v := .int .i64 y42) (tr2 := []) (by kernel_rfl) (by kernel_rfl) (.cons (Le.refl _) .nil) (class_Of_ok hy43) (by kernel_rfl) ?_
   refine kC 1 [0,2,4,5,6,7,20,22,23] ?_
   obtain ⟨y45, hy46, h47⟩ := bindS h44
   refine RJ.call0 (d := (some 24)) (f := 13) (args := [.int .i32 x0]) (v := .int .i64 y45) (tr2 := []) (by kernel_rfl) (by kernel_rfl) (.cons (Le.refl _) .nil) (exergueref02_Of_ok hy46) (by kernel_rfl) ?_
   refine kC 3 [0,2,4,5,6,7,27] ?_
   refine RJ.caseB 27 (b := (decide (y42 = y45))) (by kernel_rfl) (fun hb48 => ?_) (fun hb48 => ?_)
   ·have h49 := condT hb48 h47
    refine kC 5 [0,2,5,7,32] ?_
    refine RJ.caseB 32 (b := (decide (y4.1 = y7.1))) (by kernel_rfl) (fun hb51 => ?_) (fun hb51 => ?_)
    ·have h52 := condT hb51 h49
     refine RJ.seg 5 [0, 2, 37] (L2 := [(0, .int .i32 x0), (2, .bool false), (37, .bool (y4.2 == y7.2))]) (H2 := []) (by kernel_rfl) ?_
     refine RJ.caseB 37 (b := (y4.2 == y7.2)) (by kernel_rfl) (fun hb54 => ?_) (fun hb54 => ?_)
     ·have h55 := condT hb54 h52
      refine kC 1 [0,2,37,38] ?_
      obtain ⟨y57, hy58, h59⟩ := bindS h55
      refine RJ.call0 (d := (some 39)) (f := 14) (args := [.int .i32 x0]) (v := .bool y57) (tr2 := []) (by kernel_rfl) (by kernel_rfl) (.cons (Le.refl _) .nil) (class_Zero_ok hy58) (by kernel_rfl) ?_
      refine kC 1 [2,37,39,40] ?_
      obtain ⟨y60, hy61, h62⟩ := bindS h59
      refine RJ.call0 (d := (some 41)) (f := 15) (args := [.int .i32 x0]) (v := .bool y60) (tr2 := []) (by kernel_rfl) (by kernel_rfl) (.cons (Le.refl _) .nil) (exergueref02_Zero_ok hy61) (by kernel_rfl) ?_
      refine kC 3 [2] ?_
      refine kE ?_
      obtain rfl := oi h62
      exact kN [2]
     ·have h56 := condF hb54 h52
      refine kC 7 [2] ?_
      refine kE ?_
      obtain rfl := oi h56
      exact kN [2]
    ·have h53 := condF hb51 h49
     refine RJ.seg 12 [2] (L2 := [(2, .bool false)]) (H2 := []) (by kernel_rfl) ?_
     refine kE ?_
     obtain rfl := oi h53
     exact kN [2]
   ·have h50 := condF hb48 h47
    refine kC 17 [2] ?_
    refine kE ?_
    obtain rfl := oi h50
    exact kN [2]
  ·have h41 := condF hb39 hy36
   refine RJ.seg 24 [2] (L2 := [(2, .bool false)]) (H2 := []) (by kernel_rfl) ?_
   refine kE ?_
   obtain rfl := oi h41
   exact kN [2]
 ·refine kX ?_
  obtain rfl := oi h38
  exact kZ hFn hFH hFD

def exergueref02_Calm (x0 : List Int) : Option (Bool) :=
 (Option.bind (loopN (fun (s207 : Int) => (bif (decide (s207 < (x0.length : Int))) then (Option.bind (bif inR s207 x0.length then (Option.bind (exergueref02_Of (nth x0 s207)) fun y379 => (Option.bind (bif (decide (y379 = 1)) then (some true) else (bif (decide (y379 = 3)) then (some true) else (some (decide (y379 = 6))))) fun (s388 : Bool) => (bif s388 then (some (.inr (.inr (.inr false)))) else (some (.inl ()))))) else none) (joinX fun (s373 : Unit) => (some (.inl (IntKind.wrap .i64 (s207 + 1)))))) else (some (.inr (.inl ()))))) big 0) (joinX fun (s202 : Unit) => (some true)))
theorem exergueref02_Calm_ok {x0 : List Int} {r : Bool} (h : exergueref02_Calm x0 = some r) : SC Tryd.prog 17 [lsv (encI .i32) 1 x0] [] (.bool r) [] := by
 refine kFn (fn := Tryd.f17) (fun F hFn hFH hFD => ?_)
 unfold exergueref02_Calm at h
 refine kSR ?_
 refine kC 1 [0,2] ?_
 refine kEN ?_
 obtain ⟨y203, hy204, h205⟩ := bindS h
 refine K.cutX (by kernel_rfl) (fun (s202 : Unit) => ([(2, .bool false)], [])) y203 ?_ (fun s202 hs => ?_)
 ·refine kSR ?_
  refine kC 1 [0,2,3] ?_
  refine kEN ?_
  refine K.block 0 (by kernel_rfl) ?_
  refine K.loop (by kernel_rfl) (fun (s207 : Int) => ([(0, lsv (encI .i32) 1 x0), (2, .bool false), (3, .int .i64 s207)], [])) hy204 [0, 2, 3] (by kernel_rfl) (by kernel_rfl) (fun s207 x341 hs340 => ?_)
  refine kS ?_
  refine kSR ?_
  refine kC 4 [0,2,3,8] ?_
  refine kEN ?_
  refine J.caseB 8 (b := (decide (s207 < (x0.length : Int)))) (by kernel_rfl) (fun hb342 => ?_) (fun hb342 => ?_)
  ·have h343 := condT hb342 hs340
   refine kT ?_
   refine kK ?_
   refine PJ.next ?_
   obtain ⟨y374, hy375, h376⟩ := bindS h343
   refine K.cutX (by kernel_rfl) (fun (s373 : Unit) => ([(0, lsv (encI .i32) 1 x0), (2, .bool false), (3, .int .i64 s207)], [])) y374 ?_ (fun s373 hs => ?_)
   ·refine K.block 1 (by kernel_rfl) ?_
    refine kSR ?_
    refine kC 2 [0,2,3,11,12] ?_
    obtain ⟨hm, h378⟩ := asrt hy375
    refine RJ.rel (d := (some 13)) (ef := ⟨.ep (((x0.flatMap (encI .i32)).drop ((s207 : Int).toNat * 1)).take 1), [], []⟩) (ef' := ⟨.ep ((encI .i32) (nth x0 s207)), [], []⟩) (c := inR s207 x0.length) (tr2 := []) (H2 := []) (by kernel_rfl) hm (fun hc => N.idx (encI_len .i32) hc) (by kernel_rfl) ?_
    refine kC 1 [0,2,3,14] ?_
    obtain ⟨y379, hy380, h381⟩ := bindS h378
    refine RJ.call0 (d := (some 15)) (f := 13) (args := [.int .i32 (nth x0 s207)]) (v := .int .i64 y379) (tr2 := []) (by kernel_rfl) (by kernel_rfl) (.cons (Le.refl _) .nil) (exergueref02_Of_ok hy380) (by kernel_rfl) ?_
    refine RJ.seg 1 [0, 2, 3, 4] (L2 := [(0, lsv (encI .i32) 1 x0), (2, .bool false), (3, .int .i64 s207), (4, .int .i64 y379)]) (H2 := []) (by kernel_rfl) ?_
    refine kEN ?_
    obtain ⟨s388, hy390, h392⟩ := bindS h381
    refine K.cutN (by kernel_rfl) (fun (s388 : Bool) => ([(0, lsv (encI .i32) 1 x0), (2, .bool false), (3, .int .i64 s207), (25, .bool s388)], [])) s388 ?_ ?_
    ·refine kR ?_
     refine kC 3 [0,2,3,4,18] ?_
     refine RJ.caseB 18 (b := (decide (y379 = 1))) (by kernel_rfl) (fun hb393 => ?_) (fun hb393 => ?_)
     ·have h394 := condT hb393 hy390
      refine kC 7 [0,2,3,25] ?_
      refine kE ?_
      obtain rfl := oi h394
      exact kN [0, 2, 3, 25]
     ·have h395 := condF hb393 hy390
      refine kC 4 [0,2,3,4,22] ?_
      refine RJ.caseB 22 (b := (decide (y379 = 3))) (by kernel_rfl) (fun hb396 => ?_) (fun hb396 => ?_)
      ·have h397 := condT hb396 h395
       refine kC 3 [0,2,3,25] ?_
       refine kE ?_
       obtain rfl := oi h397
       exact kN [0, 2, 3, 25]
      ·have h398 := condF hb396 h395
       refine kC 3 [0,2,3,25] ?_
       refine kE ?_
       obtain rfl := oi h398
       exact kN [0, 2, 3, 25]
    ·refine J.caseB 25 (b := s388) (by kernel_rfl) (fun hb399 => ?_) (fun hb399 => ?_)
     ·have h400 := condT hb399 h392
      refine kT ?_
      refine kSR ?_
      refine kC 1 [0,2,3] ?_
      refine kEN ?_
      refine kX ?_
      refine PJ.blockRet ?_
      obtain rfl := oi h400
      have h402 := joinX_inr h376
      refine PJ.cutXr (fun e => nomatch e) ?_
      obtain rfl := oi h402
      refine PJ.loopOut (fun e => nomatch e) (fun he405 => ?_)
      have h403 := congrArg some he405
      refine PJ.blockRet ?_
      obtain rfl := oi h403
      have h404 := joinX_inr h205
      refine PJ.cutXr (fun e => nomatch e) ?_
      obtain rfl := oi h404
      exact kZ hFn hFH hFD
     ·have h401 := condF hb399 h392
      refine kF ?_
      refine kK ?_
      refine PJ.blockNormal ?_
      obtain rfl := oi h401
      exact PJ.cutXl [0, 2, 3] (by kernel_rfl) (by kernel_rfl)
   ·subst hs
    have h377 := joinX_inl h376
    refine kR ?_
    refine kC 3 [0,2,3] ?_
    refine kE ?_
    obtain rfl := oi h377
    exact PJ.loopNext [0, 2, 3] (by kernel_rfl) (by kernel_rfl)
  ·have h344 := condF hb342 hs340
   refine kF ?_
   refine K.exit 0 (by kernel_rfl) ?_
   refine PJ.passExit ?_
   obtain rfl := oi h344
   refine PJ.loopOut (fun e => nomatch e) (fun he407 => ?_)
   have h406 := congrArg some he407
   refine PJ.blockOut ?_
   obtain rfl := oi h406
   exact PJ.cutXl [2] (by kernel_rfl) (by kernel_rfl)
 ·subst hs
  have h206 := joinX_inl h205
  refine kSR ?_
  refine kC 1 [2] ?_
  refine kEN ?_
  refine kX ?_
  obtain rfl := oi h206
  exact kZ hFn hFH hFD

def exergueref02_Turns (x0 : List Int) : Option (Bool) :=
 (Option.bind (loopN (fun (s561 : Int × Int) => (bif (decide (s561.2 < (x0.length : Int))) then (Option.bind (bif inR s561.2 x0.length then (Option.bind (Option.bind (bif (decide ((IntKind.wrap .i64 (nth x0 s561.2)) ≥ 8234)) then (some ((decide ((IntKind.wrap .i64 (nth x0 s561.2)) ≤ 8238)))) else (some false)) fun (s1055 : Bool) => (bif s1055 then (some (.inr (.inr (.inr (.inr false))))) else (some (.inl ())))) (joinX fun (s1047 : Unit) => (Option.bind (Option.bind (bif (decide ((IntKind.wrap .i64 (nth x0 s561.2)) ≥ 8294)) then (some ((decide ((IntKind.wrap .i64 (nth x0 s561.2)) ≤ 8296)))) else (some false)) fun (s1093 : Bool) => (bif s1093 then (some (IntKind.wrap .i64 (s561.1 + 1))) else (some s561.1))) fun (s1085 : Int) => (bif (decide ((IntKind.wrap .i64 (nth x0 s561.2)) = 8297)) then (bif (decide (s1085 = 0)) then (some (.inr (.inr (.inr false)))) else (some (.inl (IntKind.wrap .i64 (s1085 - 1))))) else (some (.inl s1085)))))) else none) (joinX fun (s1022 : Int) => (some (.inl (s1022, (IntKind.wrap .i64 (s561.2 + 1))))))) else (some (.inr (.inl s561.1))))) big (0, 0)) (joinX fun (s556 : Int) => (some (decide (s556 = 0)))))
theorem exergueref02_Turns_ok {x0 : List Int} {r : Bool} (h : exergueref02_Turns x0 = some r) : SC Tryd.prog 19 [lsv (encI .i32) 1 x0] [] (.bool r) [] := by
 refine kFn (fn := Tryd.f19) (fun F hFn hFH hFD => ?_)
 unfold exergueref02_Turns at h
 refine kSR ?_
 refine kC 1 [0,2] ?_
 refine kEN ?_
 refine kSR ?_
 refine kC 1 [0,2,3] ?_
 refine kEN ?_
 obtain ⟨y557, hy558, h559⟩ := bindS h
 refine K.cutX (by kernel_rfl) (fun (s556 : Int) => ([(2, .bool false), (3, .int .i64 s556)], [])) y557 ?_ (fun s556 hs => ?_)
 ·refine kSR ?_
  refine kC 1 [0,2,3,4] ?_
  refine kEN ?_
  refine K.block 0 (by kernel_rfl) ?_
  refine K.loop (by kernel_rfl) (fun (s561 : Int × Int) => ([(0, lsv (encI .i32) 1 x0), (2, .bool false), (3, .int .i64 s561.1), (4, .int .i64 s561.2)], [])) hy558 [0, 2, 3, 4] (by kernel_rfl) (by kernel_rfl) (fun s561 x931 hs930 => ?_)
  refine kS ?_
  refine kSR ?_
  refine kC 4 [0,2,3,4,9] ?_
  refine kEN ?_
  refine J.caseB 9 (b := (decide (s561.2 < (x0.length : Int)))) (by kernel_rfl) (fun hb932 => ?_) (fun hb932 => ?_)
  ·have h933 := condT hb932 hs930
   refine kT ?_
   refine kK ?_
   refine PJ.next ?_
   obtain ⟨y1023, hy1024, h1025⟩ := bindS h933
   refine K.cutX (by kernel_rfl) (fun (s1022 : Int) => ([(0, lsv (encI .i32) 1 x0), (2, .bool false), (3, .int .i64 s1022), (4, .int .i64 s561.2)], [])) y1023 ?_ (fun s1022 hs => ?_)
   ·refine K.block 1 (by kernel_rfl) ?_
    refine kSR ?_
    refine kC 2 [0,2,3,4,12,13] ?_
    obtain ⟨hm, h1027⟩ := asrt hy1024
    refine RJ.rel (d := (some 14)) (ef := ⟨.ep (((x0.flatMap (encI .i32)).drop ((s561.2 : Int).toNat * 1)).take 1), [], []⟩) (ef' := ⟨.ep ((encI .i32) (nth x0 s561.2)), [], []⟩) (c := inR s561.2 x0.length) (tr2 := []) (H2 := []) (by kernel_rfl) hm (fun hc => N.idx (encI_len .i32) hc) (by kernel_rfl) ?_
    refine kC 3 [0,2,3,4,5] ?_
    refine kEN ?_
    obtain ⟨y1048, hy1049, h1050⟩ := bindS h1027
    refine K.cutX (by kernel_rfl) (fun (s1047 : Unit) => ([(0, lsv (encI .i32) 1 x0), (2, .bool false), (3, .int .i64 s561.1), (4, .int .i64 s561.2), (5, .int .i64 (IntKind.wrap .i64 (nth x0 s561.2)))], [])) y1048 ?_ (fun s1047 hs => ?_)
    ·obtain ⟨s1055, hy1057, h1059⟩ := bindS hy1049
     refine K.cutN (by kernel_rfl) (fun (s1055 : Bool) => ([(0, lsv (encI .i32) 1 x0), (2, .bool false), (3, .int .i64 s561.1), (4, .int .i64 s561.2), (5, .int .i64 (IntKind.wrap .i64 (nth x0 s561.2))), (22, .bool s1055)], [])) s1055 ?_ ?_
     ·refine kR ?_
      refine RJ.seg 3 [0, 2, 3, 4, 5, 19] (L2 := [(0, lsv (encI .i32) 1 x0), (2, .bool false), (3, .int .i64 s561.1), (4, .int .i64 s561.2), (5, .int .i64 (IntKind.wrap .i64 (nth x0 s561.2))), (19, .bool ((decide ((IntKind.wrap .i64 (nth x0 s561.2)) ≥ 8234))))]) (H2 := []) (by kernel_rfl) ?_
      refine RJ.caseB 19 (b := (decide ((IntKind.wrap .i64 (nth x0 s561.2)) ≥ 8234))) (by kernel_rfl) (fun hb1060 => ?_) (fun hb1060 => ?_)
      ·have h1061 := condT hb1060 hy1057
       refine kC 3 [0,2,3,4,5,22] ?_
       refine kE ?_
       obtain rfl := oi h1061
       exact kN [0, 2, 3, 4, 5, 22]
      ·have h1062 := condF hb1060 hy1057
       refine kC 3 [0,2,3,4,5,22] ?_
       refine kE ?_
       obtain rfl := oi h1062
       exact kN [0, 2, 3, 4, 5, 22]
     ·refine J.caseB 22 (b := s1055) (by kernel_rfl) (fun hb1063 => ?_) (fun hb1063 => ?_)
      ·have h1064 := condT hb1063 h1059
       refine kT ?_
       refine kSR ?_
       refine kC 1 [0,2,3,4,5] ?_
       refine kEN ?_
       refine kX ?_
       obtain rfl := oi h1064
       have h1066 := joinX_inr h1050
       refine PJ.cutXr (fun e => nomatch e) ?_
       refine PJ.blockRet ?_
       obtain rfl := oi h1066
       have h1067 := joinX_inr h1025
       refine PJ.cutXr (fun e => nomatch e) ?_
       obtain rfl := oi h1067
       refine PJ.loopOut (fun e => nomatch e) (fun he1070 => ?_)
       have h1068 := congrArg some he1070
       refine PJ.blockRet ?_
       obtain rfl := oi h1068
       have h1069 := joinX_inr h559
       refine PJ.cutXr (fun e => nomatch e) ?_
       obtain rfl := oi h1069
       exact kZ hFn hFH hFD
      ·have h1065 := condF hb1063 h1059
       refine kF ?_
       refine kK ?_
       obtain rfl := oi h1065
       exact PJ.cutXl [0, 2, 3, 4, 5] (by kernel_rfl) (by kernel_rfl)
    ·subst hs
     have h1051 := joinX_inl h1050
     obtain ⟨s1085, hy1087, h1089⟩ := bindS h1051
     refine K.cutN (by kernel_rfl) (fun (s1085 : Int) => ([(0, lsv (encI .i32) 1 x0), (2, .bool false), (3, .int .i64 s1085), (4, .int .i64 s561.2), (5, .int .i64 (IntKind.wrap .i64 (nth x0 s561.2)))], [])) s1085 ?_ ?_
     ·obtain ⟨s1093, hy1095, h1097⟩ := bindS hy1087
      refine K.cutN (by kernel_rfl) (fun (s1093 : Bool) => ([(0, lsv (encI .i32) 1 x0), (2, .bool false), (3, .int .i64 s561.1), (4, .int .i64 s561.2), (5, .int .i64 (IntKind.wrap .i64 (nth x0 s561.2))), (28, .bool s1093)], [])) s1093 ?_ ?_
      ·refine kR ?_
       refine kC 3 [0,2,3,4,5,25] ?_
       refine RJ.caseB 25 (b := (decide ((IntKind.wrap .i64 (nth x0 s561.2)) ≥ 8294))) (by kernel_rfl) (fun hb1098 => ?_) (fun hb1098 => ?_)
       ·have h1099 := condT hb1098 hy1095
        refine kC 3 [0,2,3,4,5,28] ?_
        refine kE ?_
        obtain rfl := oi h1099
        exact kN [0, 2, 3, 4, 5, 28]
       ·have h1100 := condF hb1098 hy1095
        refine kC 3 [0,2,3,4,5,28] ?_
        refine kE ?_
        obtain rfl := oi h1100
        exact kN [0, 2, 3, 4, 5, 28]
      ·refine J.caseB 28 (b := s1093) (by kernel_rfl) (fun hb1101 => ?_) (fun hb1101 => ?_)
       ·have h1102 := condT hb1101 h1097
        refine kT ?_
        refine kR ?_
        refine kC 3 [0,2,3,4,5] ?_
        refine kE ?_
        obtain rfl := oi h1102
        exact kN [0, 2, 3, 4, 5]
       ·have h1103 := condF hb1101 h1097
        refine kF ?_
        refine kK ?_
        obtain rfl := oi h1103
        exact kN [0, 2, 3, 4, 5]
     ·refine kSR ?_
      refine kC 2 [0,2,3,4,32] ?_
      refine kEN ?_
      refine J.caseB 32 (b := (decide ((IntKind.wrap .i64 (nth x0 s561.2)) = 8297))) (by kernel_rfl) (fun hb1104 => ?_) (fun hb1104 => ?_)
      ·have h1105 := condT hb1104 h1089
       refine kT ?_
       refine kS ?_
       refine kSR ?_
       refine kC 2 [0,2,3,4,34] ?_
       refine kEN ?_
       refine J.caseB 34 (b := (decide (s1085 = 0))) (by kernel_rfl) (fun hb1107 => ?_) (fun hb1107 => ?_)
       ·have h1108 := condT hb1107 h1105
        refine kT ?_
        refine kSR ?_
        refine kC 1 [0,2,3,4] ?_
        refine kEN ?_
        refine kX ?_
        refine PJ.passRet ?_
        refine PJ.blockRet ?_
        obtain rfl := oi h1108
        have h1110 := joinX_inr h1025
        refine PJ.cutXr (fun e => nomatch e) ?_
        obtain rfl := oi h1110
        refine PJ.loopOut (fun e => nomatch e) (fun he1113 => ?_)
        have h1111 := congrArg some he1113
        refine PJ.blockRet ?_
        obtain rfl := oi h1111
        have h1112 := joinX_inr h559
        refine PJ.cutXr (fun e => nomatch e) ?_
        obtain rfl := oi h1112
        exact kZ hFn hFH hFD
       ·have h1109 := condF hb1107 h1105
        refine kF ?_
        refine kK ?_
        refine PJ.next ?_
        refine kR ?_
        refine kC 3 [0,2,3,4] ?_
        refine kE ?_
        refine PJ.blockNormal ?_
        obtain rfl := oi h1109
        exact PJ.cutXl [0, 2, 3, 4] (by kernel_rfl) (by kernel_rfl)
      ·have h1106 := condF hb1104 h1089
       refine kF ?_
       refine kK ?_
       refine PJ.blockNormal ?_
       obtain rfl := oi h1106
       exact PJ.cutXl [0, 2, 3, 4] (by kernel_rfl) (by kernel_rfl)
   ·subst hs
    have h1026 := joinX_inl h1025
    refine kR ?_
    refine kC 3 [0,2,3,4] ?_
    refine kE ?_
    obtain rfl := oi h1026
    exact PJ.loopNext [0, 2, 3, 4] (by kernel_rfl) (by kernel_rfl)
  ·have h934 := condF hb932 hs930
   refine kF ?_
   refine K.exit 0 (by kernel_rfl) ?_
   refine PJ.passExit ?_
   obtain rfl := oi h934
   refine PJ.loopOut (fun e => nomatch e) (fun he1115 => ?_)
   have h1114 := congrArg some he1115
   refine PJ.blockOut ?_
   obtain rfl := oi h1114
   exact PJ.cutXl [2, 3] (by kernel_rfl) (by kernel_rfl)
 ·subst hs
  have h560 := joinX_inl h559
  refine kSR ?_
  refine kC 3 [2] ?_
  refine kEN ?_
  refine kX ?_
  obtain rfl := oi h560
  exact kZ hFn hFH hFD

noncomputable def exerguelaw02_ClassRows (x0 : List Int) : Option (Bool) :=
 (Option.bind exerguelaw02_shown fun y1 => (bif (decide ((x0.length : Int) > 1000)) then (some y1) else (Option.bind (bif y1 then (Option.bind (class_Calm x0) fun y33 => (Option.bind (exergueref02_Calm x0) fun y36 => (bif (y33 == y36) then (Option.bind (class_Turns x0) fun y42 => (Option.bind (exergueref02_Turns x0) fun y45 => (some (y42 == y45)))) else (some false)))) else (some false)) fun (s25 : Bool) => (some s25))))
theorem exerguelaw02_ClassRows_ok {x0 : List Int} {r : Bool} (h : exerguelaw02_ClassRows x0 = some r) : SC Tryd.prog 4 [lsv (encI .i32) 1 x0] [] (.bool r) [] := by
 refine kFn (fn := Tryd.f4) (fun F hFn hFH hFD => ?_)
 unfold exerguelaw02_ClassRows at h
 refine kSR ?_
 refine kC 1 [0,2] ?_
 refine kEN ?_
 refine kSR ?_
 obtain ⟨y1, hy2, h3⟩ := bindS h
 refine RJ.call0 (d := (some 4)) (f := 9) (args := []) (v := .bool y1) (tr2 := []) (by kernel_rfl) (by kernel_rfl) .nil (exerguelaw02_shown_ok hy2) (by kernel_rfl) ?_
 refine kC 1 [0,2,3] ?_
 refine kEN ?_
 refine kS ?_
 refine kSR ?_
 refine kC 3 [0,2,3,7] ?_
 refine kEN ?_
 refine J.caseB 7 (b := (decide ((x0.length : Int) > 1000))) (by kernel_rfl) (fun hb4 => ?_) (fun hb4 => ?_)
 ·have h5 := condT hb4 h3
  refine kT ?_
  refine kSR ?_
  refine RJ.seg 2 [0, 2, 3] (L2 := [(0, lsv (encI .i32) 1 x0), (2, .bool y1), (3, .bool y1)]) (H2 := []) (by kernel_rfl) ?_
  refine kEN ?_
  refine kX ?_
  refine PJ.passRet ?_
  obtain rfl := oi h5
  exact kZ hFn hFH hFD
 ·have h6 := condF hb4 h3
  refine kF ?_
  refine kK ?_
  refine PJ.next ?_
  obtain ⟨s25, hy27, h29⟩ := bindS h6
  refine K.cutN (by kernel_rfl) (fun (s25 : Bool) => ([(2, .bool s25)], [])) s25 ?_ ?_
  ·refine kR ?_
   refine RJ.seg 2 [0, 2, 10] (L2 := [(0, lsv (encI .i32) 1 x0), (2, .bool false), (10, .bool y1)]) (H2 := []) (by kernel_rfl) ?_
   refine RJ.caseB 10 (b := y1) (by kernel_rfl) (fun hb30 => ?_) (fun hb30 => ?_)
   ·have h31 := condT hb30 hy27
    refine kC 1 [0,2,10,11] ?_
    obtain ⟨y33, hy34, h35⟩ := bindS h31
    refine RJ.call0 (d := (some 12)) (f := 16) (args := [lsv (encI .i32) 1 x0]) (v := .bool y33) (tr2 := []) (by kernel_rfl) (by kernel_rfl) (.cons (Le.refl _) .nil) (class_Calm_ok hy34) (by kernel_rfl) ?_
    refine kC 1 [0,2,10,12,13] ?_
    obtain ⟨y36, hy37, h38⟩ := bindS h35
    refine RJ.call0 (d := (some 14)) (f := 17) (args := [lsv (encI .i32) 1 x0]) (v := .bool y36) (tr2 := []) (by kernel_rfl) (by kernel_rfl) (.cons (Le.refl _) .nil) (exergueref02_Calm_ok hy37) (by kernel_rfl) ?_
    refine kC 3 [0,2,17] ?_
    refine RJ.caseB 17 (b := (y33 == y36)) (by kernel_rfl) (fun hb39 => ?_) (fun hb39 => ?_)
    ·have h40 := condT hb39 h38
     refine RJ.seg 1 [0, 2, 17, 18] (L2 := [(0, lsv (encI .i32) 1 x0), (2, .bool false), (17, .bool true), (18, lsv (encI .i32) 1 x0)]) (H2 := []) (by kernel_rfl) ?_
     obtain ⟨y42, hy43, h44⟩ := bindS h40
     refine RJ.call0 (d := (some 19)) (f := 18) (args := [lsv (encI .i32) 1 x0]) (v := .bool y42) (tr2 := []) (by kernel_rfl) (by kernel_rfl) (.cons (Le.refl _) .nil) (class_Turns_ok hy43) (by kernel_rfl) ?_
     refine kC 1 [2,17,19,20] ?_
     obtain ⟨y45, hy46, h47⟩ := bindS h44
     refine RJ.call0 (d := (some 21)) (f := 19) (args := [lsv (encI .i32) 1 x0]) (v := .bool y45) (tr2 := []) (by kernel_rfl) (by kernel_rfl) (.cons (Le.refl _) .nil) (exergueref02_Turns_ok hy46) (by kernel_rfl) ?_
     refine kC 3 [2] ?_
     refine kE ?_
     obtain rfl := oi h47
     exact kN [2]
    ·have h41 := condF hb39 h38
     refine RJ.seg 7 [2] (L2 := [(2, .bool false)]) (H2 := []) (by kernel_rfl) ?_
     refine kE ?_
     obtain rfl := oi h41
     exact kN [2]
   ·have h32 := condF hb30 hy27
    refine kC 14 [2] ?_
    refine kE ?_
    obtain rfl := oi h32
    exact kN [2]
  ·refine kX ?_
   obtain rfl := oi h29
   exact kZ hFn hFH hFD

noncomputable def exerguelaw02_ClassBlocks (x0 : Int) : Option (Bool) :=
 (Option.bind exerguelaw02_shown fun y1 => (Option.bind (class_Value x0) fun y4 => (Option.bind (Option.bind (Option.bind (class_Of x0) fun y116 => (bif (y4.2 != (decide (y116 = 5))) then (some true) else (bif (decide (y4.1 < 0)) then (some true) else (bif (decide (y4.1 > 9)) then (some true) else (bif (!y4.2) then (bif (decide (¬ y4.1 = 0)) then (some true) else (bif y4.2 then (Option.bind (class_Zero ((IntKind.wrap .i32 (x0 - (IntKind.wrap .i32 y4.1))))) fun y137 => (some (!y137))) else (some false))) else (bif y4.2 then (Option.bind (class_Zero ((IntKind.wrap .i32 (x0 - (IntKind.wrap .i32 y4.1))))) fun y143 => (some (!y143))) else (some false))))))) fun (s111 : Bool) => (bif s111 then (some (.inr false)) else (some (.inl ())))) (joinX fun (s76 : Unit) => (Option.bind (class_Zero x0) fun y150 => (bif (!y150) then (Option.bind (bif y1 then (bif (!y4.2) then (some true) else (some (decide (y4.1 > 0)))) else (some false)) fun (s162 : Bool) => (some s162)) else (Option.bind (loopN (fun (s337 : Int) => (bif (decide (s337 < 10)) then (Option.bind (Option.bind (class_Value ((IntKind.wrap .i32 (x0 + (IntKind.wrap .i32 s337))))) fun y473 => (Option.bind (bif (!y473.2) then (some true) else (some (decide (¬ y473.1 = s337)))) fun (s479 : Bool) => (bif s479 then (some (.inr (.inr (.inr false)))) else (some (.inl ()))))) (joinX fun (s468 : Unit) => (some (.inl (IntKind.wrap .i64 (s337 + 1)))))) else (some (.inr (.inl ()))))) big 0) (joinX fun (s332 : Unit) => (Option.bind (bif y1 then (some (decide (y4.1 = 0))) else (some false)) fun (s499 : Bool) => (some s499))))))))))
theorem exerguelaw02_ClassBlocks_ok {x0 : Int} {r : Bool} (h : exerguelaw02_ClassBlocks x0 = some r) : SC Tryd.prog 5 [.int .i32 x0] [] (.bool r) [] := by
 refine kFn (fn := Tryd.f5) (fun F hFn hFH hFD => ?_)
 unfold exerguelaw02_ClassBlocks at h
 refine kSR ?_
 refine kC 1 [0,2] ?_
 refine kEN ?_
 refine kSR ?_
 obtain ⟨y1, hy2, h3⟩ := bindS h
 refine RJ.call0 (d := (some 9)) (f := 9) (args := []) (v := .bool y1) (tr2 := []) (by kernel_rfl) (by kernel_rfl) .nil (exerguelaw02_shown_ok hy2) (by kernel_rfl) ?_
 refine kC 1 [0,2,3] ?_
 refine kEN ?_
 refine kSR ?_
 refine kC 1 [0,2,3,11] ?_
 obtain ⟨y4, hy5, h6⟩ := bindS h3
 refine RJ.call0 (d := (some 12)) (f := 10) (args := [.int .i32 x0]) (v := .tup [.int .i64 y4.1, .bool y4.2]) (tr2 := []) (by kernel_rfl) (by kernel_rfl) (.cons (Le.refl _) .nil) (class_Value_ok hy5) (by kernel_rfl) ?_
 refine RJ.seg 5 [0, 2, 3, 4, 5] (L2 := [(0, .int .i32 x0), (2, .bool false), (3, .bool y1), (4, .int .i64 y4.1), (5, .bool y4.2)]) (H2 := []) (by kernel_rfl) ?_
 refine kEN ?_
 obtain ⟨y77, hy78, h79⟩ := bindS h6
 refine K.cutX (by kernel_rfl) (fun (s76 : Unit) => ([(0, .int .i32 x0), (2, .bool false), (3, .bool y1), (4, .int .i64 y4.1), (5, .bool y4.2)], [])) y77 ?_ (fun s76 hs => ?_)
 ·obtain ⟨s111, hy113, h115⟩ := bindS hy78
  refine K.cutN (by kernel_rfl) (fun (s111 : Bool) => ([(0, .int .i32 x0), (2, .bool false), (3, .bool y1), (4, .int .i64 y4.1), (5, .bool y4.2), (46, .bool s111)], [])) s111 ?_ ?_
  ·refine kR ?_
   refine kC 2 [0,2,3,4,5,15,16] ?_
   obtain ⟨y116, hy117, h118⟩ := bindS hy113
   refine RJ.call0 (d := (some 17)) (f := 12) (args := [.int .i32 x0]) (v := .int .i64 y116) (tr2 := []) (by kernel_rfl) (by kernel_rfl) (.cons (Le.refl _) .nil) (class_Of_ok hy117) (by kernel_rfl) ?_
   refine kC 3 [0,2,3,4,5,20] ?_
   refine RJ.caseB 20 (b := (y4.2 != (decide (y116 = 5)))) (by kernel_rfl) (fun hb119 => ?_) (fun hb119 => ?_)
   ·have h120 := condT hb119 h118
    refine kC 26 [0,2,3,4,5,46] ?_
    refine kE ?_
    obtain rfl := oi h120
    exact kN [0, 2, 3, 4, 5, 46]
   ·have h121 := condF hb119 h118
    refine kC 4 [0,2,3,4,5,24] ?_
    refine RJ.caseB 24 (b := (decide (y4.1 < 0))) (by kernel_rfl) (fun hb122 => ?_) (fun hb122 => ?_)
    ·have h123 := condT hb122 h121
     refine RJ.seg 22 [0, 2, 3, 4, 5, 46] (L2 := [(0, .int .i32 x0), (2, .bool false), (3, .bool y1), (4, .int .i64 y4.1), (5, .bool y4.2), (46, .bool true)]) (H2 := []) (by kernel_rfl) ?_
     refine kE ?_
     obtain rfl := oi h123
     exact kN [0, 2, 3, 4, 5, 46]
    ·have h124 := condF hb122 h121
     refine RJ.seg 4 [0, 2, 3, 4, 5, 28] (L2 := [(0, .int .i32 x0), (2, .bool false), (3, .bool y1), (4, .int .i64 y4.1), (5, .bool y4.2), (28, .bool (decide (y4.1 > 9)))]) (H2 := []) (by kernel_rfl) ?_
     refine RJ.caseB 28 (b := (decide (y4.1 > 9))) (by kernel_rfl) (fun hb125 => ?_) (fun hb125 => ?_)
     ·have h126 := condT hb125 h124
      refine kC 18 [0,2,3,4,5,46] ?_
      refine kE ?_
      obtain rfl := oi h126
      exact kN [0, 2, 3, 4, 5, 46]
     ·have h127 := condF hb125 h124
      refine kC 3 [0,2,3,4,5,28,31] ?_
      refine RJ.caseB 31 (b := (!y4.2)) (by kernel_rfl) (fun hb128 => ?_) (fun hb128 => ?_)
      ·have h129 := condT hb128 h127
       refine kC 5 [0,2,3,4,5,36] ?_
       refine RJ.caseB 36 (b := (decide (¬ y4.1 = 0))) (by kernel_rfl) (fun hb131 => ?_) (fun hb131 => ?_)
       ·have h132 := condT hb131 h129
        refine kC 10 [0,2,3,4,5,46] ?_
        refine kE ?_
        obtain rfl := oi h132
        exact kN [0, 2, 3, 4, 5, 46]
       ·have h133 := condF hb131 h129
        refine kC 2 [0,2,3,4,5,36,38] ?_
        refine RJ.caseB 38 (b := y4.2) (by kernel_rfl) (fun hb134 => ?_) (fun hb134 => ?_)
        ·have h135 := condT hb134 h133
         refine RJ.seg 4 [0, 2, 3, 4, 5, 36, 38, 42] (L2 := [(0, .int .i32 x0), (2, .bool false), (3, .bool y1), (4, .int .i64 y4.1), (5, .bool y4.2), (36, .bool false), (38, .bool true), (42, .int .i32 ((IntKind.wrap .i32 (x0 - (IntKind.wrap .i32 y4.1)))))]) (H2 := []) (by kernel_rfl) ?_
         obtain ⟨y137, hy138, h139⟩ := bindS h135
         refine RJ.call0 (d := (some 43)) (f := 14) (args := [.int .i32 ((IntKind.wrap .i32 (x0 - (IntKind.wrap .i32 y4.1))))]) (v := .bool y137) (tr2 := []) (by kernel_rfl) (by kernel_rfl) (.cons (Le.refl _) .nil) (class_Zero_ok hy138) (by kernel_rfl) ?_
         refine kC 3 [0,2,3,4,5,46] ?_
         refine kE ?_
         obtain rfl := oi h139
         exact kN [0, 2, 3, 4, 5, 46]
        ·have h136 := condF hb134 h133
         refine RJ.seg 8 [0, 2, 3, 4, 5, 46] (L2 := [(0, .int .i32 x0), (2, .bool false), (3, .bool y1), (4, .int .i64 y4.1), (5, .bool y4.2), (46, .bool false)]) (H2 := []) (by kernel_rfl) ?_
         refine kE ?_
         obtain rfl := oi h136
         exact kN [0, 2, 3, 4, 5, 46]
      ·have h130 := condF hb128 h127
       refine kC 7 [0,2,3,4,5,36,38] ?_
       refine RJ.caseB 38 (b := y4.2) (by kernel_rfl) (fun hb140 => ?_) (fun hb140 => ?_)
       ·have h141 := condT hb140 h130
        refine kC 4 [0,2,3,4,5,36,38,42] ?_
        obtain ⟨y143, hy144, h145⟩ := bindS h141
        refine RJ.call0 (d := (some 43)) (f := 14) (args := [.int .i32 ((IntKind.wrap .i32 (x0 - (IntKind.wrap .i32 y4.1))))]) (v := .bool y143) (tr2 := []) (by kernel_rfl) (by kernel_rfl) (.cons (Le.refl _) .nil) (class_Zero_ok hy144) (by kernel_rfl) ?_
        refine RJ.seg 3 [0, 2, 3, 4, 5, 46] (L2 := [(0, .int .i32 x0), (2, .bool false), (3, .bool y1), (4, .int .i64 y4.1), (5, .bool y4.2), (46, .bool (!y143))]) (H2 := []) (by kernel_rfl) ?_
        refine kE ?_
        obtain rfl := oi h145
        exact kN [0, 2, 3, 4, 5, 46]
       ·have h142 := condF hb140 h130
        refine kC 8 [0,2,3,4,5,46] ?_
        refine kE ?_
        obtain rfl := oi h142
        exact kN [0, 2, 3, 4, 5, 46]
  ·refine J.caseB 46 (b := s111) (by kernel_rfl) (fun hb146 => ?_) (fun hb146 => ?_)
   ·have h147 := condT hb146 h115
    refine kT ?_
    refine kSR ?_
    refine kC 1 [0,2,3,4,5] ?_
    refine kEN ?_
    refine kX ?_
    obtain rfl := oi h147
    have h149 := joinX_inr h79
    refine PJ.cutXr (fun e => nomatch e) ?_
    obtain rfl := oi h149
    exact kZ hFn hFH hFD
   ·have h148 := condF hb146 h115
    refine kF ?_
    refine kK ?_
    obtain rfl := oi h148
    exact PJ.cutXl [0, 2, 3, 4, 5] (by kernel_rfl) (by kernel_rfl)
 ·subst hs
  have h80 := joinX_inl h79
  refine kS ?_
  refine kSR ?_
  refine kC 1 [0,2,3,4,5,47] ?_
  obtain ⟨y150, hy151, h152⟩ := bindS h80
  refine RJ.call0 (d := (some 48)) (f := 14) (args := [.int .i32 x0]) (v := .bool y150) (tr2 := []) (by kernel_rfl) (by kernel_rfl) (.cons (Le.refl _) .nil) (class_Zero_ok hy151) (by kernel_rfl) ?_
  refine kC 1 [0,2,3,4,5,49] ?_
  refine kEN ?_
  refine J.caseB 49 (b := (!y150)) (by kernel_rfl) (fun hb153 => ?_) (fun hb153 => ?_)
  ·have h154 := condT hb153 h152
   refine kT ?_
   obtain ⟨s162, hy164, h166⟩ := bindS h154
   refine K.cutN (by kernel_rfl) (fun (s162 : Bool) => ([(0, .int .i32 x0), (2, .bool s162), (3, .bool y1), (4, .int .i64 y4.1)], [])) s162 ?_ ?_
   ·refine kR ?_
    refine kC 2 [0,2,3,4,5,51] ?_
    refine RJ.caseB 51 (b := y1) (by kernel_rfl) (fun hb167 => ?_) (fun hb167 => ?_)
    ·have h168 := condT hb167 hy164
     refine RJ.seg 3 [0, 2, 3, 4, 51, 54] (L2 := [(0, .int .i32 x0), (2, .bool false), (3, .bool y1), (4, .int .i64 y4.1), (51, .bool true), (54, .bool (!y4.2))]) (H2 := []) (by kernel_rfl) ?_
     refine RJ.caseB 54 (b := (!y4.2)) (by kernel_rfl) (fun hb170 => ?_) (fun hb170 => ?_)
     ·have h171 := condT hb170 h168
      refine kC 5 [0,2,3,4] ?_
      refine kE ?_
      obtain rfl := oi h171
      exact kN [0, 2, 3, 4]
     ·have h172 := condF hb170 h168
      refine kC 5 [0,2,3,4] ?_
      refine kE ?_
      obtain rfl := oi h172
      exact kN [0, 2, 3, 4]
    ·have h169 := condF hb167 hy164
     refine RJ.seg 8 [0, 2, 3, 4] (L2 := [(0, .int .i32 x0), (2, .bool false), (3, .bool y1), (4, .int .i64 y4.1)]) (H2 := []) (by kernel_rfl) ?_
     refine kE ?_
     obtain rfl := oi h169
     exact kN [0, 2, 3, 4]
   ·refine kX ?_
    refine PJ.passRet ?_
    obtain rfl := oi h166
    exact kZ hFn hFH hFD
  ·have h155 := condF hb153 h152
   refine kF ?_
   refine kK ?_
   refine PJ.next ?_
   obtain ⟨y333, hy334, h335⟩ := bindS h155
   refine K.cutX (by kernel_rfl) (fun (s332 : Unit) => ([(2, .bool false), (3, .bool y1), (4, .int .i64 y4.1)], [])) y333 ?_ (fun s332 hs => ?_)
   ·refine kSR ?_
    refine kC 1 [0,2,3,4,6] ?_
    refine kEN ?_
    refine K.block 0 (by kernel_rfl) ?_
    refine K.loop (by kernel_rfl) (fun (s337 : Int) => ([(0, .int .i32 x0), (2, .bool false), (3, .bool y1), (4, .int .i64 y4.1), (6, .int .i64 s337)], [])) hy334 [0, 2, 3, 4, 6] (by kernel_rfl) (by kernel_rfl) (fun s337 x443 hs442 => ?_)
    refine kS ?_
    refine kSR ?_
    refine kC 2 [0,2,3,4,6,60] ?_
    refine kEN ?_
    refine J.caseB 60 (b := (decide (s337 < 10))) (by kernel_rfl) (fun hb444 => ?_) (fun hb444 => ?_)
    ·have h445 := condT hb444 hs442
     refine kT ?_
     refine kK ?_
     refine PJ.next ?_
     obtain ⟨y469, hy470, h471⟩ := bindS h445
     refine K.cutX (by kernel_rfl) (fun (s468 : Unit) => ([(0, .int .i32 x0), (2, .bool false), (3, .bool y1), (4, .int .i64 y4.1), (6, .int .i64 s337)], [])) y469 ?_ (fun s468 hs => ?_)
     ·refine K.block 1 (by kernel_rfl) ?_
      refine kSR ?_
      refine kC 4 [0,2,3,4,6,67] ?_
      obtain ⟨y473, hy474, h475⟩ := bindS hy470
      refine RJ.call0 (d := (some 68)) (f := 10) (args := [.int .i32 ((IntKind.wrap .i32 (x0 + (IntKind.wrap .i32 s337))))]) (v := .tup [.int .i64 y473.1, .bool y473.2]) (tr2 := []) (by kernel_rfl) (by kernel_rfl) (.cons (Le.refl _) .nil) (class_Value_ok hy474) (by kernel_rfl) ?_
      refine kC 5 [0,2,3,4,6,7,8] ?_
      refine kEN ?_
      obtain ⟨s479, hy481, h483⟩ := bindS h475
      refine K.cutN (by kernel_rfl) (fun (s479 : Bool) => ([(0, .int .i32 x0), (2, .bool false), (3, .bool y1), (4, .int .i64 y4.1), (6, .int .i64 s337), (77, .bool s479)], [])) s479 ?_ ?_
      ·refine kR ?_
       refine RJ.seg 3 [0, 2, 3, 4, 6, 7, 73] (L2 := [(0, .int .i32 x0), (2, .bool false), (3, .bool y1), (4, .int .i64 y4.1), (6, .int .i64 s337), (7, .int .i64 y473.1), (73, .bool (!y473.2))]) (H2 := []) (by kernel_rfl) ?_
       refine RJ.caseB 73 (b := (!y473.2)) (by kernel_rfl) (fun hb484 => ?_) (fun hb484 => ?_)
       ·have h485 := condT hb484 hy481
        refine kC 4 [0,2,3,4,6,77] ?_
        refine kE ?_
        obtain rfl := oi h485
        exact kN [0, 2, 3, 4, 6, 77]
       ·have h486 := condF hb484 hy481
        refine kC 4 [0,2,3,4,6,77] ?_
        refine kE ?_
        obtain rfl := oi h486
        exact kN [0, 2, 3, 4, 6, 77]
      ·refine J.caseB 77 (b := s479) (by kernel_rfl) (fun hb487 => ?_) (fun hb487 => ?_)
       ·have h488 := condT hb487 h483
        refine kT ?_
        refine kSR ?_
        refine kC 1 [0,2,3,4,6] ?_
        refine kEN ?_
        refine kX ?_
        refine PJ.blockRet ?_
        obtain rfl := oi h488
        have h490 := joinX_inr h471
        refine PJ.cutXr (fun e => nomatch e) ?_
        obtain rfl := oi h490
        refine PJ.loopOut (fun e => nomatch e) (fun he493 => ?_)
        have h491 := congrArg some he493
        refine PJ.blockRet ?_
        obtain rfl := oi h491
        have h492 := joinX_inr h335
        refine PJ.cutXr (fun e => nomatch e) ?_
        obtain rfl := oi h492
        exact kZ hFn hFH hFD
       ·have h489 := condF hb487 h483
        refine kF ?_
        refine kK ?_
        refine PJ.blockNormal ?_
        obtain rfl := oi h489
        exact PJ.cutXl [0, 2, 3, 4, 6] (by kernel_rfl) (by kernel_rfl)
     ·subst hs
      have h472 := joinX_inl h471
      refine kR ?_
      refine kC 3 [0,2,3,4,6] ?_
      refine kE ?_
      obtain rfl := oi h472
      exact PJ.loopNext [0, 2, 3, 4, 6] (by kernel_rfl) (by kernel_rfl)
    ·have h446 := condF hb444 hs442
     refine kF ?_
     refine K.exit 0 (by kernel_rfl) ?_
     refine PJ.passExit ?_
     obtain rfl := oi h446
     refine PJ.loopOut (fun e => nomatch e) (fun he495 => ?_)
     have h494 := congrArg some he495
     refine PJ.blockOut ?_
     obtain rfl := oi h494
     exact PJ.cutXl [2, 3, 4] (by kernel_rfl) (by kernel_rfl)
   ·subst hs
    have h336 := joinX_inl h335
    obtain ⟨s499, hy501, h503⟩ := bindS h336
    refine K.cutN (by kernel_rfl) (fun (s499 : Bool) => ([(2, .bool s499)], [])) s499 ?_ ?_
    ·refine kR ?_
     refine kC 2 [2,4,79] ?_
     refine RJ.caseB 79 (b := y1) (by kernel_rfl) (fun hb504 => ?_) (fun hb504 => ?_)
     ·have h505 := condT hb504 hy501
      refine kC 4 [2] ?_
      refine kE ?_
      obtain rfl := oi h505
      exact kN [2]
     ·have h506 := condF hb504 hy501
      refine kC 4 [2] ?_
      refine kE ?_
      obtain rfl := oi h506
      exact kN [2]
    ·refine kX ?_
     obtain rfl := oi h503
     exact kZ hFn hFH hFD

noncomputable def exerguelaw02_ClassJoins (x0 : List Int) (x1 : List Int) (x2 : Int) : Option (Bool) :=
 (Option.bind exerguelaw02_shown fun y1 => (bif (decide (((IntKind.wrap .i64 ((x0.length : Int) + (x1.length : Int)))) > 1000)) then (some y1) else (bif room x0.length then (bif room (x0.length + x1.length) then (bif room ((([(IntKind.wrap .i32 (8294 + (IntKind.wrap .i32 (Int.tmod x2 3))))] : List Int)).length + x0.length) then (bif room ((((([(IntKind.wrap .i32 (8294 + (IntKind.wrap .i32 (Int.tmod x2 3))))] : List Int)) ++ x0)).length + ([8297] : List Int).length) then (Option.bind (bif y1 then (Option.bind (class_Calm (x0 ++ x1)) fun y214 => (Option.bind (class_Calm x0) fun y217 => (bif y217 then (Option.bind (class_Calm x1) fun y223 => (bif (y214 == y223) then (Option.bind (class_Turns x0) fun y229 => (bif (!y229) then (Option.bind (class_Turns x0) fun y235 => (bif (!y235) then (Option.bind (class_Turns (((((([(IntKind.wrap .i32 (8294 + (IntKind.wrap .i32 (Int.tmod x2 3))))] : List Int)) ++ x0)) ++ ([8297] : List Int)))) fun y241 => (bif (!y241) then (some true) else (Option.bind (class_Calm (((((([(IntKind.wrap .i32 (8294 + (IntKind.wrap .i32 (Int.tmod x2 3))))] : List Int)) ++ x0)) ++ ([8297] : List Int)))) fun y247 => (Option.bind (class_Calm x0) fun y250 => (some (y247 == y250)))))) else (Option.bind (class_Turns (((((([(IntKind.wrap .i32 (8294 + (IntKind.wrap .i32 (Int.tmod x2 3))))] : List Int)) ++ x0)) ++ ([8297] : List Int)))) fun y253 => (bif y253 then (Option.bind (class_Turns (((((([(IntKind.wrap .i32 (8294 + (IntKind.wrap .i32 (Int.tmod x2 3))))] : List Int)) ++ x0)) ++ ([8297] : List Int)))) fun y259 => (bif (!y259) then (some true) else (Option.bind (class_Calm (((((([(IntKind.wrap .i32 (8294 + (IntKind.wrap .i32 (Int.tmod x2 3))))] : List Int)) ++ x0)) ++ ([8297] : List Int)))) fun y265 => (Option.bind (class_Calm x0) fun y268 => (some (y265 == y268)))))) else (some false))))) else (Option.bind (class_Turns (x0 ++ x1)) fun y271 => (Option.bind (class_Turns x1) fun y274 => (bif (y271 == y274) then (Option.bind (class_Turns x0) fun y280 => (bif (!y280) then (Option.bind (class_Turns (((((([(IntKind.wrap .i32 (8294 + (IntKind.wrap .i32 (Int.tmod x2 3))))] : List Int)) ++ x0)) ++ ([8297] : List Int)))) fun y286 => (bif (!y286) then (some true) else (Option.bind (class_Calm (((((([(IntKind.wrap .i32 (8294 + (IntKind.wrap .i32 (Int.tmod x2 3))))] : List Int)) ++ x0)) ++ ([8297] : List Int)))) fun y292 => (Option.bind (class_Calm x0) fun y295 => (some (y292 == y295)))))) else (Option.bind (class_Turns (((((([(IntKind.wrap .i32 (8294 + (IntKind.wrap .i32 (Int.tmod x2 3))))] : List Int)) ++ x0)) ++ ([8297] : List Int)))) fun y298 => (bif y298 then (Option.bind (class_Turns (((((([(IntKind.wrap .i32 (8294 + (IntKind.wrap .i32 (Int.tmod x2 3))))] : List Int)) ++ x0)) ++ ([8297] : List Int)))) fun y304 => (bif (!y304) then (some true) else (Option.bind (class_Calm (((((([(IntKind.wrap .i32 (8294 + (IntKind.wrap .i32 (Int.tmod x2 3))))] : List Int)) ++ x0)) ++ ([8297] : List Int)))) fun y310 => (Option.bind (class_Calm x0) fun y313 => (some (y310 == y313)))))) else (some false))))) else (some false)))))) else (some false))) else (bif (y214 == false) then (Option.bind (class_Turns x0) fun y319 => (bif (!y319) then (Option.bind (class_Turns x0) fun y325 => (bif (!y325) then (Option.bind (class_Turns (((((([(IntKind.wrap .i32 (8294 + (IntKind.wrap .i32 (Int.tmod x2 3))))] : List Int)) ++ x0)) ++ ([8297] : List Int)))) fun y331 => (bif (!y331) then (some true) else (Option.bind (class_Calm (((((([(IntKind.wrap .i32 (8294 + (IntKind.wrap .i32 (Int.tmod x2 3))))] : List Int)) ++ x0)) ++ ([8297] : List Int)))) fun y337 => (Option.bind (class_Calm x0) fun y340 => (some (y337 == y340)))))) else (Option.bind (class_Turns (((((([(IntKind.wrap .i32 (8294 + (IntKind.wrap .i32 (Int.tmod x2 3))))] : List Int)) ++ x0)) ++ ([8297] : List Int)))) fun y343 => (bif y343 then (Option.bind (class_Turns (((((([(IntKind.wrap .i32 (8294 + (IntKind.wrap .i32 (Int.tmod x2 3))))] : List Int)) ++ x0)) ++ ([8297] : List Int)))) fun y349 => (bif (!y349) then (some true) else (Option.bind (class_Calm (((((([(IntKind.wrap .i32 (8294 + (IntKind.wrap .i32 (Int.tmod x2 3))))] : List Int)) ++ x0)) ++ ([8297] : List Int)))) fun y355 => (Option.bind (class_Calm x0) fun y358 => (some (y355 == y358)))))) else (some false))))) else (Option.bind (class_Turns (x0 ++ x1)) fun y361 => (Option.bind (class_Turns x1) fun y364 => (bif (y361 == y364) then (Option.bind (class_Turns x0) fun y370 => (bif (!y370) then (Option.bind (class_Turns (((((([(IntKind.wrap .i32 (8294 + (IntKind.wrap .i32 (Int.tmod x2 3))))] : List Int)) ++ x0)) ++ ([8297] : List Int)))) fun y376 => (bif (!y376) then (some true) else (Option.bind (class_Calm (((((([(IntKind.wrap .i32 (8294 + (IntKind.wrap .i32 (Int.tmod x2 3))))] : List Int)) ++ x0)) ++ ([8297] : List Int)))) fun y382 => (Option.bind (class_Calm x0) fun y385 => (some (y382 == y385)))))) else (Option.bind (class_Turns (((((([(IntKind.wrap .i32 (8294 + (IntKind.wrap .i32 (Int.tmod x2 3))))] : List Int)) ++ x0)) ++ ([8297] : List Int)))) fun y388 => (bif y388 then (Option.bind (class_Turns (((((([(IntKind.wrap .i32 (8294 + (IntKind.wrap .i32 (Int.tmod x2 3))))] : List Int)) ++ x0)) ++ ([8297] : List Int)))) fun y394 => (bif (!y394) then (some true) else (Option.bind (class_Calm (((((([(IntKind.wrap .i32 (8294 + (IntKind.wrap .i32 (Int.tmod x2 3))))] : List Int)) ++ x0)) ++ ([8297] : List Int)))) fun y400 => (Option.bind (class_Calm x0) fun y403 => (some (y400 == y403)))))) else (some false))))) else (some false)))))) else (some false))))) else (some false)) fun (s206 : Bool) => (some s206)) else none) else none) else none) else none)))
theorem exerguelaw02_ClassJoins_ok {x0 : List Int} {x1 : List Int} {x2 : Int} {r : Bool} (h : exerguelaw02_ClassJoins x0 x1 x2 = some r) : SC Tryd.prog 6 [lsv (encI .i32) 1 x0, lsv (encI .i32) 1 x1, .int .u8 x2] [] (.bool r) [] := by
 refine kFn (fn := Tryd.f6) (fun F hFn hFH hFD => ?_)
 unfold exerguelaw02_ClassJoins at h
 refine kSR ?_
 refine kC 1 [0,1,2,6] ?_
 refine kEN ?_
 refine kSR ?_
 obtain ⟨y1, hy2, h3⟩ := bindS h
 refine RJ.call0 (d := (some 10)) (f := 9) (args := []) (v := .bool y1) (tr2 := []) (by kernel_rfl) (by kernel_rfl) .nil (exerguelaw02_shown_ok hy2) (by kernel_rfl) ?_
 refine kC 1 [0,1,2,6,7] ?_
 refine kEN ?_
 refine kS ?_
 refine kSR ?_
 refine kC 6 [0,1,2,6,7,16] ?_
 refine kEN ?_
 refine J.caseB 16 (b := (decide (((IntKind.wrap .i64 ((x0.length : Int) + (x1.length : Int)))) > 1000))) (by kernel_rfl) (fun hb4 => ?_) (fun hb4 => ?_)
 ·have h5 := condT hb4 h3
  refine kT ?_
  refine kSR ?_
  refine RJ.seg 2 [0, 1, 2, 6, 7] (L2 := [(0, lsv (encI .i32) 1 x0), (1, lsv (encI .i32) 1 x1), (2, .int .u8 x2), (6, .bool y1), (7, .bool y1)]) (H2 := []) (by kernel_rfl) ?_
  refine kEN ?_
  refine kX ?_
  refine PJ.passRet ?_
  obtain rfl := oi h5
  exact kZ hFn hFH hFD
 ·have h6 := condF hb4 h3
  refine kF ?_
  refine kK ?_
  refine PJ.next ?_
  refine kSR ?_
  refine RJ.seg 2 [0, 1, 2, 6, 7, 18, 19] (L2 := [(0, lsv (encI .i32) 1 x0), (1, lsv (encI .i32) 1 x1), (2, .int .u8 x2), (6, .bool false), (7, .bool y1), (18, .nl), (19, lsv (encI .i32) 1 x0)]) (H2 := []) (by kernel_rfl) ?_
  obtain ⟨hm, h7⟩ := asrt h6
  refine RJ.rel (d := (some 20)) (ef := ⟨.vc 0, [], [(0, .vec x0.length 1 21 (x0.flatMap (encI .i32)))]⟩) (ef' := ⟨.vc 0, [], [(0, .vec x0.length 1 21 (x0.flatMap (encI .i32)))]⟩) (c := room x0.length) (tr2 := []) (H2 := [vecL (encI .i32) 1 21 x0]) (by kernel_rfl) hm (fun hc => rfl) (by kernel_rfl) ?_
  refine kC 1 [0,1,2,6,7,20,21] ?_
  obtain ⟨hm, h8⟩ := asrt h7
  refine RJ.rel (d := (some 22)) (ef := ⟨.vc 1, [0], [(0, .gone), (1, .vec (x0.length + x1.length) 1 21 (x0.flatMap (encI .i32) ++ x1.flatMap (encI .i32)))]⟩) (ef' := ⟨.vc 1, [0], [(0, .gone), (1, vecL (encI .i32) 1 21 (x0 ++ x1))]⟩) (c := room (x0.length + x1.length)) (tr2 := []) (H2 := [.gone, vecL (encI .i32) 1 21 (x0 ++ x1)]) (by kernel_rfl) hm (fun hc => N.app) (by kernel_rfl) ?_
  refine kC 1 [0,1,2,6,7,8] ?_
  refine kEN ?_
  refine kSR ?_
  refine kC 6 [0,1,6,7,8,27,28] ?_
  obtain ⟨hm, h9⟩ := asrt h8
  refine RJ.rel (d := (some 29)) (ef := ⟨.vc 3, [2], [(2, .gone), (3, .vec ((([(IntKind.wrap .i32 (8294 + (IntKind.wrap .i32 (Int.tmod x2 3))))] : List Int)).length + x0.length) 1 21 ((([(IntKind.wrap .i32 (8294 + (IntKind.wrap .i32 (Int.tmod x2 3))))] : List Int)).flatMap (encI .i32) ++ x0.flatMap (encI .i32)))]⟩) (ef' := ⟨.vc 3, [2], [(2, .gone), (3, vecL (encI .i32) 1 21 ((([(IntKind.wrap .i32 (8294 + (IntKind.wrap .i32 (Int.tmod x2 3))))] : List Int)) ++ x0))]⟩) (c := room ((([(IntKind.wrap .i32 (8294 + (IntKind.wrap .i32 (Int.tmod x2 3))))] : List Int)).length + x0.length)) (tr2 := []) (H2 := [.gone, vecL (encI .i32) 1 21 (x0 ++ x1), .gone, vecL (encI .i32) 1 21 (((([(IntKind.wrap .i32 (8294 + (IntKind.wrap .i32 (Int.tmod x2 3))))] : List Int)) ++ x0))]) (by kernel_rfl) hm (fun hc => N.app) (by kernel_rfl) ?_
  refine RJ.seg 1 [0, 1, 6, 7, 8, 9] (L2 := [(0, lsv (encI .i32) 1 x0), (1, lsv (encI .i32) 1 x1), (6, .bool false), (7, .bool y1), (8, .vc 1), (9, .vc 3)]) (H2 := [.gone, vecL (encI .i32) 1 21 (x0 ++ x1), .gone, vecL (encI .i32) 1 21 (((([(IntKind.wrap .i32 (8294 + (IntKind.wrap .i32 (Int.tmod x2 3))))] : List Int)) ++ x0))]) (by kernel_rfl) ?_
  refine kEN ?_
  refine kSR ?_
  refine kC 2 [0,1,6,7,8,9,30,31] ?_
  obtain ⟨hm, h10⟩ := asrt h9
  refine RJ.rel (d := (some 32)) (ef := ⟨.vc 5, [3, 4], [(3, .gone), (5, .vec ((((([(IntKind.wrap .i32 (8294 + (IntKind.wrap .i32 (Int.tmod x2 3))))] : List Int)) ++ x0)).length + ([8297] : List Int).length) 1 21 ((((([(IntKind.wrap .i32 (8294 + (IntKind.wrap .i32 (Int.tmod x2 3))))] : List Int)) ++ x0)).flatMap (encI .i32) ++ ([8297] : List Int).flatMap (encI .i32)))]⟩) (ef' := ⟨.vc 5, [3, 4], [(3, .gone), (5, vecL (encI .i32) 1 21 ((((([(IntKind.wrap .i32 (8294 + (IntKind.wrap .i32 (Int.tmod x2 3))))] : List Int)) ++ x0)) ++ ([8297] : List Int)))]⟩) (c := room ((((([(IntKind.wrap .i32 (8294 + (IntKind.wrap .i32 (Int.tmod x2 3))))] : List Int)) ++ x0)).length + ([8297] : List Int).length)) (tr2 := []) (H2 := [.gone, vecL (encI .i32) 1 21 (x0 ++ x1), .gone, .gone, vecL (encI .i32) 1 21 ([8297] : List Int), vecL (encI .i32) 1 21 (((((([(IntKind.wrap .i32 (8294 + (IntKind.wrap .i32 (Int.tmod x2 3))))] : List Int)) ++ x0)) ++ ([8297] : List Int)))]) (by kernel_rfl) hm (fun hc => N.app) (by kernel_rfl) ?_
  refine kC 1 [0,1,6,7,8,9] ?_
  refine kEN ?_
  obtain ⟨s206, hy208, h210⟩ := bindS h10
  refine K.cutN (by kernel_rfl) (fun (s206 : Bool) => ([(6, .bool s206)], [])) s206 ?_ ?_
  ·refine kR ?_
   refine kC 2 [0,1,6,8,9,34] ?_
   refine RJ.caseB 34 (b := y1) (by kernel_rfl) (fun hb211 => ?_) (fun hb211 => ?_)
   ·have h212 := condT hb211 hy208
    refine RJ.seg 1 [0, 1, 6, 8, 9, 34, 35] (L2 := [(0, lsv (encI .i32) 1 x0), (1, lsv (encI .i32) 1 x1), (6, .bool false), (8, .vc 1), (9, .vc 5), (34, .bool true), (35, .vc 1)]) (H2 := [.gone, vecL (encI .i32) 1 21 (x0 ++ x1), .gone, .gone, vecL (encI .i32) 1 21 ([8297] : List Int), vecL (encI .i32) 1 21 (((((([(IntKind.wrap .i32 (8294 + (IntKind.wrap .i32 (Int.tmod x2 3))))] : List Int)) ++ x0)) ++ ([8297] : List Int)))]) (by kernel_rfl) ?_
    obtain ⟨y214, hy215, h216⟩ := bindS h212
    refine RJ.callL (d := (some 36)) (f := 16) (args := [.vc 1]) (args0 := [.vc 0]) (args1 := [lsv (encI .i32) 1 (x0 ++ x1)]) (H0 := [vecL (encI .i32) 1 21 (x0 ++ x1)]) (v := .bool y214) (tr2 := []) [1] (by kernel_rfl) (by kernel_rfl) (by kernel_rfl) (by kernel_rfl) (by decide) (by kernel_rfl) (by kernel_rfl) (by kernel_rfl) (by kernel_rfl) (.cons (Le.refl _) .nil) (class_Calm_ok hy215) (by kernel_rfl) (by kernel_rfl) ?_
    refine kC 1 [0,1,6,8,9,34,36,37] ?_
    obtain ⟨y217, hy218, h219⟩ := bindS h216
    refine RJ.call0 (d := (some 38)) (f := 16) (args := [lsv (encI .i32) 1 x0]) (v := .bool y217) (tr2 := []) (by kernel_rfl) (by kernel_rfl) (.cons (Le.refl _) .nil) (class_Calm_ok hy218) (by kernel_rfl) ?_
    refine kC 1 [0,1,6,8,9,34,36,39] ?_
    refine RJ.caseB 39 (b := y217) (by kernel_rfl) (fun hb220 => ?_) (fun hb220 => ?_)
    ·have h221 := condT hb220 h219
     refine kC 1 [0,1,6,8,9,34,36,39,40] ?_
     obtain ⟨y223, hy224, h225⟩ := bindS h221
     refine RJ.call0 (d := (some 41)) (f := 16) (args := [lsv (encI .i32) 1 x1]) (v := .bool y223) (tr2 := []) (by kernel_rfl) (by kernel_rfl) (.cons (Le.refl _) .nil) (class_Calm_ok hy224) (by kernel_rfl) ?_
     refine RJ.seg 4 [0, 1, 6, 8, 9, 45] (L2 := [(0, lsv (encI .i32) 1 x0), (1, lsv (encI .i32) 1 x1), (6, .bool false), (8, .vc 1), (9, .vc 5), (45, .bool (y214 == y223))]) (H2 := [.gone, vecL (encI .i32) 1 21 (x0 ++ x1), .gone, .gone, vecL (encI .i32) 1 21 ([8297] : List Int), vecL (encI .i32) 1 21 (((((([(IntKind.wrap .i32 (8294 + (IntKind.wrap .i32 (Int.tmod x2 3))))] : List Int)) ++ x0)) ++ ([8297] : List Int)))]) (by kernel_rfl) ?_
     refine RJ.caseB 45 (b := (y214 == y223)) (by kernel_rfl) (fun hb226 => ?_) (fun hb226 => ?_)
     ·have h227 := condT hb226 h225
      refine kC 1 [0,1,6,8,9,45,46] ?_
      obtain ⟨y229, hy230, h231⟩ := bindS h227
      refine RJ.call0 (d := (some 47)) (f := 18) (args := [lsv (encI .i32) 1 x0]) (v := .bool y229) (tr2 := []) (by kernel_rfl) (by kernel_rfl) (.cons (Le.refl _) .nil) (class_Turns_ok hy230) (by kernel_rfl) ?_
      refine kC 2 [0,1,6,8,9,45,49] ?_
      refine RJ.caseB 49 (b := (!y229)) (by kernel_rfl) (fun hb232 => ?_) (fun hb232 => ?_)
      ·have h233 := condT hb232 h231
       refine kC 9 [0,6,9,57,58] ?_
       obtain ⟨y235, hy236, h237⟩ := bindS h233
       refine RJ.call0 (d := (some 59)) (f := 18) (args := [lsv (encI .i32) 1 x0]) (v := .bool y235) (tr2 := []) (by kernel_rfl) (by kernel_rfl) (.cons (Le.refl _) .nil) (class_Turns_ok hy236) (by kernel_rfl) ?_
       refine RJ.seg 2 [0, 6, 9, 57, 61] (L2 := [(0, lsv (encI .i32) 1 x0), (6, .bool false), (9, .vc 5), (57, .bool true), (61, .bool (!y235))]) (H2 := [.gone, vecL (encI .i32) 1 21 (x0 ++ x1), .gone, .gone, vecL (encI .i32) 1 21 ([8297] : List Int), vecL (encI .i32) 1 21 (((((([(IntKind.wrap .i32 (8294 + (IntKind.wrap .i32 (Int.tmod x2 3))))] : List Int)) ++ x0)) ++ ([8297] : List Int)))]) (by kernel_rfl) ?_
       refine RJ.caseB 61 (b := (!y235)) (by kernel_rfl) (fun hb238 => ?_) (fun hb238 => ?_)
       ·have h239 := condT hb238 h237
        refine kC 6 [0,6,9,66,67] ?_
        obtain ⟨y241, hy242, h243⟩ := bindS h239
        refine RJ.callL (d := (some 68)) (f := 18) (args := [.vc 5]) (args0 := [.vc 0]) (args1 := [lsv (encI .i32) 1 (((((([(IntKind.wrap .i32 (8294 + (IntKind.wrap .i32 (Int.tmod x2 3))))] : List Int)) ++ x0)) ++ ([8297] : List Int)))]) (H0 := [vecL (encI .i32) 1 21 (((((([(IntKind.wrap .i32 (8294 + (IntKind.wrap .i32 (Int.tmod x2 3))))] : List Int)) ++ x0)) ++ ([8297] : List Int)))]) (v := .bool y241) (tr2 := []) [5] (by kernel_rfl) (by kernel_rfl) (by kernel_rfl) (by kernel_rfl) (by decide) (by kernel_rfl) (by kernel_rfl) (by kernel_rfl) (by kernel_rfl) (.cons (Le.refl _) .nil) (class_Turns_ok hy242) (by kernel_rfl) (by kernel_rfl) ?_
        refine kC 2 [0,6,9,66,70] ?_
        refine RJ.caseB 70 (b := (!y241)) (by kernel_rfl) (fun hb244 => ?_) (fun hb244 => ?_)
        ·have h245 := condT hb244 h243
         refine kC 8 [6] ?_
         refine kE ?_
         obtain rfl := oi h245
         refine PJ.wk (Wk.sel (L2 := [(6, .bool true)]) (H2 := []) 0 (by rw [hFH]; rfl) hFD [] (by kernel_rfl) (by kernel_rfl) (by decide) (by kernel_rfl) (by kernel_rfl) (by kernel_rfl) (by kernel_rfl)) ?_
         exact kN [6]
        ·have h246 := condF hb244 h243
         refine kC 1 [0,6,66,70,71] ?_
         obtain ⟨y247, hy248, h249⟩ := bindS h246
         refine RJ.callL (d := (some 72)) (f := 16) (args := [.vc 5]) (args0 := [.vc 0]) (args1 := [lsv (encI .i32) 1 (((((([(IntKind.wrap .i32 (8294 + (IntKind.wrap .i32 (Int.tmod x2 3))))] : List Int)) ++ x0)) ++ ([8297] : List Int)))]) (H0 := [vecL (encI .i32) 1 21 (((((([(IntKind.wrap .i32 (8294 + (IntKind.wrap .i32 (Int.tmod x2 3))))] : List Int)) ++ x0)) ++ ([8297] : List Int)))]) (v := .bool y247) (tr2 := []) [5] (by kernel_rfl) (by kernel_rfl) (by kernel_rfl) (by kernel_rfl) (by decide) (by kernel_rfl) (by kernel_rfl) (by kernel_rfl) (by kernel_rfl) (.cons (Le.refl _) .nil) (class_Calm_ok hy248) (by kernel_rfl) (by kernel_rfl) ?_
         refine RJ.seg 1 [6, 66, 70, 72, 73] (L2 := [(6, .bool false), (66, .bool true), (70, .bool false), (72, .bool y247), (73, lsv (encI .i32) 1 x0)]) (H2 := [.gone, vecL (encI .i32) 1 21 (x0 ++ x1), .gone, .gone, vecL (encI .i32) 1 21 ([8297] : List Int), vecL (encI .i32) 1 21 (((((([(IntKind.wrap .i32 (8294 + (IntKind.wrap .i32 (Int.tmod x2 3))))] : List Int)) ++ x0)) ++ ([8297] : List Int)))]) (by kernel_rfl) ?_
         obtain ⟨y250, hy251, h252⟩ := bindS h249
         refine RJ.call0 (d := (some 74)) (f := 16) (args := [lsv (encI .i32) 1 x0]) (v := .bool y250) (tr2 := []) (by kernel_rfl) (by kernel_rfl) (.cons (Le.refl _) .nil) (class_Calm_ok hy251) (by kernel_rfl) ?_
         refine kC 4 [6] ?_
         refine kE ?_
         obtain rfl := oi h252
         refine PJ.wk (Wk.sel (L2 := [(6, .bool (y247 == y250))]) (H2 := []) 0 (by rw [hFH]; rfl) hFD [] (by kernel_rfl) (by kernel_rfl) (by decide) (by kernel_rfl) (by kernel_rfl) (by kernel_rfl) (by kernel_rfl)) ?_
         exact kN [6]
       ·have h240 := condF hb238 h237
        refine kC 1 [0,6,9,57,61,62] ?_
        obtain ⟨y253, hy254, h255⟩ := bindS h240
        refine RJ.callL (d := (some 63)) (f := 18) (args := [.vc 5]) (args0 := [.vc 0]) (args1 := [lsv (encI .i32) 1 (((((([(IntKind.wrap .i32 (8294 + (IntKind.wrap .i32 (Int.tmod x2 3))))] : List Int)) ++ x0)) ++ ([8297] : List Int)))]) (H0 := [vecL (encI .i32) 1 21 (((((([(IntKind.wrap .i32 (8294 + (IntKind.wrap .i32 (Int.tmod x2 3))))] : List Int)) ++ x0)) ++ ([8297] : List Int)))]) (v := .bool y253) (tr2 := []) [5] (by kernel_rfl) (by kernel_rfl) (by kernel_rfl) (by kernel_rfl) (by decide) (by kernel_rfl) (by kernel_rfl) (by kernel_rfl) (by kernel_rfl) (.cons (Le.refl _) .nil) (class_Turns_ok hy254) (by kernel_rfl) (by kernel_rfl) ?_
        refine kC 3 [0,6,9,66] ?_
        refine RJ.caseB 66 (b := y253) (by kernel_rfl) (fun hb256 => ?_) (fun hb256 => ?_)
        ·have h257 := condT hb256 h255
         refine kC 1 [0,6,9,66,67] ?_
         obtain ⟨y259, hy260, h261⟩ := bindS h257
         refine RJ.callL (d := (some 68)) (f := 18) (args := [.vc 5]) (args0 := [.vc 0]) (args1 := [lsv (encI .i32) 1 (((((([(IntKind.wrap .i32 (8294 + (IntKind.wrap .i32 (Int.tmod x2 3))))] : List Int)) ++ x0)) ++ ([8297] : List Int)))]) (H0 := [vecL (encI .i32) 1 21 (((((([(IntKind.wrap .i32 (8294 + (IntKind.wrap .i32 (Int.tmod x2 3))))] : List Int)) ++ x0)) ++ ([8297] : List Int)))]) (v := .bool y259) (tr2 := []) [5] (by kernel_rfl) (by kernel_rfl) (by kernel_rfl) (by kernel_rfl) (by decide) (by kernel_rfl) (by kernel_rfl) (by kernel_rfl) (by kernel_rfl) (.cons (Le.refl _) .nil) (class_Turns_ok hy260) (by kernel_rfl) (by kernel_rfl) ?_
         refine RJ.seg 2 [0, 6, 9, 66, 70] (L2 := [(0, lsv (encI .i32) 1 x0), (6, .bool false), (9, .vc 5), (66, .bool true), (70, .bool (!y259))]) (H2 := [.gone, vecL (encI .i32) 1 21 (x0 ++ x1), .gone, .gone, vecL (encI .i32) 1 21 ([8297] : List Int), vecL (encI .i32) 1 21 (((((([(IntKind.wrap .i32 (8294 + (IntKind.wrap .i32 (Int.tmod x2 3))))] : List Int)) ++ x0)) ++ ([8297] : List Int)))]) (by kernel_rfl) ?_
         refine RJ.caseB 70 (b := (!y259)) (by kernel_rfl) (fun hb262 => ?_) (fun hb262 => ?_)
         ·have h263 := condT hb262 h261
          refine kC 8 [6] ?_
          refine kE ?_
          obtain rfl := oi h263
          refine PJ.wk (Wk.sel (L2 := [(6, .bool true)]) (H2 := []) 0 (by rw [hFH]; rfl) hFD [] (by kernel_rfl) (by kernel_rfl) (by decide) (by kernel_rfl) (by kernel_rfl) (by kernel_rfl) (by kernel_rfl)) ?_
          exact kN [6]
         ·have h264 := condF hb262 h261
          refine kC 1 [0,6,66,70,71] ?_
          obtain ⟨y265, hy266, h267⟩ := bindS h264
          refine RJ.callL (d := (some 72)) (f := 16) (args := [.vc 5]) (args0 := [.vc 0]) (args1 := [lsv (encI .i32) 1 (((((([(IntKind.wrap .i32 (8294 + (IntKind.wrap .i32 (Int.tmod x2 3))))] : List Int)) ++ x0)) ++ ([8297] : List Int)))]) (H0 := [vecL (encI .i32) 1 21 (((((([(IntKind.wrap .i32 (8294 + (IntKind.wrap .i32 (Int.tmod x2 3))))] : List Int)) ++ x0)) ++ ([8297] : List Int)))]) (v := .bool y265) (tr2 := []) [5] (by kernel_rfl) (by kernel_rfl) (by kernel_rfl) (by kernel_rfl) (by decide) (by kernel_rfl) (by kernel_rfl) (by kernel_rfl) (by kernel_rfl) (.cons (Le.refl _) .nil) (class_Calm_ok hy266) (by kernel_rfl) (by kernel_rfl) ?_
          refine kC 1 [6,66,70,72,73] ?_
          obtain ⟨y268, hy269, h270⟩ := bindS h267
          refine RJ.call0 (d := (some 74)) (f := 16) (args := [lsv (encI .i32) 1 x0]) (v := .bool y268) (tr2 := []) (by kernel_rfl) (by kernel_rfl) (.cons (Le.refl _) .nil) (class_Calm_ok hy269) (by kernel_rfl) ?_
          refine kC 4 [6] ?_
          refine kE ?_
          obtain rfl := oi h270
          refine PJ.wk (Wk.sel (L2 := [(6, .bool (y265 == y268))]) (H2 := []) 0 (by rw [hFH]; rfl) hFD [] (by kernel_rfl) (by kernel_rfl) (by decide) (by kernel_rfl) (by kernel_rfl) (by kernel_rfl) (by kernel_rfl)) ?_
          exact kN [6]
        ·have h258 := condF hb256 h255
         refine kC 12 [6] ?_
         refine kE ?_
         obtain rfl := oi h258
         refine PJ.wk (Wk.sel (L2 := [(6, .bool false)]) (H2 := []) 0 (by rw [hFH]; rfl) hFD [] (by kernel_rfl) (by kernel_rfl) (by decide) (by kernel_rfl) (by kernel_rfl) (by kernel_rfl) (by kernel_rfl)) ?_
         exact kN [6]
      ·have h234 := condF hb232 h231
       refine kC 1 [0,1,6,9,45,49,50] ?_
       obtain ⟨y271, hy272, h273⟩ := bindS h234
       refine RJ.callL (d := (some 51)) (f := 18) (args := [.vc 1]) (args0 := [.vc 0]) (args1 := [lsv (encI .i32) 1 (x0 ++ x1)]) (H0 := [vecL (encI .i32) 1 21 (x0 ++ x1)]) (v := .bool y271) (tr2 := []) [1] (by kernel_rfl) (by kernel_rfl) (by kernel_rfl) (by kernel_rfl) (by decide) (by kernel_rfl) (by kernel_rfl) (by kernel_rfl) (by kernel_rfl) (.cons (Le.refl _) .nil) (class_Turns_ok hy272) (by kernel_rfl) (by kernel_rfl) ?_
       refine RJ.seg 1 [0, 6, 9, 45, 49, 51, 52] (L2 := [(0, lsv (encI .i32) 1 x0), (6, .bool false), (9, .vc 5), (45, .bool true), (49, .bool false), (51, .bool y271), (52, lsv (encI .i32) 1 x1)]) (H2 := [.gone, vecL (encI .i32) 1 21 (x0 ++ x1), .gone, .gone, vecL (encI .i32) 1 21 ([8297] : List Int), vecL (encI .i32) 1 21 (((((([(IntKind.wrap .i32 (8294 + (IntKind.wrap .i32 (Int.tmod x2 3))))] : List Int)) ++ x0)) ++ ([8297] : List Int)))]) (by kernel_rfl) ?_
       obtain ⟨y274, hy275, h276⟩ := bindS h273
       refine RJ.call0 (d := (some 53)) (f := 18) (args := [lsv (encI .i32) 1 x1]) (v := .bool y274) (tr2 := []) (by kernel_rfl) (by kernel_rfl) (.cons (Le.refl _) .nil) (class_Turns_ok hy275) (by kernel_rfl) ?_
       refine kC 4 [0,6,9,57] ?_
       refine RJ.caseB 57 (b := (y271 == y274)) (by kernel_rfl) (fun hb277 => ?_) (fun hb277 => ?_)
       ·have h278 := condT hb277 h276
        refine kC 1 [0,6,9,57,58] ?_
        obtain ⟨y280, hy281, h282⟩ := bindS h278
        refine RJ.call0 (d := (some 59)) (f := 18) (args := [lsv (encI .i32) 1 x0]) (v := .bool y280) (tr2 := []) (by kernel_rfl) (by kernel_rfl) (.cons (Le.refl _) .nil) (class_Turns_ok hy281) (by kernel_rfl) ?_
        refine kC 2 [0,6,9,57,61] ?_
        refine RJ.caseB 61 (b := (!y280)) (by kernel_rfl) (fun hb283 => ?_) (fun hb283 => ?_)
        ·have h284 := condT hb283 h282
         refine RJ.seg 6 [0, 6, 9, 66, 67] (L2 := [(0, lsv (encI .i32) 1 x0), (6, .bool false), (9, .vc 5), (66, .bool true), (67, .vc 5)]) (H2 := [.gone, vecL (encI .i32) 1 21 (x0 ++ x1), .gone, .gone, vecL (encI .i32) 1 21 ([8297] : List Int), vecL (encI .i32) 1 21 (((((([(IntKind.wrap .i32 (8294 + (IntKind.wrap .i32 (Int.tmod x2 3))))] : List Int)) ++ x0)) ++ ([8297] : List Int)))]) (by kernel_rfl) ?_
         obtain ⟨y286, hy287, h288⟩ := bindS h284
         refine RJ.callL (d := (some 68)) (f := 18) (args := [.vc 5]) (args0 := [.vc 0]) (args1 := [lsv (encI .i32) 1 (((((([(IntKind.wrap .i32 (8294 + (IntKind.wrap .i32 (Int.tmod x2 3))))] : List Int)) ++ x0)) ++ ([8297] : List Int)))]) (H0 := [vecL (encI .i32) 1 21 (((((([(IntKind.wrap .i32 (8294 + (IntKind.wrap .i32 (Int.tmod x2 3))))] : List Int)) ++ x0)) ++ ([8297] : List Int)))]) (v := .bool y286) (tr2 := []) [5] (by kernel_rfl) (by kernel_rfl) (by kernel_rfl) (by kernel_rfl) (by decide) (by kernel_rfl) (by kernel_rfl) (by kernel_rfl) (by kernel_rfl) (.cons (Le.refl _) .nil) (class_Turns_ok hy287) (by kernel_rfl) (by kernel_rfl) ?_
         refine kC 2 [0,6,9,66,70] ?_
         refine RJ.caseB 70 (b := (!y286)) (by kernel_rfl) (fun hb289 => ?_) (fun hb289 => ?_)
         ·have h290 := condT hb289 h288
          refine kC 8 [6] ?_
          refine kE ?_
          obtain rfl := oi h290
          refine PJ.wk (Wk.sel (L2 := [(6, .bool true)]) (H2 := []) 0 (by rw [hFH]; rfl) hFD [] (by kernel_rfl) (by kernel_rfl) (by decide) (by kernel_rfl) (by kernel_rfl) (by kernel_rfl) (by kernel_rfl)) ?_
          exact kN [6]
         ·have h291 := condF hb289 h288
          refine kC 1 [0,6,66,70,71] ?_
          obtain ⟨y292, hy293, h294⟩ := bindS h291
          refine RJ.callL (d := (some 72)) (f := 16) (args := [.vc 5]) (args0 := [.vc 0]) (args1 := [lsv (encI .i32) 1 (((((([(IntKind.wrap .i32 (8294 + (IntKind.wrap .i32 (Int.tmod x2 3))))] : List Int)) ++ x0)) ++ ([8297] : List Int)))]) (H0 := [vecL (encI .i32) 1 21 (((((([(IntKind.wrap .i32 (8294 + (IntKind.wrap .i32 (Int.tmod x2 3))))] : List Int)) ++ x0)) ++ ([8297] : List Int)))]) (v := .bool y292) (tr2 := []) [5] (by kernel_rfl) (by kernel_rfl) (by kernel_rfl) (by kernel_rfl) (by decide) (by kernel_rfl) (by kernel_rfl) (by kernel_rfl) (by kernel_rfl) (.cons (Le.refl _) .nil) (class_Calm_ok hy293) (by kernel_rfl) (by kernel_rfl) ?_
          refine kC 1 [6,66,70,72,73] ?_
          obtain ⟨y295, hy296, h297⟩ := bindS h294
          refine RJ.call0 (d := (some 74)) (f := 16) (args := [lsv (encI .i32) 1 x0]) (v := .bool y295) (tr2 := []) (by kernel_rfl) (by kernel_rfl) (.cons (Le.refl _) .nil) (class_Calm_ok hy296) (by kernel_rfl) ?_
          refine RJ.seg 4 [6] (L2 := [(6, .bool (y292 == y295))]) (H2 := [.gone, vecL (encI .i32) 1 21 (x0 ++ x1), .gone, .gone, vecL (encI .i32) 1 21 ([8297] : List Int), vecL (encI .i32) 1 21 (((((([(IntKind.wrap .i32 (8294 + (IntKind.wrap .i32 (Int.tmod x2 3))))] : List Int)) ++ x0)) ++ ([8297] : List Int)))]) (by kernel_rfl) ?_
          refine kE ?_
          obtain rfl := oi h297
          refine PJ.wk (Wk.sel (L2 := [(6, .bool (y292 == y295))]) (H2 := []) 0 (by rw [hFH]; rfl) hFD [] (by kernel_rfl) (by kernel_rfl) (by decide) (by kernel_rfl) (by kernel_rfl) (by kernel_rfl) (by kernel_rfl)) ?_
          exact kN [6]
        ·have h285 := condF hb283 h282
         refine RJ.seg 1 [0, 6, 9, 57, 61, 62] (L2 := [(0, lsv (encI .i32) 1 x0), (6, .bool false), (9, .vc 5), (57, .bool true), (61, .bool false), (62, .vc 5)]) (H2 := [.gone, vecL (encI .i32) 1 21 (x0 ++ x1), .gone, .gone, vecL (encI .i32) 1 21 ([8297] : List Int), vecL (encI .i32) 1 21 (((((([(IntKind.wrap .i32 (8294 + (IntKind.wrap .i32 (Int.tmod x2 3))))] : List Int)) ++ x0)) ++ ([8297] : List Int)))]) (by kernel_rfl) ?_
         obtain ⟨y298, hy299, h300⟩ := bindS h285
         refine RJ.callL (d := (some 63)) (f := 18) (args := [.vc 5]) (args0 := [.vc 0]) (args1 := [lsv (encI .i32) 1 (((((([(IntKind.wrap .i32 (8294 + (IntKind.wrap .i32 (Int.tmod x2 3))))] : List Int)) ++ x0)) ++ ([8297] : List Int)))]) (H0 := [vecL (encI .i32) 1 21 (((((([(IntKind.wrap .i32 (8294 + (IntKind.wrap .i32 (Int.tmod x2 3))))] : List Int)) ++ x0)) ++ ([8297] : List Int)))]) (v := .bool y298) (tr2 := []) [5] (by kernel_rfl) (by kernel_rfl) (by kernel_rfl) (by kernel_rfl) (by decide) (by kernel_rfl) (by kernel_rfl) (by kernel_rfl) (by kernel_rfl) (.cons (Le.refl _) .nil) (class_Turns_ok hy299) (by kernel_rfl) (by kernel_rfl) ?_
         refine kC 3 [0,6,9,66] ?_
         refine RJ.caseB 66 (b := y298) (by kernel_rfl) (fun hb301 => ?_) (fun hb301 => ?_)
         ·have h302 := condT hb301 h300
          refine kC 1 [0,6,9,66,67] ?_
          obtain ⟨y304, hy305, h306⟩ := bindS h302
          refine RJ.callL (d := (some 68)) (f := 18) (args := [.vc 5]) (args0 := [.vc 0]) (args1 := [lsv (encI .i32) 1 (((((([(IntKind.wrap .i32 (8294 + (IntKind.wrap .i32 (Int.tmod x2 3))))] : List Int)) ++ x0)) ++ ([8297] : List Int)))]) (H0 := [vecL (encI .i32) 1 21 (((((([(IntKind.wrap .i32 (8294 + (IntKind.wrap .i32 (Int.tmod x2 3))))] : List Int)) ++ x0)) ++ ([8297] : List Int)))]) (v := .bool y304) (tr2 := []) [5] (by kernel_rfl) (by kernel_rfl) (by kernel_rfl) (by kernel_rfl) (by decide) (by kernel_rfl) (by kernel_rfl) (by kernel_rfl) (by kernel_rfl) (.cons (Le.refl _) .nil) (class_Turns_ok hy305) (by kernel_rfl) (by kernel_rfl) ?_
          refine kC 2 [0,6,9,66,70] ?_
          refine RJ.caseB 70 (b := (!y304)) (by kernel_rfl) (fun hb307 => ?_) (fun hb307 => ?_)
          ·have h308 := condT hb307 h306
           refine RJ.seg 8 [6] (L2 := [(6, .bool true)]) (H2 := [.gone, vecL (encI .i32) 1 21 (x0 ++ x1), .gone, .gone, vecL (encI .i32) 1 21 ([8297] : List Int), vecL (encI .i32) 1 21 (((((([(IntKind.wrap .i32 (8294 + (IntKind.wrap .i32 (Int.tmod x2 3))))] : List Int)) ++ x0)) ++ ([8297] : List Int)))]) (by kernel_rfl) ?_
           refine kE ?_
           obtain rfl := oi h308
           refine PJ.wk (Wk.sel (L2 := [(6, .bool true)]) (H2 := []) 0 (by rw [hFH]; rfl) hFD [] (by kernel_rfl) (by kernel_rfl) (by decide) (by kernel_rfl) (by kernel_rfl) (by kernel_rfl) (by kernel_rfl)) ?_
           exact kN [6]
          ·have h309 := condF hb307 h306
           refine RJ.seg 1 [0, 6, 66, 70, 71] (L2 := [(0, lsv (encI .i32) 1 x0), (6, .bool false), (66, .bool true), (70, .bool false), (71, .vc 5)]) (H2 := [.gone, vecL (encI .i32) 1 21 (x0 ++ x1), .gone, .gone, vecL (encI .i32) 1 21 ([8297] : List Int), vecL (encI .i32) 1 21 (((((([(IntKind.wrap .i32 (8294 + (IntKind.wrap .i32 (Int.tmod x2 3))))] : List Int)) ++ x0)) ++ ([8297] : List Int)))]) (by kernel_rfl) ?_
           obtain ⟨y310, hy311, h312⟩ := bindS h309
           refine RJ.callL (d := (some 72)) (f := 16) (args := [.vc 5]) (args0 := [.vc 0]) (args1 := [lsv (encI .i32) 1 (((((([(IntKind.wrap .i32 (8294 + (IntKind.wrap .i32 (Int.tmod x2 3))))] : List Int)) ++ x0)) ++ ([8297] : List Int)))]) (H0 := [vecL (encI .i32) 1 21 (((((([(IntKind.wrap .i32 (8294 + (IntKind.wrap .i32 (Int.tmod x2 3))))] : List Int)) ++ x0)) ++ ([8297] : List Int)))]) (v := .bool y310) (tr2 := []) [5] (by kernel_rfl) (by kernel_rfl) (by kernel_rfl) (by kernel_rfl) (by decide) (by kernel_rfl) (by kernel_rfl) (by kernel_rfl) (by kernel_rfl) (.cons (Le.refl _) .nil) (class_Calm_ok hy311) (by kernel_rfl) (by kernel_rfl) ?_
           refine kC 1 [6,66,70,72,73] ?_
           obtain ⟨y313, hy314, h315⟩ := bindS h312
           refine RJ.call0 (d := (some 74)) (f := 16) (args := [lsv (encI .i32) 1 x0]) (v := .bool y313) (tr2 := []) (by kernel_rfl) (by kernel_rfl) (.cons (Le.refl _) .nil) (class_Calm_ok hy314) (by kernel_rfl) ?_
           refine kC 4 [6] ?_
           refine kE ?_
           obtain rfl := oi h315
           refine PJ.wk (Wk.sel (L2 := [(6, .bool (y310 == y313))]) (H2 := []) 0 (by rw [hFH]; rfl) hFD [] (by kernel_rfl) (by kernel_rfl) (by decide) (by kernel_rfl) (by kernel_rfl) (by kernel_rfl) (by kernel_rfl)) ?_
           exact kN [6]
         ·have h303 := condF hb301 h300
          refine kC 12 [6] ?_
          refine kE ?_
          obtain rfl := oi h303
          refine PJ.wk (Wk.sel (L2 := [(6, .bool false)]) (H2 := []) 0 (by rw [hFH]; rfl) hFD [] (by kernel_rfl) (by kernel_rfl) (by decide) (by kernel_rfl) (by kernel_rfl) (by kernel_rfl) (by kernel_rfl)) ?_
          exact kN [6]
       ·have h279 := condF hb277 h276
        refine kC 21 [6] ?_
        refine kE ?_
        obtain rfl := oi h279
        refine PJ.wk (Wk.sel (L2 := [(6, .bool false)]) (H2 := []) 0 (by rw [hFH]; rfl) hFD [] (by kernel_rfl) (by kernel_rfl) (by decide) (by kernel_rfl) (by kernel_rfl) (by kernel_rfl) (by kernel_rfl)) ?_
        exact kN [6]
     ·have h228 := condF hb226 h225
      refine kC 33 [6] ?_
      refine kE ?_
      obtain rfl := oi h228
      refine PJ.wk (Wk.sel (L2 := [(6, .bool false)]) (H2 := []) 0 (by rw [hFH]; rfl) hFD [] (by kernel_rfl) (by kernel_rfl) (by decide) (by kernel_rfl) (by kernel_rfl) (by kernel_rfl) (by kernel_rfl)) ?_
      exact kN [6]
    ·have h222 := condF hb220 h219
     refine kC 6 [0,1,6,8,9,45] ?_
     refine RJ.caseB 45 (b := (y214 == false)) (by kernel_rfl) (fun hb316 => ?_) (fun hb316 => ?_)
     ·have h317 := condT hb316 h222
      refine RJ.seg 1 [0, 1, 6, 8, 9, 45, 46] (L2 := [(0, lsv (encI .i32) 1 x0), (1, lsv (encI .i32) 1 x1), (6, .bool false), (8, .vc 1), (9, .vc 5), (45, .bool true), (46, lsv (encI .i32) 1 x0)]) (H2 := [.gone, vecL (encI .i32) 1 21 (x0 ++ x1), .gone, .gone, vecL (encI .i32) 1 21 ([8297] : List Int), vecL (encI .i32) 1 21 (((((([(IntKind.wrap .i32 (8294 + (IntKind.wrap .i32 (Int.tmod x2 3))))] : List Int)) ++ x0)) ++ ([8297] : List Int)))]) (by kernel_rfl) ?_
      obtain ⟨y319, hy320, h321⟩ := bindS h317
      refine RJ.call0 (d := (some 47)) (f := 18) (args := [lsv (encI .i32) 1 x0]) (v := .bool y319) (tr2 := []) (by kernel_rfl) (by kernel_rfl) (.cons (Le.refl _) .nil) (class_Turns_ok hy320) (by kernel_rfl) ?_
      refine kC 2 [0,1,6,8,9,45,49] ?_
      refine RJ.caseB 49 (b := (!y319)) (by kernel_rfl) (fun hb322 => ?_) (fun hb322 => ?_)
      ·have h323 := condT hb322 h321
       refine kC 9 [0,6,9,57,58] ?_
       obtain ⟨y325, hy326, h327⟩ := bindS h323
       refine RJ.call0 (d := (some 59)) (f := 18) (args := [lsv (encI .i32) 1 x0]) (v := .bool y325) (tr2 := []) (by kernel_rfl) (by kernel_rfl) (.cons (Le.refl _) .nil) (class_Turns_ok hy326) (by kernel_rfl) ?_
       refine kC 2 [0,6,9,57,61] ?_
       refine RJ.caseB 61 (b := (!y325)) (by kernel_rfl) (fun hb328 => ?_) (fun hb328 => ?_)
       ·have h329 := condT hb328 h327
        refine RJ.seg 6 [0, 6, 9, 66, 67] (L2 := [(0, lsv (encI .i32) 1 x0), (6, .bool false), (9, .vc 5), (66, .bool true), (67, .vc 5)]) (H2 := [.gone, vecL (encI .i32) 1 21 (x0 ++ x1), .gone, .gone, vecL (encI .i32) 1 21 ([8297] : List Int), vecL (encI .i32) 1 21 (((((([(IntKind.wrap .i32 (8294 + (IntKind.wrap .i32 (Int.tmod x2 3))))] : List Int)) ++ x0)) ++ ([8297] : List Int)))]) (by kernel_rfl) ?_
        obtain ⟨y331, hy332, h333⟩ := bindS h329
        refine RJ.callL (d := (some 68)) (f := 18) (args := [.vc 5]) (args0 := [.vc 0]) (args1 := [lsv (encI .i32) 1 (((((([(IntKind.wrap .i32 (8294 + (IntKind.wrap .i32 (Int.tmod x2 3))))] : List Int)) ++ x0)) ++ ([8297] : List Int)))]) (H0 := [vecL (encI .i32) 1 21 (((((([(IntKind.wrap .i32 (8294 + (IntKind.wrap .i32 (Int.tmod x2 3))))] : List Int)) ++ x0)) ++ ([8297] : List Int)))]) (v := .bool y331) (tr2 := []) [5] (by kernel_rfl) (by kernel_rfl) (by kernel_rfl) (by kernel_rfl) (by decide) (by kernel_rfl) (by kernel_rfl) (by kernel_rfl) (by kernel_rfl) (.cons (Le.refl _) .nil) (class_Turns_ok hy332) (by kernel_rfl) (by kernel_rfl) ?_
        refine kC 2 [0,6,9,66,70] ?_
        refine RJ.caseB 70 (b := (!y331)) (by kernel_rfl) (fun hb334 => ?_) (fun hb334 => ?_)
        ·have h335 := condT hb334 h333
         refine kC 8 [6] ?_
         refine kE ?_
         obtain rfl := oi h335
         refine PJ.wk (Wk.sel (L2 := [(6, .bool true)]) (H2 := []) 0 (by rw [hFH]; rfl) hFD [] (by kernel_rfl) (by kernel_rfl) (by decide) (by kernel_rfl) (by kernel_rfl) (by kernel_rfl) (by kernel_rfl)) ?_
         exact kN [6]
        ·have h336 := condF hb334 h333
         refine kC 1 [0,6,66,70,71] ?_
         obtain ⟨y337, hy338, h339⟩ := bindS h336
         refine RJ.callL (d := (some 72)) (f := 16) (args := [.vc 5]) (args0 := [.vc 0]) (args1 := [lsv (encI .i32) 1 (((((([(IntKind.wrap .i32 (8294 + (IntKind.wrap .i32 (Int.tmod x2 3))))] : List Int)) ++ x0)) ++ ([8297] : List Int)))]) (H0 := [vecL (encI .i32) 1 21 (((((([(IntKind.wrap .i32 (8294 + (IntKind.wrap .i32 (Int.tmod x2 3))))] : List Int)) ++ x0)) ++ ([8297] : List Int)))]) (v := .bool y337) (tr2 := []) [5] (by kernel_rfl) (by kernel_rfl) (by kernel_rfl) (by kernel_rfl) (by decide) (by kernel_rfl) (by kernel_rfl) (by kernel_rfl) (by kernel_rfl) (.cons (Le.refl _) .nil) (class_Calm_ok hy338) (by kernel_rfl) (by kernel_rfl) ?_
         refine kC 1 [6,66,70,72,73] ?_
         obtain ⟨y340, hy341, h342⟩ := bindS h339
         refine RJ.call0 (d := (some 74)) (f := 16) (args := [lsv (encI .i32) 1 x0]) (v := .bool y340) (tr2 := []) (by kernel_rfl) (by kernel_rfl) (.cons (Le.refl _) .nil) (class_Calm_ok hy341) (by kernel_rfl) ?_
         refine RJ.seg 4 [6] (L2 := [(6, .bool (y337 == y340))]) (H2 := [.gone, vecL (encI .i32) 1 21 (x0 ++ x1), .gone, .gone, vecL (encI .i32) 1 21 ([8297] : List Int), vecL (encI .i32) 1 21 (((((([(IntKind.wrap .i32 (8294 + (IntKind.wrap .i32 (Int.tmod x2 3))))] : List Int)) ++ x0)) ++ ([8297] : List Int)))]) (by kernel_rfl) ?_
         refine kE ?_
         obtain rfl := oi h342
         refine PJ.wk (Wk.sel (L2 := [(6, .bool (y337 == y340))]) (H2 := []) 0 (by rw [hFH]; rfl) hFD [] (by kernel_rfl) (by kernel_rfl) (by decide) (by kernel_rfl) (by kernel_rfl) (by kernel_rfl) (by kernel_rfl)) ?_
         exact kN [6]
       ·have h330 := condF hb328 h327
        refine RJ.seg 1 [0, 6, 9, 57, 61, 62] (L2 := [(0, lsv (encI .i32) 1 x0), (6, .bool false), (9, .vc 5), (57, .bool true), (61, .bool false), (62, .vc 5)]) (H2 := [.gone, vecL (encI .i32) 1 21 (x0 ++ x1), .gone, .gone, vecL (encI .i32) 1 21 ([8297] : List Int), vecL (encI .i32) 1 21 (((((([(IntKind.wrap .i32 (8294 + (IntKind.wrap .i32 (Int.tmod x2 3))))] : List Int)) ++ x0)) ++ ([8297] : List Int)))]) (by kernel_rfl) ?_
        obtain ⟨y343, hy344, h345⟩ := bindS h330
        refine RJ.callL (d := (some 63)) (f := 18) (args := [.vc 5]) (args0 := [.vc 0]) (args1 := [lsv (encI .i32) 1 (((((([(IntKind.wrap .i32 (8294 + (IntKind.wrap .i32 (Int.tmod x2 3))))] : List Int)) ++ x0)) ++ ([8297] : List Int)))]) (H0 := [vecL (encI .i32) 1 21 (((((([(IntKind.wrap .i32 (8294 + (IntKind.wrap .i32 (Int.tmod x2 3))))] : List Int)) ++ x0)) ++ ([8297] : List Int)))]) (v := .bool y343) (tr2 := []) [5] (by kernel_rfl) (by kernel_rfl) (by kernel_rfl) (by kernel_rfl) (by decide) (by kernel_rfl) (by kernel_rfl) (by kernel_rfl) (by kernel_rfl) (.cons (Le.refl _) .nil) (class_Turns_ok hy344) (by kernel_rfl) (by kernel_rfl) ?_
        refine kC 3 [0,6,9,66] ?_
        refine RJ.caseB 66 (b := y343) (by kernel_rfl) (fun hb346 => ?_) (fun hb346 => ?_)
        ·have h347 := condT hb346 h345
         refine kC 1 [0,6,9,66,67] ?_
         obtain ⟨y349, hy350, h351⟩ := bindS h347
         refine RJ.callL (d := (some 68)) (f := 18) (args := [.vc 5]) (args0 := [.vc 0]) (args1 := [lsv (encI .i32) 1 (((((([(IntKind.wrap .i32 (8294 + (IntKind.wrap .i32 (Int.tmod x2 3))))] : List Int)) ++ x0)) ++ ([8297] : List Int)))]) (H0 := [vecL (encI .i32) 1 21 (((((([(IntKind.wrap .i32 (8294 + (IntKind.wrap .i32 (Int.tmod x2 3))))] : List Int)) ++ x0)) ++ ([8297] : List Int)))]) (v := .bool y349) (tr2 := []) [5] (by kernel_rfl) (by kernel_rfl) (by kernel_rfl) (by kernel_rfl) (by decide) (by kernel_rfl) (by kernel_rfl) (by kernel_rfl) (by kernel_rfl) (.cons (Le.refl _) .nil) (class_Turns_ok hy350) (by kernel_rfl) (by kernel_rfl) ?_
         refine kC 2 [0,6,9,66,70] ?_
         refine RJ.caseB 70 (b := (!y349)) (by kernel_rfl) (fun hb352 => ?_) (fun hb352 => ?_)
         ·have h353 := condT hb352 h351
          refine RJ.seg 8 [6] (L2 := [(6, .bool true)]) (H2 := [.gone, vecL (encI .i32) 1 21 (x0 ++ x1), .gone, .gone, vecL (encI .i32) 1 21 ([8297] : List Int), vecL (encI .i32) 1 21 (((((([(IntKind.wrap .i32 (8294 + (IntKind.wrap .i32 (Int.tmod x2 3))))] : List Int)) ++ x0)) ++ ([8297] : List Int)))]) (by kernel_rfl) ?_
          refine kE ?_
          obtain rfl := oi h353
          refine PJ.wk (Wk.sel (L2 := [(6, .bool true)]) (H2 := []) 0 (by rw [hFH]; rfl) hFD [] (by kernel_rfl) (by kernel_rfl) (by decide) (by kernel_rfl) (by kernel_rfl) (by kernel_rfl) (by kernel_rfl)) ?_
          exact kN [6]
         ·have h354 := condF hb352 h351
          refine RJ.seg 1 [0, 6, 66, 70, 71] (L2 := [(0, lsv (encI .i32) 1 x0), (6, .bool false), (66, .bool true), (70, .bool false), (71, .vc 5)]) (H2 := [.gone, vecL (encI .i32) 1 21 (x0 ++ x1), .gone, .gone, vecL (encI .i32) 1 21 ([8297] : List Int), vecL (encI .i32) 1 21 (((((([(IntKind.wrap .i32 (8294 + (IntKind.wrap .i32 (Int.tmod x2 3))))] : List Int)) ++ x0)) ++ ([8297] : List Int)))]) (by kernel_rfl) ?_
          obtain ⟨y355, hy356, h357⟩ := bindS h354
          refine RJ.callL (d := (some 72)) (f := 16) (args := [.vc 5]) (args0 := [.vc 0]) (args1 := [lsv (encI .i32) 1 (((((([(IntKind.wrap .i32 (8294 + (IntKind.wrap .i32 (Int.tmod x2 3))))] : List Int)) ++ x0)) ++ ([8297] : List Int)))]) (H0 := [vecL (encI .i32) 1 21 (((((([(IntKind.wrap .i32 (8294 + (IntKind.wrap .i32 (Int.tmod x2 3))))] : List Int)) ++ x0)) ++ ([8297] : List Int)))]) (v := .bool y355) (tr2 := []) [5] (by kernel_rfl) (by kernel_rfl) (by kernel_rfl) (by kernel_rfl) (by decide) (by kernel_rfl) (by kernel_rfl) (by kernel_rfl) (by kernel_rfl) (.cons (Le.refl _) .nil) (class_Calm_ok hy356) (by kernel_rfl) (by kernel_rfl) ?_
          refine kC 1 [6,66,70,72,73] ?_
          obtain ⟨y358, hy359, h360⟩ := bindS h357
          refine RJ.call0 (d := (some 74)) (f := 16) (args := [lsv (encI .i32) 1 x0]) (v := .bool y358) (tr2 := []) (by kernel_rfl) (by kernel_rfl) (.cons (Le.refl _) .nil) (class_Calm_ok hy359) (by kernel_rfl) ?_
          refine kC 4 [6] ?_
          refine kE ?_
          obtain rfl := oi h360
          refine PJ.wk (Wk.sel (L2 := [(6, .bool (y355 == y358))]) (H2 := []) 0 (by rw [hFH]; rfl) hFD [] (by kernel_rfl) (by kernel_rfl) (by decide) (by kernel_rfl) (by kernel_rfl) (by kernel_rfl) (by kernel_rfl)) ?_
          exact kN [6]
        ·have h348 := condF hb346 h345
         refine kC 12 [6] ?_
         refine kE ?_
         obtain rfl := oi h348
         refine PJ.wk (Wk.sel (L2 := [(6, .bool false)]) (H2 := []) 0 (by rw [hFH]; rfl) hFD [] (by kernel_rfl) (by kernel_rfl) (by decide) (by kernel_rfl) (by kernel_rfl) (by kernel_rfl) (by kernel_rfl)) ?_
         exact kN [6]
      ·have h324 := condF hb322 h321
       refine kC 1 [0,1,6,9,45,49,50] ?_
       obtain ⟨y361, hy362, h363⟩ := bindS h324
       refine RJ.callL (d := (some 51)) (f := 18) (args := [.vc 1]) (args0 := [.vc 0]) (args1 := [lsv (encI .i32) 1 (x0 ++ x1)]) (H0 := [vecL (encI .i32) 1 21 (x0 ++ x1)]) (v := .bool y361) (tr2 := []) [1] (by kernel_rfl) (by kernel_rfl) (by kernel_rfl) (by kernel_rfl) (by decide) (by kernel_rfl) (by kernel_rfl) (by kernel_rfl) (by kernel_rfl) (.cons (Le.refl _) .nil) (class_Turns_ok hy362) (by kernel_rfl) (by kernel_rfl) ?_
       refine kC 1 [0,6,9,45,49,51,52] ?_
       obtain ⟨y364, hy365, h366⟩ := bindS h363
       refine RJ.call0 (d := (some 53)) (f := 18) (args := [lsv (encI .i32) 1 x1]) (v := .bool y364) (tr2 := []) (by kernel_rfl) (by kernel_rfl) (.cons (Le.refl _) .nil) (class_Turns_ok hy365) (by kernel_rfl) ?_
       refine RJ.seg 4 [0, 6, 9, 57] (L2 := [(0, lsv (encI .i32) 1 x0), (6, .bool false), (9, .vc 5), (57, .bool (y361 == y364))]) (H2 := [.gone, vecL (encI .i32) 1 21 (x0 ++ x1), .gone, .gone, vecL (encI .i32) 1 21 ([8297] : List Int), vecL (encI .i32) 1 21 (((((([(IntKind.wrap .i32 (8294 + (IntKind.wrap .i32 (Int.tmod x2 3))))] : List Int)) ++ x0)) ++ ([8297] : List Int)))]) (by kernel_rfl) ?_
       refine RJ.caseB 57 (b := (y361 == y364)) (by kernel_rfl) (fun hb367 => ?_) (fun hb367 => ?_)
       ·have h368 := condT hb367 h366
        refine kC 1 [0,6,9,57,58] ?_
        obtain ⟨y370, hy371, h372⟩ := bindS h368
        refine RJ.call0 (d := (some 59)) (f := 18) (args := [lsv (encI .i32) 1 x0]) (v := .bool y370) (tr2 := []) (by kernel_rfl) (by kernel_rfl) (.cons (Le.refl _) .nil) (class_Turns_ok hy371) (by kernel_rfl) ?_
        refine kC 2 [0,6,9,57,61] ?_
        refine RJ.caseB 61 (b := (!y370)) (by kernel_rfl) (fun hb373 => ?_) (fun hb373 => ?_)
        ·have h374 := condT hb373 h372
         refine kC 6 [0,6,9,66,67] ?_
         obtain ⟨y376, hy377, h378⟩ := bindS h374
         refine RJ.callL (d := (some 68)) (f := 18) (args := [.vc 5]) (args0 := [.vc 0]) (args1 := [lsv (encI .i32) 1 (((((([(IntKind.wrap .i32 (8294 + (IntKind.wrap .i32 (Int.tmod x2 3))))] : List Int)) ++ x0)) ++ ([8297] : List Int)))]) (H0 := [vecL (encI .i32) 1 21 (((((([(IntKind.wrap .i32 (8294 + (IntKind.wrap .i32 (Int.tmod x2 3))))] : List Int)) ++ x0)) ++ ([8297] : List Int)))]) (v := .bool y376) (tr2 := []) [5] (by kernel_rfl) (by kernel_rfl) (by kernel_rfl) (by kernel_rfl) (by decide) (by kernel_rfl) (by kernel_rfl) (by kernel_rfl) (by kernel_rfl) (.cons (Le.refl _) .nil) (class_Turns_ok hy377) (by kernel_rfl) (by kernel_rfl) ?_
         refine RJ.seg 2 [0, 6, 9, 66, 70] (L2 := [(0, lsv (encI .i32) 1 x0), (6, .bool false), (9, .vc 5), (66, .bool true), (70, .bool (!y376))]) (H2 := [.gone, vecL (encI .i32) 1 21 (x0 ++ x1), .gone, .gone, vecL (encI .i32) 1 21 ([8297] : List Int), vecL (encI .i32) 1 21 (((((([(IntKind.wrap .i32 (8294 + (IntKind.wrap .i32 (Int.tmod x2 3))))] : List Int)) ++ x0)) ++ ([8297] : List Int)))]) (by kernel_rfl) ?_
         refine RJ.caseB 70 (b := (!y376)) (by kernel_rfl) (fun hb379 => ?_) (fun hb379 => ?_)
         ·have h380 := condT hb379 h378
          refine kC 8 [6] ?_
          refine kE ?_
          obtain rfl := oi h380
          refine PJ.wk (Wk.sel (L2 := [(6, .bool true)]) (H2 := []) 0 (by rw [hFH]; rfl) hFD [] (by kernel_rfl) (by kernel_rfl) (by decide) (by kernel_rfl) (by kernel_rfl) (by kernel_rfl) (by kernel_rfl)) ?_
          exact kN [6]
         ·have h381 := condF hb379 h378
          refine kC 1 [0,6,66,70,71] ?_
          obtain ⟨y382, hy383, h384⟩ := bindS h381
          refine RJ.callL (d := (some 72)) (f := 16) (args := [.vc 5]) (args0 := [.vc 0]) (args1 := [lsv (encI .i32) 1 (((((([(IntKind.wrap .i32 (8294 + (IntKind.wrap .i32 (Int.tmod x2 3))))] : List Int)) ++ x0)) ++ ([8297] : List Int)))]) (H0 := [vecL (encI .i32) 1 21 (((((([(IntKind.wrap .i32 (8294 + (IntKind.wrap .i32 (Int.tmod x2 3))))] : List Int)) ++ x0)) ++ ([8297] : List Int)))]) (v := .bool y382) (tr2 := []) [5] (by kernel_rfl) (by kernel_rfl) (by kernel_rfl) (by kernel_rfl) (by decide) (by kernel_rfl) (by kernel_rfl) (by kernel_rfl) (by kernel_rfl) (.cons (Le.refl _) .nil) (class_Calm_ok hy383) (by kernel_rfl) (by kernel_rfl) ?_
          refine kC 1 [6,66,70,72,73] ?_
          obtain ⟨y385, hy386, h387⟩ := bindS h384
          refine RJ.call0 (d := (some 74)) (f := 16) (args := [lsv (encI .i32) 1 x0]) (v := .bool y385) (tr2 := []) (by kernel_rfl) (by kernel_rfl) (.cons (Le.refl _) .nil) (class_Calm_ok hy386) (by kernel_rfl) ?_
          refine kC 4 [6] ?_
          refine kE ?_
          obtain rfl := oi h387
          refine PJ.wk (Wk.sel (L2 := [(6, .bool (y382 == y385))]) (H2 := []) 0 (by rw [hFH]; rfl) hFD [] (by kernel_rfl) (by kernel_rfl) (by decide) (by kernel_rfl) (by kernel_rfl) (by kernel_rfl) (by kernel_rfl)) ?_
          exact kN [6]
        ·have h375 := condF hb373 h372
         refine kC 1 [0,6,9,57,61,62] ?_
         obtain ⟨y388, hy389, h390⟩ := bindS h375
         refine RJ.callL (d := (some 63)) (f := 18) (args := [.vc 5]) (args0 := [.vc 0]) (args1 := [lsv (encI .i32) 1 (((((([(IntKind.wrap .i32 (8294 + (IntKind.wrap .i32 (Int.tmod x2 3))))] : List Int)) ++ x0)) ++ ([8297] : List Int)))]) (H0 := [vecL (encI .i32) 1 21 (((((([(IntKind.wrap .i32 (8294 + (IntKind.wrap .i32 (Int.tmod x2 3))))] : List Int)) ++ x0)) ++ ([8297] : List Int)))]) (v := .bool y388) (tr2 := []) [5] (by kernel_rfl) (by kernel_rfl) (by kernel_rfl) (by kernel_rfl) (by decide) (by kernel_rfl) (by kernel_rfl) (by kernel_rfl) (by kernel_rfl) (.cons (Le.refl _) .nil) (class_Turns_ok hy389) (by kernel_rfl) (by kernel_rfl) ?_
         refine RJ.seg 3 [0, 6, 9, 66] (L2 := [(0, lsv (encI .i32) 1 x0), (6, .bool false), (9, .vc 5), (66, .bool y388)]) (H2 := [.gone, vecL (encI .i32) 1 21 (x0 ++ x1), .gone, .gone, vecL (encI .i32) 1 21 ([8297] : List Int), vecL (encI .i32) 1 21 (((((([(IntKind.wrap .i32 (8294 + (IntKind.wrap .i32 (Int.tmod x2 3))))] : List Int)) ++ x0)) ++ ([8297] : List Int)))]) (by kernel_rfl) ?_
         refine RJ.caseB 66 (b := y388) (by kernel_rfl) (fun hb391 => ?_) (fun hb391 => ?_)
         ·have h392 := condT hb391 h390
          refine kC 1 [0,6,9,66,67] ?_
          obtain ⟨y394, hy395, h396⟩ := bindS h392
          refine RJ.callL (d := (some 68)) (f := 18) (args := [.vc 5]) (args0 := [.vc 0]) (args1 := [lsv (encI .i32) 1 (((((([(IntKind.wrap .i32 (8294 + (IntKind.wrap .i32 (Int.tmod x2 3))))] : List Int)) ++ x0)) ++ ([8297] : List Int)))]) (H0 := [vecL (encI .i32) 1 21 (((((([(IntKind.wrap .i32 (8294 + (IntKind.wrap .i32 (Int.tmod x2 3))))] : List Int)) ++ x0)) ++ ([8297] : List Int)))]) (v := .bool y394) (tr2 := []) [5] (by kernel_rfl) (by kernel_rfl) (by kernel_rfl) (by kernel_rfl) (by decide) (by kernel_rfl) (by kernel_rfl) (by kernel_rfl) (by kernel_rfl) (.cons (Le.refl _) .nil) (class_Turns_ok hy395) (by kernel_rfl) (by kernel_rfl) ?_
          refine kC 2 [0,6,9,66,70] ?_
          refine RJ.caseB 70 (b := (!y394)) (by kernel_rfl) (fun hb397 => ?_) (fun hb397 => ?_)
          ·have h398 := condT hb397 h396
           refine kC 8 [6] ?_
           refine kE ?_
           obtain rfl := oi h398
           refine PJ.wk (Wk.sel (L2 := [(6, .bool true)]) (H2 := []) 0 (by rw [hFH]; rfl) hFD [] (by kernel_rfl) (by kernel_rfl) (by decide) (by kernel_rfl) (by kernel_rfl) (by kernel_rfl) (by kernel_rfl)) ?_
           exact kN [6]
          ·have h399 := condF hb397 h396
           refine kC 1 [0,6,66,70,71] ?_
           obtain ⟨y400, hy401, h402⟩ := bindS h399
           refine RJ.callL (d := (some 72)) (f := 16) (args := [.vc 5]) (args0 := [.vc 0]) (args1 := [lsv (encI .i32) 1 (((((([(IntKind.wrap .i32 (8294 + (IntKind.wrap .i32 (Int.tmod x2 3))))] : List Int)) ++ x0)) ++ ([8297] : List Int)))]) (H0 := [vecL (encI .i32) 1 21 (((((([(IntKind.wrap .i32 (8294 + (IntKind.wrap .i32 (Int.tmod x2 3))))] : List Int)) ++ x0)) ++ ([8297] : List Int)))]) (v := .bool y400) (tr2 := []) [5] (by kernel_rfl) (by kernel_rfl) (by kernel_rfl) (by kernel_rfl) (by decide) (by kernel_rfl) (by kernel_rfl) (by kernel_rfl) (by kernel_rfl) (.cons (Le.refl _) .nil) (class_Calm_ok hy401) (by kernel_rfl) (by kernel_rfl) ?_
           refine RJ.seg 1 [6, 66, 70, 72, 73] (L2 := [(6, .bool false), (66, .bool true), (70, .bool false), (72, .bool y400), (73, lsv (encI .i32) 1 x0)]) (H2 := [.gone, vecL (encI .i32) 1 21 (x0 ++ x1), .gone, .gone, vecL (encI .i32) 1 21 ([8297] : List Int), vecL (encI .i32) 1 21 (((((([(IntKind.wrap .i32 (8294 + (IntKind.wrap .i32 (Int.tmod x2 3))))] : List Int)) ++ x0)) ++ ([8297] : List Int)))]) (by kernel_rfl) ?_
           obtain ⟨y403, hy404, h405⟩ := bindS h402
           refine RJ.call0 (d := (some 74)) (f := 16) (args := [lsv (encI .i32) 1 x0]) (v := .bool y403) (tr2 := []) (by kernel_rfl) (by kernel_rfl) (.cons (Le.refl _) .nil) (class_Calm_ok hy404) (by kernel_rfl) ?_
           refine kC 4 [6] ?_
           refine kE ?_
           obtain rfl := oi h405
           refine PJ.wk (Wk.sel (L2 := [(6, .bool (y400 == y403))]) (H2 := []) 0 (by rw [hFH]; rfl) hFD [] (by kernel_rfl) (by kernel_rfl) (by decide) (by kernel_rfl) (by kernel_rfl) (by kernel_rfl) (by kernel_rfl)) ?_
           exact kN [6]
         ·have h393 := condF hb391 h390
          refine kC 12 [6] ?_
          refine kE ?_
          obtain rfl := oi h393
          refine PJ.wk (Wk.sel (L2 := [(6, .bool false)]) (H2 := []) 0 (by rw [hFH]; rfl) hFD [] (by kernel_rfl) (by kernel_rfl) (by decide) (by kernel_rfl) (by kernel_rfl) (by kernel_rfl) (by kernel_rfl)) ?_
          exact kN [6]
       ·have h369 := condF hb367 h366
        refine kC 21 [6] ?_
        refine kE ?_
        obtain rfl := oi h369
        refine PJ.wk (Wk.sel (L2 := [(6, .bool false)]) (H2 := []) 0 (by rw [hFH]; rfl) hFD [] (by kernel_rfl) (by kernel_rfl) (by decide) (by kernel_rfl) (by kernel_rfl) (by kernel_rfl) (by kernel_rfl)) ?_
        exact kN [6]
     ·have h318 := condF hb316 h222
      refine RJ.seg 33 [6] (L2 := [(6, .bool false)]) (H2 := [.gone, vecL (encI .i32) 1 21 (x0 ++ x1), .gone, .gone, vecL (encI .i32) 1 21 ([8297] : List Int), vecL (encI .i32) 1 21 (((((([(IntKind.wrap .i32 (8294 + (IntKind.wrap .i32 (Int.tmod x2 3))))] : List Int)) ++ x0)) ++ ([8297] : List Int)))]) (by kernel_rfl) ?_
      refine kE ?_
      obtain rfl := oi h318
      refine PJ.wk (Wk.sel (L2 := [(6, .bool false)]) (H2 := []) 0 (by rw [hFH]; rfl) hFD [] (by kernel_rfl) (by kernel_rfl) (by decide) (by kernel_rfl) (by kernel_rfl) (by kernel_rfl) (by kernel_rfl)) ?_
      exact kN [6]
   ·have h213 := condF hb211 hy208
    refine RJ.seg 44 [6] (L2 := [(6, .bool false)]) (H2 := [.gone, vecL (encI .i32) 1 21 (x0 ++ x1), .gone, .gone, vecL (encI .i32) 1 21 ([8297] : List Int), vecL (encI .i32) 1 21 (((((([(IntKind.wrap .i32 (8294 + (IntKind.wrap .i32 (Int.tmod x2 3))))] : List Int)) ++ x0)) ++ ([8297] : List Int)))]) (by kernel_rfl) ?_
    refine kE ?_
    obtain rfl := oi h213
    refine PJ.wk (Wk.sel (L2 := [(6, .bool false)]) (H2 := []) 0 (by rw [hFH]; rfl) hFD [] (by kernel_rfl) (by kernel_rfl) (by decide) (by kernel_rfl) (by kernel_rfl) (by kernel_rfl) (by kernel_rfl)) ?_
    exact kN [6]
  ·refine kX ?_
   obtain rfl := oi h210
   exact kZ hFn hFH hFD

noncomputable def exerguelaw02_ClassWhole (x0 : Int) (x1 : List Int) (x2 : Int) : Option (Bool) :=
 (Option.bind exerguelaw02_shown fun y1 => (bif (decide ((x1.length : Int) > 500)) then (some y1) else (Option.bind (class_Of x0) fun y7 => (Option.bind (bif (decide (y7 = 6)) then (some true) else (bif (decide (y7 = 1)) then (some true) else (some (decide (y7 = 3))))) fun (s16 : Bool) => (Option.bind (Option.bind (bif (decide (y7 < 0)) then (some true) else (bif (decide (y7 > 6)) then (some true) else (Option.bind (class_Calm ([x0] : List Int)) fun y79 => (some (y79 == s16))))) fun (s68 : Bool) => (bif s68 then (some (.inr false)) else (some (.inl ())))) (joinX fun (s54 : Unit) => (Option.bind (Option.bind (bif (decide (x2 < 0)) then (some true) else (bif (decide (x2 ≥ (x1.length : Int))) then (some true) else (bif inR x2 x1.length then (some ((decide (¬ (nth x1 x2) = x0)))) else none))) fun (s121 : Bool) => (bif s121 then (some (.inr y1)) else (some (.inl ())))) (joinX fun (s109 : Unit) => (Option.bind (bif y1 then (bif (!s16) then (some true) else (Option.bind (class_Calm x1) fun y157 => (some (!y157)))) else (some false)) fun (s146 : Bool) => (some s146))))))))))
theorem exerguelaw02_ClassWhole_ok {x0 : Int} {x1 : List Int} {x2 : Int} {r : Bool} (h : exerguelaw02_ClassWhole x0 x1 x2 = some r) : SC Tryd.prog 7 [.int .i32 x0, lsv (encI .i32) 1 x1, .int .i64 x2] [] (.bool r) [] := by
 refine kFn (fn := Tryd.f7) (fun F hFn hFH hFD => ?_)
 unfold exerguelaw02_ClassWhole at h
 refine kSR ?_
 refine kC 1 [0,1,2,6] ?_
 refine kEN ?_
 refine kSR ?_
 obtain ⟨y1, hy2, h3⟩ := bindS h
 refine RJ.call0 (d := (some 10)) (f := 9) (args := []) (v := .bool y1) (tr2 := []) (by kernel_rfl) (by kernel_rfl) .nil (exerguelaw02_shown_ok hy2) (by kernel_rfl) ?_
 refine kC 1 [0,1,2,6,7] ?_
 refine kEN ?_
 refine kS ?_
 refine kSR ?_
 refine kC 3 [0,1,2,6,7,13] ?_
 refine kEN ?_
 refine J.caseB 13 (b := (decide ((x1.length : Int) > 500))) (by kernel_rfl) (fun hb4 => ?_) (fun hb4 => ?_)
 ·have h5 := condT hb4 h3
  refine kT ?_
  refine kSR ?_
  refine RJ.seg 2 [0, 1, 2, 6, 7] (L2 := [(0, .int .i32 x0), (1, lsv (encI .i32) 1 x1), (2, .int .i64 x2), (6, .bool y1), (7, .bool y1)]) (H2 := []) (by kernel_rfl) ?_
  refine kEN ?_
  refine kX ?_
  refine PJ.passRet ?_
  obtain rfl := oi h5
  exact kZ hFn hFH hFD
 ·have h6 := condF hb4 h3
  refine kF ?_
  refine kK ?_
  refine PJ.next ?_
  refine kSR ?_
  refine RJ.seg 1 [0, 1, 2, 6, 7, 15] (L2 := [(0, .int .i32 x0), (1, lsv (encI .i32) 1 x1), (2, .int .i64 x2), (6, .bool false), (7, .bool y1), (15, .int .i32 x0)]) (H2 := []) (by kernel_rfl) ?_
  obtain ⟨y7, hy8, h9⟩ := bindS h6
  refine RJ.call0 (d := (some 16)) (f := 12) (args := [.int .i32 x0]) (v := .int .i64 y7) (tr2 := []) (by kernel_rfl) (by kernel_rfl) (.cons (Le.refl _) .nil) (class_Of_ok hy8) (by kernel_rfl) ?_
  refine kC 1 [0,1,2,6,7,8] ?_
  refine kEN ?_
  obtain ⟨s16, hy18, h20⟩ := bindS h9
  refine K.cutN (by kernel_rfl) (fun (s16 : Bool) => ([(0, .int .i32 x0), (1, lsv (encI .i32) 1 x1), (2, .int .i64 x2), (6, .bool false), (7, .bool y1), (8, .int .i64 y7), (9, .bool s16)], [])) s16 ?_ ?_
  ·refine kR ?_
   refine kC 3 [0,1,2,6,7,8,19] ?_
   refine RJ.caseB 19 (b := (decide (y7 = 6))) (by kernel_rfl) (fun hb21 => ?_) (fun hb21 => ?_)
   ·have h22 := condT hb21 hy18
    refine kC 8 [0,1,2,6,7,8,9] ?_
    refine kE ?_
    obtain rfl := oi h22
    exact kN [0, 1, 2, 6, 7, 8, 9]
   ·have h23 := condF hb21 hy18
    refine kC 4 [0,1,2,6,7,8,23] ?_
    refine RJ.caseB 23 (b := (decide (y7 = 1))) (by kernel_rfl) (fun hb24 => ?_) (fun hb24 => ?_)
    ·have h25 := condT hb24 h23
     refine RJ.seg 4 [0, 1, 2, 6, 7, 8, 9] (L2 := [(0, .int .i32 x0), (1, lsv (encI .i32) 1 x1), (2, .int .i64 x2), (6, .bool false), (7, .bool y1), (8, .int .i64 y7), (9, .bool true)]) (H2 := []) (by kernel_rfl) ?_
     refine kE ?_
     obtain rfl := oi h25
     exact kN [0, 1, 2, 6, 7, 8, 9]
    ·have h26 := condF hb24 h23
     refine RJ.seg 4 [0, 1, 2, 6, 7, 8, 9] (L2 := [(0, .int .i32 x0), (1, lsv (encI .i32) 1 x1), (2, .int .i64 x2), (6, .bool false), (7, .bool y1), (8, .int .i64 y7), (9, .bool (decide (y7 = 3)))]) (H2 := []) (by kernel_rfl) ?_
     refine kE ?_
     obtain rfl := oi h26
     exact kN [0, 1, 2, 6, 7, 8, 9]
  ·obtain ⟨y55, hy56, h57⟩ := bindS h20
   refine K.cutX (by kernel_rfl) (fun (s54 : Unit) => ([(0, .int .i32 x0), (1, lsv (encI .i32) 1 x1), (2, .int .i64 x2), (6, .bool false), (7, .bool y1), (9, .bool s16)], [])) y55 ?_ (fun s54 hs => ?_)
   ·obtain ⟨s68, hy70, h72⟩ := bindS hy56
    refine K.cutN (by kernel_rfl) (fun (s68 : Bool) => ([(0, .int .i32 x0), (1, lsv (encI .i32) 1 x1), (2, .int .i64 x2), (6, .bool false), (7, .bool y1), (9, .bool s16), (39, .bool s68)], [])) s68 ?_ ?_
    ·refine kR ?_
     refine kC 3 [0,1,2,6,7,8,9,29] ?_
     refine RJ.caseB 29 (b := (decide (y7 < 0))) (by kernel_rfl) (fun hb73 => ?_) (fun hb73 => ?_)
     ·have h74 := condT hb73 hy70
      refine kC 10 [0,1,2,6,7,9,39] ?_
      refine kE ?_
      obtain rfl := oi h74
      exact kN [0, 1, 2, 6, 7, 9, 39]
     ·have h75 := condF hb73 hy70
      refine kC 4 [0,1,2,6,7,9,33] ?_
      refine RJ.caseB 33 (b := (decide (y7 > 6))) (by kernel_rfl) (fun hb76 => ?_) (fun hb76 => ?_)
      ·have h77 := condT hb76 h75
       refine kC 6 [0,1,2,6,7,9,39] ?_
       refine kE ?_
       obtain rfl := oi h77
       exact kN [0, 1, 2, 6, 7, 9, 39]
      ·have h78 := condF hb76 h75
       refine kC 2 [0,1,2,6,7,9,33,35] ?_
       obtain ⟨y79, hy80, h81⟩ := bindS h78
       refine RJ.callL (d := (some 36)) (f := 16) (args := [.vc 0]) (args0 := [.vc 0]) (args1 := [lsv (encI .i32) 1 ([x0] : List Int)]) (H0 := [vecL (encI .i32) 1 21 ([x0] : List Int)]) (v := .bool y79) (tr2 := []) [0] (by kernel_rfl) (by kernel_rfl) (by kernel_rfl) (by kernel_rfl) (by decide) (by kernel_rfl) (by kernel_rfl) (by kernel_rfl) (by kernel_rfl) (.cons (Le.refl _) .nil) (class_Calm_ok hy80) (by kernel_rfl) (by kernel_rfl) ?_
       refine RJ.seg 3 [0, 1, 2, 6, 7, 9, 39] (L2 := [(0, .int .i32 x0), (1, lsv (encI .i32) 1 x1), (2, .int .i64 x2), (6, .bool false), (7, .bool y1), (9, .bool s16), (39, .bool (y79 == s16))]) (H2 := [vecL (encI .i32) 1 21 ([x0] : List Int)]) (by kernel_rfl) ?_
       refine kE ?_
       obtain rfl := oi h81
       refine PJ.wk (Wk.sel (L2 := [(0, .int .i32 x0), (1, lsv (encI .i32) 1 x1), (2, .int .i64 x2), (6, .bool false), (7, .bool y1), (9, .bool s16), (39, .bool (y79 == s16))]) (H2 := []) 0 (by rw [hFH]; rfl) hFD [] (by kernel_rfl) (by kernel_rfl) (by decide) (by kernel_rfl) (by kernel_rfl) (by kernel_rfl) (by kernel_rfl)) ?_
       exact kN [0, 1, 2, 6, 7, 9, 39]
    ·refine J.caseB 39 (b := s68) (by kernel_rfl) (fun hb82 => ?_) (fun hb82 => ?_)
     ·have h83 := condT hb82 h72
      refine kT ?_
      refine kSR ?_
      refine kC 1 [0,1,2,6,7,9] ?_
      refine kEN ?_
      refine kX ?_
      obtain rfl := oi h83
      have h85 := joinX_inr h57
      refine PJ.cutXr (fun e => nomatch e) ?_
      obtain rfl := oi h85
      exact kZ hFn hFH hFD
     ·have h84 := condF hb82 h72
      refine kF ?_
      refine kK ?_
      obtain rfl := oi h84
      exact PJ.cutXl [0, 1, 2, 6, 7, 9] (by kernel_rfl) (by kernel_rfl)
   ·subst hs
    have h58 := joinX_inl h57
    obtain ⟨y110, hy111, h112⟩ := bindS h58
    refine K.cutX (by kernel_rfl) (fun (s109 : Unit) => ([(1, lsv (encI .i32) 1 x1), (6, .bool false), (7, .bool y1), (9, .bool s16)], [])) y110 ?_ (fun s109 hs => ?_)
    ·obtain ⟨s121, hy123, h125⟩ := bindS hy111
     refine K.cutN (by kernel_rfl) (fun (s121 : Bool) => ([(1, lsv (encI .i32) 1 x1), (6, .bool false), (7, .bool y1), (9, .bool s16), (55, .bool s121)], [])) s121 ?_ ?_
     ·refine kR ?_
      refine kC 3 [0,1,2,6,7,9,42] ?_
      refine RJ.caseB 42 (b := (decide (x2 < 0))) (by kernel_rfl) (fun hb126 => ?_) (fun hb126 => ?_)
      ·have h127 := condT hb126 hy123
       refine kC 13 [1,6,7,9,55] ?_
       refine kE ?_
       obtain rfl := oi h127
       exact kN [1, 6, 7, 9, 55]
      ·have h128 := condF hb126 hy123
       refine kC 6 [0,1,2,6,7,9,48] ?_
       refine RJ.caseB 48 (b := (decide (x2 ≥ (x1.length : Int)))) (by kernel_rfl) (fun hb129 => ?_) (fun hb129 => ?_)
       ·have h130 := condT hb129 h128
        refine kC 7 [1,6,7,9,55] ?_
        refine kE ?_
        obtain rfl := oi h130
        exact kN [1, 6, 7, 9, 55]
       ·have h131 := condF hb129 h128
        refine kC 2 [0,1,6,7,9,48,49,50] ?_
        obtain ⟨hm, h132⟩ := asrt h131
        refine RJ.rel (d := (some 51)) (ef := ⟨.ep (((x1.flatMap (encI .i32)).drop ((x2 : Int).toNat * 1)).take 1), [], []⟩) (ef' := ⟨.ep ((encI .i32) (nth x1 x2)), [], []⟩) (c := inR x2 x1.length) (tr2 := []) (H2 := []) (by kernel_rfl) hm (fun hc => N.idx (encI_len .i32) hc) (by kernel_rfl) ?_
        refine RJ.seg 4 [1, 6, 7, 9, 55] (L2 := [(1, lsv (encI .i32) 1 x1), (6, .bool false), (7, .bool y1), (9, .bool s16), (55, .bool ((decide (¬ (nth x1 x2) = x0))))]) (H2 := []) (by kernel_rfl) ?_
        refine kE ?_
        obtain rfl := oi h132
        exact kN [1, 6, 7, 9, 55]
     ·refine J.caseB 55 (b := s121) (by kernel_rfl) (fun hb133 => ?_) (fun hb133 => ?_)
      ·have h134 := condT hb133 h125
       refine kT ?_
       refine kSR ?_
       refine kC 2 [1,6,7,9] ?_
       refine kEN ?_
       refine kX ?_
       obtain rfl := oi h134
       have h136 := joinX_inr h112
       refine PJ.cutXr (fun e => nomatch e) ?_
       obtain rfl := oi h136
       exact kZ hFn hFH hFD
      ·have h135 := condF hb133 h125
       refine kF ?_
       refine kK ?_
       obtain rfl := oi h135
       exact PJ.cutXl [1, 6, 7, 9] (by kernel_rfl) (by kernel_rfl)
    ·subst hs
     have h113 := joinX_inl h112
     obtain ⟨s146, hy148, h150⟩ := bindS h113
     refine K.cutN (by kernel_rfl) (fun (s146 : Bool) => ([(6, .bool s146)], [])) s146 ?_ ?_
     ·refine kR ?_
      refine kC 2 [1,6,9,58] ?_
      refine RJ.caseB 58 (b := y1) (by kernel_rfl) (fun hb151 => ?_) (fun hb151 => ?_)
      ·have h152 := condT hb151 hy148
       refine kC 3 [1,6,58,61] ?_
       refine RJ.caseB 61 (b := (!s16)) (by kernel_rfl) (fun hb154 => ?_) (fun hb154 => ?_)
       ·have h155 := condT hb154 h152
        refine kC 6 [6] ?_
        refine kE ?_
        obtain rfl := oi h155
        exact kN [6]
       ·have h156 := condF hb154 h152
        refine kC 1 [6,58,61,62] ?_
        obtain ⟨y157, hy158, h159⟩ := bindS h156
        refine RJ.call0 (d := (some 63)) (f := 16) (args := [lsv (encI .i32) 1 x1]) (v := .bool y157) (tr2 := []) (by kernel_rfl) (by kernel_rfl) (.cons (Le.refl _) .nil) (class_Calm_ok hy158) (by kernel_rfl) ?_
        refine RJ.seg 4 [6] (L2 := [(6, .bool (!y157))]) (H2 := []) (by kernel_rfl) ?_
        refine kE ?_
        obtain rfl := oi h159
        exact kN [6]
      ·have h153 := condF hb151 hy148
       refine kC 9 [6] ?_
       refine kE ?_
       obtain rfl := oi h153
       exact kN [6]
     ·refine kX ?_
      obtain rfl := oi h150
      exact kZ hFn hFH hFD

noncomputable def exerguelaw02_ClassTurns (x0 : List Int) (x1 : Int) (x2 : Int) : Option (Bool) :=
 (Option.bind exerguelaw02_shown fun y1 => (bif (decide ((x0.length : Int) > 500)) then (some y1) else (Option.bind (loopN (fun (s81 : Bool × Int) => (bif (decide (s81.2 < (x0.length : Int))) then (Option.bind (bif s81.1 then (bif inR s81.2 x0.length then (Option.bind (class_Of (nth x0 s81.2)) fun y145 => (some (decide (¬ y145 = 2)))) else none) else (some false)) fun (s136 : Bool) => (some (.inl (s136, (IntKind.wrap .i64 (s81.2 + 1)))))) else (some (.inr s81.1)))) big (true, 0)) fun (s76 : Bool) => (Option.bind (Option.bind (bif s76 then (Option.bind (class_Turns x0) fun y190 => (some (!y190))) else (some false)) fun (s182 : Bool) => (bif s182 then (some (.inr false)) else (some (.inl ())))) (joinX fun (s171 : Unit) => (Option.bind (Option.bind (bif (!s76) then (some true) else (bif (decide (x1 < 0)) then (some true) else (some ((decide (x1 > (x0.length : Int))))))) fun (s229 : Bool) => (bif s229 then (some (.inr y1)) else (some (.inl ())))) (joinX fun (s218 : Unit) => (bif inS 0 x1 x0.length then (bif room (cut x0 0 x1).length then (bif room ((cut x0 0 x1).length + ([x2] : List Int).length) then (bif inS x1 (x0.length : Int) x0.length then (bif room (((cut x0 0 x1) ++ ([x2] : List Int)).length + (cut x0 x1 (x0.length : Int)).length) then (Option.bind (bif (decide (x2 ≥ 8294)) then (bif (decide (x2 ≤ 8297)) then (some true) else (bif (decide (x2 ≥ 8234)) then (some (decide (x2 ≤ 8238))) else (some false))) else (bif (decide (x2 ≥ 8234)) then (some (decide (x2 ≤ 8238))) else (some false))) fun (s261 : Bool) => (Option.bind (bif y1 then (Option.bind (class_Turns ((((cut x0 0 x1) ++ ([x2] : List Int)) ++ (cut x0 x1 (x0.length : Int))))) fun y292 => (some (y292 == (!s261)))) else (some false)) fun (s284 : Bool) => (some s284))) else none) else none) else none) else none) else none))))))))
theorem exerguelaw02_ClassTurns_ok {x0 : List Int} {x1 : Int} {x2 : Int} {r : Bool} (h : exerguelaw02_ClassTurns x0 x1 x2 = some r) : SC Tryd.prog 8 [lsv (encI .i32) 1 x0, .int .i64 x1, .int .i32 x2] [] (.bool r) [] := by
 refine kFn (fn := Tryd.f8) (fun F hFn hFH hFD => ?_)
 unfold exerguelaw02_ClassTurns at h
 refine kSR ?_
 refine kC 1 [0,1,2,6] ?_
 refine kEN ?_
 refine kSR ?_
 obtain ⟨y1, hy2, h3⟩ := bindS h
 refine RJ.call0 (d := (some 12)) (f := 9) (args := []) (v := .bool y1) (tr2 := []) (by kernel_rfl) (by kernel_rfl) .nil (exerguelaw02_shown_ok hy2) (by kernel_rfl) ?_
 refine kC 1 [0,1,2,6,7] ?_
 refine kEN ?_
 refine kS ?_
 refine kSR ?_
 refine kC 3 [0,1,2,6,7,15] ?_
 refine kEN ?_
 refine J.caseB 15 (b := (decide ((x0.length : Int) > 500))) (by kernel_rfl) (fun hb4 => ?_) (fun hb4 => ?_)
 ·have h5 := condT hb4 h3
  refine kT ?_
  refine kSR ?_
  refine RJ.seg 2 [0, 1, 2, 6, 7] (L2 := [(0, lsv (encI .i32) 1 x0), (1, .int .i64 x1), (2, .int .i32 x2), (6, .bool y1), (7, .bool y1)]) (H2 := []) (by kernel_rfl) ?_
  refine kEN ?_
  refine kX ?_
  refine PJ.passRet ?_
  obtain rfl := oi h5
  exact kZ hFn hFH hFD
 ·have h6 := condF hb4 h3
  refine kF ?_
  refine kK ?_
  refine PJ.next ?_
  refine kSR ?_
  refine RJ.seg 1 [0, 1, 2, 6, 7, 8] (L2 := [(0, lsv (encI .i32) 1 x0), (1, .int .i64 x1), (2, .int .i32 x2), (6, .bool false), (7, .bool y1), (8, .bool true)]) (H2 := []) (by kernel_rfl) ?_
  refine kEN ?_
  obtain ⟨s76, hy78, h80⟩ := bindS h6
  refine K.cutN (by kernel_rfl) (fun (s76 : Bool) => ([(0, lsv (encI .i32) 1 x0), (1, .int .i64 x1), (2, .int .i32 x2), (6, .bool false), (7, .bool y1), (8, .bool s76)], [])) s76 ?_ ?_
  ·refine kSR ?_
   refine kC 1 [0,1,2,6,7,8,9] ?_
   refine kEN ?_
   refine K.block 0 (by kernel_rfl) ?_
   refine K.loop (by kernel_rfl) (fun (s81 : Bool × Int) => ([(0, lsv (encI .i32) 1 x0), (1, .int .i64 x1), (2, .int .i32 x2), (6, .bool false), (7, .bool y1), (8, .bool s81.1), (9, .int .i64 s81.2)], [])) hy78 [0, 1, 2, 6, 7, 8, 9] (by kernel_rfl) (by kernel_rfl) (fun s81 x125 hs124 => ?_)
   refine kS ?_
   refine kSR ?_
   refine kC 4 [0,1,2,6,7,8,9,20] ?_
   refine kEN ?_
   refine J.caseB 20 (b := (decide (s81.2 < (x0.length : Int)))) (by kernel_rfl) (fun hb126 => ?_) (fun hb126 => ?_)
   ·have h127 := condT hb126 hs124
    refine kT ?_
    refine kK ?_
    refine PJ.next ?_
    obtain ⟨s136, hy138, h140⟩ := bindS h127
    refine K.cutN (by kernel_rfl) (fun (s136 : Bool) => ([(0, lsv (encI .i32) 1 x0), (1, .int .i64 x1), (2, .int .i32 x2), (6, .bool false), (7, .bool y1), (8, .bool s136), (9, .int .i64 s81.2)], [])) s136 ?_ ?_
    ·refine K.block 1 (by kernel_rfl) ?_
     refine kR ?_
     refine kC 2 [0,1,2,6,7,8,9,24] ?_
     refine RJ.caseB 24 (b := s81.1) (by kernel_rfl) (fun hb141 => ?_) (fun hb141 => ?_)
     ·have h142 := condT hb141 hy138
      refine kC 2 [0,1,2,6,7,8,9,24,25,26] ?_
      obtain ⟨hm, h144⟩ := asrt h142
      refine RJ.rel (d := (some 27)) (ef := ⟨.ep (((x0.flatMap (encI .i32)).drop ((s81.2 : Int).toNat * 1)).take 1), [], []⟩) (ef' := ⟨.ep ((encI .i32) (nth x0 s81.2)), [], []⟩) (c := inR s81.2 x0.length) (tr2 := []) (H2 := []) (by kernel_rfl) hm (fun hc => N.idx (encI_len .i32) hc) (by kernel_rfl) ?_
      refine RJ.seg 1 [0, 1, 2, 6, 7, 8, 9, 24, 28] (L2 := [(0, lsv (encI .i32) 1 x0), (1, .int .i64 x1), (2, .int .i32 x2), (6, .bool false), (7, .bool y1), (8, .bool s81.1), (9, .int .i64 s81.2), (24, .bool true), (28, .int .i32 (nth x0 s81.2))]) (H2 := []) (by kernel_rfl) ?_
      obtain ⟨y145, hy146, h147⟩ := bindS h144
      refine RJ.call0 (d := (some 29)) (f := 12) (args := [.int .i32 (nth x0 s81.2)]) (v := .int .i64 y145) (tr2 := []) (by kernel_rfl) (by kernel_rfl) (.cons (Le.refl _) .nil) (class_Of_ok hy146) (by kernel_rfl) ?_
      refine kC 3 [0,1,2,6,7,8,9] ?_
      refine kE ?_
      refine PJ.blockNormal ?_
      obtain rfl := oi h147
      exact kN [0, 1, 2, 6, 7, 8, 9]
     ·have h143 := condF hb141 hy138
      refine kC 8 [0,1,2,6,7,8,9] ?_
      refine kE ?_
      refine PJ.blockNormal ?_
      obtain rfl := oi h143
      exact kN [0, 1, 2, 6, 7, 8, 9]
    ·refine kR ?_
     refine kC 3 [0,1,2,6,7,8,9] ?_
     refine kE ?_
     obtain rfl := oi h140
     exact PJ.loopNext [0, 1, 2, 6, 7, 8, 9] (by kernel_rfl) (by kernel_rfl)
   ·have h128 := condF hb126 hs124
    refine kF ?_
    refine K.exit 0 (by kernel_rfl) ?_
    refine PJ.passExit ?_
    obtain rfl := oi h128
    refine PJ.loopOut (fun e => nomatch e) (fun he149 => ?_)
    have h148 := congrArg some he149
    refine PJ.blockOut ?_
    obtain rfl := oi h148
    exact kN [0, 1, 2, 6, 7, 8]
  ·obtain ⟨y172, hy173, h174⟩ := bindS h80
   refine K.cutX (by kernel_rfl) (fun (s171 : Unit) => ([(0, lsv (encI .i32) 1 x0), (1, .int .i64 x1), (2, .int .i32 x2), (6, .bool false), (7, .bool y1), (8, .bool s76)], [])) y172 ?_ (fun s171 hs => ?_)
   ·obtain ⟨s182, hy184, h186⟩ := bindS hy173
    refine K.cutN (by kernel_rfl) (fun (s182 : Bool) => ([(0, lsv (encI .i32) 1 x0), (1, .int .i64 x1), (2, .int .i32 x2), (6, .bool false), (7, .bool y1), (8, .bool s76), (37, .bool s182)], [])) s182 ?_ ?_
    ·refine kR ?_
     refine kC 2 [0,1,2,6,7,8,33] ?_
     refine RJ.caseB 33 (b := s76) (by kernel_rfl) (fun hb187 => ?_) (fun hb187 => ?_)
     ·have h188 := condT hb187 hy184
      refine kC 1 [0,1,2,6,7,8,33,34] ?_
      obtain ⟨y190, hy191, h192⟩ := bindS h188
      refine RJ.call0 (d := (some 35)) (f := 18) (args := [lsv (encI .i32) 1 x0]) (v := .bool y190) (tr2 := []) (by kernel_rfl) (by kernel_rfl) (.cons (Le.refl _) .nil) (class_Turns_ok hy191) (by kernel_rfl) ?_
      refine kC 2 [0,1,2,6,7,8,37] ?_
      refine kE ?_
      obtain rfl := oi h192
      exact kN [0, 1, 2, 6, 7, 8, 37]
     ·have h189 := condF hb187 hy184
      refine kC 4 [0,1,2,6,7,8,37] ?_
      refine kE ?_
      obtain rfl := oi h189
      exact kN [0, 1, 2, 6, 7, 8, 37]
    ·refine J.caseB 37 (b := s182) (by kernel_rfl) (fun hb193 => ?_) (fun hb193 => ?_)
     ·have h194 := condT hb193 h186
      refine kT ?_
      refine kSR ?_
      refine kC 1 [0,1,2,6,7,8] ?_
      refine kEN ?_
      refine kX ?_
      obtain rfl := oi h194
      have h196 := joinX_inr h174
      refine PJ.cutXr (fun e => nomatch e) ?_
      obtain rfl := oi h196
      exact kZ hFn hFH hFD
     ·have h195 := condF hb193 h186
      refine kF ?_
      refine kK ?_
      obtain rfl := oi h195
      exact PJ.cutXl [0, 1, 2, 6, 7, 8] (by kernel_rfl) (by kernel_rfl)
   ·subst hs
    have h175 := joinX_inl h174
    obtain ⟨y219, hy220, h221⟩ := bindS h175
    refine K.cutX (by kernel_rfl) (fun (s218 : Unit) => ([(0, lsv (encI .i32) 1 x0), (1, .int .i64 x1), (2, .int .i32 x2), (6, .bool false), (7, .bool y1)], [])) y219 ?_ (fun s218 hs => ?_)
    ·obtain ⟨s229, hy231, h233⟩ := bindS hy220
     refine K.cutN (by kernel_rfl) (fun (s229 : Bool) => ([(0, lsv (encI .i32) 1 x0), (1, .int .i64 x1), (2, .int .i32 x2), (6, .bool false), (7, .bool y1), (49, .bool s229)], [])) s229 ?_ ?_
     ·refine kR ?_
      refine kC 3 [0,1,2,6,7,40] ?_
      refine RJ.caseB 40 (b := (!s76)) (by kernel_rfl) (fun hb234 => ?_) (fun hb234 => ?_)
      ·have h235 := condT hb234 hy231
       refine kC 9 [0,1,2,6,7,49] ?_
       refine kE ?_
       obtain rfl := oi h235
       exact kN [0, 1, 2, 6, 7, 49]
      ·have h236 := condF hb234 hy231
       refine kC 4 [0,1,2,6,7,44] ?_
       refine RJ.caseB 44 (b := (decide (x1 < 0))) (by kernel_rfl) (fun hb237 => ?_) (fun hb237 => ?_)
       ·have h238 := condT hb237 h236
        refine kC 5 [0,1,2,6,7,49] ?_
        refine kE ?_
        obtain rfl := oi h238
        exact kN [0, 1, 2, 6, 7, 49]
       ·have h239 := condF hb237 h236
        refine kC 5 [0,1,2,6,7,49] ?_
        refine kE ?_
        obtain rfl := oi h239
        exact kN [0, 1, 2, 6, 7, 49]
     ·refine J.caseB 49 (b := s229) (by kernel_rfl) (fun hb240 => ?_) (fun hb240 => ?_)
      ·have h241 := condT hb240 h233
       refine kT ?_
       refine kSR ?_
       refine kC 2 [0,1,2,6,7] ?_
       refine kEN ?_
       refine kX ?_
       obtain rfl := oi h241
       have h243 := joinX_inr h221
       refine PJ.cutXr (fun e => nomatch e) ?_
       obtain rfl := oi h243
       exact kZ hFn hFH hFD
      ·have h242 := condF hb240 h233
       refine kF ?_
       refine kK ?_
       obtain rfl := oi h242
       exact PJ.cutXl [0, 1, 2, 6, 7] (by kernel_rfl) (by kernel_rfl)
    ·subst hs
     have h222 := joinX_inl h221
     refine kS ?_
     refine J.keep [0, 1, 2, 6, 7] (L2 := [(0, lsv (encI .i32) 1 x0), (1, .int .i64 x1), (2, .int .i32 x2), (6, .bool false), (7, .bool y1)]) (by kernel_rfl) ?_
     refine K.draw (by kernel_rfl) (by kernel_rfl) (by kernel_rfl) (H2 := [.res, .res, .res, .res, .res]) (by kernel_rfl) (n := 0) (by kernel_rfl) ?_
     refine kD 3 ?_
     obtain ⟨hm, h244⟩ := asrt h222
     refine RJ.rel (d := (some 54)) (ef := ⟨.lst ((x1 : Int).toNat - (0 : Int).toNat) 1 (((x0.flatMap (encI .i32)).take ((x1 : Int).toNat * 1)).drop ((0 : Int).toNat * 1)), [], []⟩) (ef' := ⟨.lst (cut x0 0 x1).length 1 ((cut x0 0 x1).flatMap (encI .i32)), [], []⟩) (c := inS 0 x1 x0.length) (tr2 := [([], [0, 1]), ([], []), ([], []), ([], [])]) (H2 := [.res, .res, .res, .res, .res]) (by kernel_rfl) hm (fun hc => N.slice (encI_len .i32) hc) (by kernel_rfl) ?_
     obtain ⟨hm, h245⟩ := asrt h244
     refine RJ.rel (d := (some 55)) (ef := ⟨.vc 1, [], [(1, .vec (cut x0 0 x1).length 1 21 ((cut x0 0 x1).flatMap (encI .i32)))]⟩) (ef' := ⟨.vc 1, [], [(1, .vec (cut x0 0 x1).length 1 21 ((cut x0 0 x1).flatMap (encI .i32)))]⟩) (c := room (cut x0 0 x1).length) (tr2 := [([], [0, 1]), ([], []), ([], []), ([], []), ([], [2, 3, 2, 3])]) (H2 := [.res, vecL (encI .i32) 1 21 (cut x0 0 x1), .res, .res, .res]) (by kernel_rfl) hm (fun hc => rfl) (by kernel_rfl) ?_
     refine kD 2 ?_
     obtain ⟨hm, h246⟩ := asrt h245
     refine RJ.rel (d := (some 58)) (ef := ⟨.vc 3, [1, 2], [(1, .gone), (3, .vec ((cut x0 0 x1).length + ([x2] : List Int).length) 1 21 ((cut x0 0 x1).flatMap (encI .i32) ++ ([x2] : List Int).flatMap (encI .i32)))]⟩) (ef' := ⟨.vc 3, [1, 2], [(1, .gone), (3, vecL (encI .i32) 1 21 ((cut x0 0 x1) ++ ([x2] : List Int)))]⟩) (c := room ((cut x0 0 x1).length + ([x2] : List Int).length)) (tr2 := [([], [0, 1]), ([], []), ([], []), ([], []), ([], [2, 3, 2, 3]), ([], []), ([], [4, 5, 4, 5]), ([2, 3, 4, 5], [2, 3, 6, 7, 6, 7])]) (H2 := [.res, .gone, vecL (encI .i32) 1 21 ([x2] : List Int), vecL (encI .i32) 1 21 ((cut x0 0 x1) ++ ([x2] : List Int)), .res]) (by kernel_rfl) hm (fun hc => N.app) (by kernel_rfl) ?_
     refine kD 2 ?_
     obtain ⟨hm, h247⟩ := asrt h246
     refine RJ.rel (d := (some 61)) (ef := ⟨.lst (((x0.length : Int) : Int).toNat - (x1 : Int).toNat) 1 (((x0.flatMap (encI .i32)).take (((x0.length : Int) : Int).toNat * 1)).drop ((x1 : Int).toNat * 1)), [], []⟩) (ef' := ⟨.lst (cut x0 x1 (x0.length : Int)).length 1 ((cut x0 x1 (x0.length : Int)).flatMap (encI .i32)), [], []⟩) (c := inS x1 (x0.length : Int) x0.length) (tr2 := [([], [0, 1]), ([], []), ([], []), ([], []), ([], [2, 3, 2, 3]), ([], []), ([], [4, 5, 4, 5]), ([2, 3, 4, 5], [2, 3, 6, 7, 6, 7]), ([], []), ([], []), ([], [])]) (H2 := [.res, .gone, vecL (encI .i32) 1 21 ([x2] : List Int), vecL (encI .i32) 1 21 ((cut x0 0 x1) ++ ([x2] : List Int)), .res]) (by kernel_rfl) hm (fun hc => N.slice (encI_len .i32) hc) (by kernel_rfl) ?_
     obtain ⟨hm, h248⟩ := asrt h247
     refine RJ.rel (d := (some 62)) (ef := ⟨.vc 4, [3], [(3, .gone), (4, .vec (((cut x0 0 x1) ++ ([x2] : List Int)).length + (cut x0 x1 (x0.length : Int)).length) 1 21 (((cut x0 0 x1) ++ ([x2] : List Int)).flatMap (encI .i32) ++ (cut x0 x1 (x0.length : Int)).flatMap (encI .i32)))]⟩) (ef' := ⟨.vc 4, [3], [(3, .gone), (4, vecL (encI .i32) 1 21 (((cut x0 0 x1) ++ ([x2] : List Int)) ++ (cut x0 x1 (x0.length : Int))))]⟩) (c := room (((cut x0 0 x1) ++ ([x2] : List Int)).length + (cut x0 x1 (x0.length : Int)).length)) (tr2 := [([], [0, 1]), ([], []), ([], []), ([], []), ([], [2, 3, 2, 3]), ([], []), ([], [4, 5, 4, 5]), ([2, 3, 4, 5], [2, 3, 6, 7, 6, 7]), ([], []), ([], []), ([], []), ([6, 7], [6, 7, 8, 9, 8, 9])]) (H2 := [.res, .gone, vecL (encI .i32) 1 21 ([x2] : List Int), .gone, vecL (encI .i32) 1 21 ((((cut x0 0 x1) ++ ([x2] : List Int)) ++ (cut x0 x1 (x0.length : Int))))]) (by kernel_rfl) hm (fun hc => N.app) (by kernel_rfl) ?_
     refine RJ.segD 1 (tr2 := [([], [0, 1]), ([], []), ([], []), ([], []), ([], [2, 3, 2, 3]), ([], []), ([], [4, 5, 4, 5]), ([2, 3, 4, 5], [2, 3, 6, 7, 6, 7]), ([], []), ([], []), ([], []), ([6, 7], [6, 7, 8, 9, 8, 9]), ([], [])]) (L2 := [(10, .vc 4), (62, .vc 4), (61, lsv (encI .i32) 1 (cut x0 x1 (x0.length : Int))), (60, .int .i64 x1), (59, lsv (encI .i32) 1 x0), (58, .vc 3), (57, .vc 2), (56, .int .i32 x2), (55, .vc 1), (54, lsv (encI .i32) 1 (cut x0 0 x1)), (53, .int .i64 x1), (52, lsv (encI .i32) 1 x0), (51, .nl), (0, lsv (encI .i32) 1 x0), (1, .int .i64 x1), (2, .int .i32 x2), (6, .bool false), (7, .bool y1)]) (H2 := [.res, .gone, vecL (encI .i32) 1 21 ([x2] : List Int), .gone, vecL (encI .i32) 1 21 ((((cut x0 0 x1) ++ ([x2] : List Int)) ++ (cut x0 x1 (x0.length : Int))))]) (by kernel_rfl) ?_
     refine kEN ?_
     obtain ⟨s261, hy263, h265⟩ := bindS h248
     refine K.cutN (by kernel_rfl) (fun (s261 : Bool) => ([(6, .bool false), (7, .bool y1), (10, .vc 0), (11, .bool s261)], [vecL (encI .i32) 1 21 ((((cut x0 0 x1) ++ ([x2] : List Int)) ++ (cut x0 x1 (x0.length : Int))))])) s261 ?_ ?_
     ·refine kR ?_
      refine kC 3 [2,6,7,10,65] ?_
      refine RJ.caseB 65 (b := (decide (x2 ≥ 8294))) (by kernel_rfl) (fun hb266 => ?_) (fun hb266 => ?_)
      ·have h267 := condT hb266 hy263
       refine kC 4 [2,6,7,10,69] ?_
       refine RJ.caseB 69 (b := (decide (x2 ≤ 8297))) (by kernel_rfl) (fun hb269 => ?_) (fun hb269 => ?_)
       ·have h270 := condT hb269 h267
        refine kC 8 [6,7,10,11] ?_
        refine kE ?_
        obtain rfl := oi h270
        refine PJ.wk (Wk.sel (L2 := [(6, .bool false), (7, .bool y1), (10, .vc 0), (11, .bool true)]) (H2 := [vecL (encI .i32) 1 21 ((((cut x0 0 x1) ++ ([x2] : List Int)) ++ (cut x0 x1 (x0.length : Int))))]) 0 (by rw [hFH]; rfl) hFD [4] (by kernel_rfl) (by kernel_rfl) (by decide) (by kernel_rfl) (by kernel_rfl) (by kernel_rfl) (by kernel_rfl)) ?_
        exact kN [6, 7, 10, 11]
       ·have h271 := condF hb269 h267
        refine kC 3 [2,6,7,10,69,72] ?_
        refine RJ.caseB 72 (b := (decide (x2 ≥ 8234))) (by kernel_rfl) (fun hb272 => ?_) (fun hb272 => ?_)
        ·have h273 := condT hb272 h271
         refine RJ.seg 5 [6, 7, 10, 11] (L2 := [(6, .bool false), (7, .bool y1), (10, .vc 4), (11, .bool (decide (x2 ≤ 8238)))]) (H2 := [.res, .gone, vecL (encI .i32) 1 21 ([x2] : List Int), .gone, vecL (encI .i32) 1 21 ((((cut x0 0 x1) ++ ([x2] : List Int)) ++ (cut x0 x1 (x0.length : Int))))]) (by kernel_rfl) ?_
         refine kE ?_
         obtain rfl := oi h273
         refine PJ.wk (Wk.sel (L2 := [(6, .bool false), (7, .bool y1), (10, .vc 0), (11, .bool (decide (x2 ≤ 8238)))]) (H2 := [vecL (encI .i32) 1 21 ((((cut x0 0 x1) ++ ([x2] : List Int)) ++ (cut x0 x1 (x0.length : Int))))]) 0 (by rw [hFH]; rfl) hFD [4] (by kernel_rfl) (by kernel_rfl) (by decide) (by kernel_rfl) (by kernel_rfl) (by kernel_rfl) (by kernel_rfl)) ?_
         exact kN [6, 7, 10, 11]
        ·have h274 := condF hb272 h271
         refine RJ.seg 5 [6, 7, 10, 11] (L2 := [(6, .bool false), (7, .bool y1), (10, .vc 4), (11, .bool false)]) (H2 := [.res, .gone, vecL (encI .i32) 1 21 ([x2] : List Int), .gone, vecL (encI .i32) 1 21 ((((cut x0 0 x1) ++ ([x2] : List Int)) ++ (cut x0 x1 (x0.length : Int))))]) (by kernel_rfl) ?_
         refine kE ?_
         obtain rfl := oi h274
         refine PJ.wk (Wk.sel (L2 := [(6, .bool false), (7, .bool y1), (10, .vc 0), (11, .bool false)]) (H2 := [vecL (encI .i32) 1 21 ((((cut x0 0 x1) ++ ([x2] : List Int)) ++ (cut x0 x1 (x0.length : Int))))]) 0 (by rw [hFH]; rfl) hFD [4] (by kernel_rfl) (by kernel_rfl) (by decide) (by kernel_rfl) (by kernel_rfl) (by kernel_rfl) (by kernel_rfl)) ?_
         exact kN [6, 7, 10, 11]
      ·have h268 := condF hb266 hy263
       refine kC 7 [2,6,7,10,69,72] ?_
       refine RJ.caseB 72 (b := (decide (x2 ≥ 8234))) (by kernel_rfl) (fun hb275 => ?_) (fun hb275 => ?_)
       ·have h276 := condT hb275 h268
        refine kC 5 [6,7,10,11] ?_
        refine kE ?_
        obtain rfl := oi h276
        refine PJ.wk (Wk.sel (L2 := [(6, .bool false), (7, .bool y1), (10, .vc 0), (11, .bool (decide (x2 ≤ 8238)))]) (H2 := [vecL (encI .i32) 1 21 ((((cut x0 0 x1) ++ ([x2] : List Int)) ++ (cut x0 x1 (x0.length : Int))))]) 0 (by rw [hFH]; rfl) hFD [4] (by kernel_rfl) (by kernel_rfl) (by decide) (by kernel_rfl) (by kernel_rfl) (by kernel_rfl) (by kernel_rfl)) ?_
        exact kN [6, 7, 10, 11]
       ·have h277 := condF hb275 h268
        refine kC 5 [6,7,10,11] ?_
        refine kE ?_
        obtain rfl := oi h277
        refine PJ.wk (Wk.sel (L2 := [(6, .bool false), (7, .bool y1), (10, .vc 0), (11, .bool false)]) (H2 := [vecL (encI .i32) 1 21 ((((cut x0 0 x1) ++ ([x2] : List Int)) ++ (cut x0 x1 (x0.length : Int))))]) 0 (by rw [hFH]; rfl) hFD [4] (by kernel_rfl) (by kernel_rfl) (by decide) (by kernel_rfl) (by kernel_rfl) (by kernel_rfl) (by kernel_rfl)) ?_
        exact kN [6, 7, 10, 11]
     ·obtain ⟨s284, hy286, h288⟩ := bindS h265
      refine K.cutN (by kernel_rfl) (fun (s284 : Bool) => ([(6, .bool s284)], [])) s284 ?_ ?_
      ·refine kR ?_
       refine kC 2 [6,10,11,78] ?_
       refine RJ.caseB 78 (b := y1) (by kernel_rfl) (fun hb289 => ?_) (fun hb289 => ?_)
       ·have h290 := condT hb289 hy286
        refine kC 1 [6,11,78,79] ?_
        obtain ⟨y292, hy293, h294⟩ := bindS h290
        refine RJ.callL (d := (some 80)) (f := 18) (args := [.vc 0]) (args0 := [.vc 0]) (args1 := [lsv (encI .i32) 1 ((((cut x0 0 x1) ++ ([x2] : List Int)) ++ (cut x0 x1 (x0.length : Int))))]) (H0 := [vecL (encI .i32) 1 21 ((((cut x0 0 x1) ++ ([x2] : List Int)) ++ (cut x0 x1 (x0.length : Int))))]) (v := .bool y292) (tr2 := []) [0] (by kernel_rfl) (by kernel_rfl) (by kernel_rfl) (by kernel_rfl) (by decide) (by kernel_rfl) (by kernel_rfl) (by kernel_rfl) (by kernel_rfl) (.cons (Le.refl _) .nil) (class_Turns_ok hy293) (by kernel_rfl) (by kernel_rfl) ?_
        refine kC 5 [6] ?_
        refine kE ?_
        obtain rfl := oi h294
        refine PJ.wk (Wk.sel (L2 := [(6, .bool (y292 == (!s261)))]) (H2 := []) 0 (by rw [hFH]; rfl) hFD [] (by kernel_rfl) (by kernel_rfl) (by decide) (by kernel_rfl) (by kernel_rfl) (by kernel_rfl) (by kernel_rfl)) ?_
        exact kN [6]
       ·have h291 := condF hb289 hy286
        refine kC 7 [6] ?_
        refine kE ?_
        obtain rfl := oi h291
        refine PJ.wk (Wk.sel (L2 := [(6, .bool false)]) (H2 := []) 0 (by rw [hFH]; rfl) hFD [] (by kernel_rfl) (by kernel_rfl) (by decide) (by kernel_rfl) (by kernel_rfl) (by kernel_rfl) (by kernel_rfl)) ?_
        exact kN [6]
      ·refine kX ?_
       obtain rfl := oi h288
       exact kZ hFn hFH hFD

end Go.Proofs.YtkfgpandjbohfaaDoor
