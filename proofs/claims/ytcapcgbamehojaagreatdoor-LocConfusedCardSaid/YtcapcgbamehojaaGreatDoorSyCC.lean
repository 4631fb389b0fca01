/-
 Ways that are not gone (their mirror is none), and maps whose keys are numbers that are not known.
-/
import Derived.Test.YtcapcgbamehojaaGreatDoorSyKK
namespace Go.Sy
open Go Go.RowKit
set_option linter.unusedVariables false
set_option linter.unusedSimpArgs false
set_option linter.unusedSectionVars false
variable [Inhabited GT]
section
variable {F : Fr} {P : Program} {m : Option Nat} {L : LE} {H : Heap} {Q : Post} {ops : Array Oper} {p : Nat} {tr : List (List Nat × List Nat)} {c : Code}
theorem cT {α : Type} {b : Bool} {X : Option α} {r : α} (d : Nat) (h : (bif b then none else X) = some r) (k : X = some r → J F P c ((d, .bool false) :: L) H Q) (hd : lk L d = .bool b := by kernel_rfl) : J F P c L H Q := by
 cases b with
 | true => cases h
 | false => exact J.caseB d hd (fun hb => by cases hb) (fun _ => k h)
theorem cFR {α : Type} {b : Bool} {X : Option α} {r : α} (d : Nat) (h : (bif b then X else none) = some r) (k : X = some r → RJ F P m ops p tr ((d, .bool true) :: L) H Q) (hd : lk L d = .bool b := by kernel_rfl) : RJ F P m ops p tr L H Q := by
 cases b with
 | false => cases h
 | true => exact RJ.caseB d hd (fun _ => k h) (fun hb => by cases hb)
theorem findE_mapL {K V : Type} {ek : K → SV} {ev : V → SV} {eq : K → K → Bool} (heq : ∀ a b, sameE (ek a) (ek b) = some (eq a b)) (x : K) : ∀ ms : List (K × V), findE (mapL ek ev ms) (ek x) = some ((mget eq ms x).map ev)
 | [] => rfl
 | p :: ms => by
  have ih := findE_mapL (ev := ev) heq x ms
  simp only [mapL, List.map_cons, findE, heq, mget] at ih ⊢
  cases eq x p.1 with
  | true => rfl
  | false => exact ih
def lookKC (P : Program) (o : Oper) (ρ : Env) (H : Heap) : Option (Nat × List (SV × SV) × IntKind × Int × SV × Bool) :=
 match o.op with
 | .lookup t m k ok => match P.underlying t, valE ρ m, valE ρ k with
  | some (.map kt et), some (.mp i), some (.int kd a) => match H[i]?, zeroE P et with
   | some (.map es), some z => if keyOk P kt (.int kd a) = true then some (i, es, kd, a, z, ok) else none
   | _, _ => none
  | _, _, _ => none
 | _ => none
theorem lookKC_sound {o : Oper} {ρ : Env} {idx : Nat} {i : Nat} {es : List (SV × SV)} {kd : IntKind} {a : Int} {z : SV} {ok : Bool} (h : lookKC P o ρ H = some (i, es, kd, a, z, ok)) {r : Option SV} (hf : findE es (.int kd a) = some r) :
  opEval P o ρ H idx = some ⟨answerE ok (r.getD z) r.isSome, [i], []⟩ := by
 unfold lookKC at h
 split at h
 ·rename_i t m k ok' ho
  split at h
  ·rename_i kt' et i' kd' a' hu hm hk
   split at h
   ·rename_i es' z' hH hz
    split at h <;> cases h
    rename_i hkey
    unfold opEval pureEval heapEval
    simp only [ho]
    unfold lookupE
    rw [hu, hm, hk]
    simp only [hH]
    rw [if_pos hkey]
    have : findK P kt' es (.int kd a) = some r := hf
    rw [this, hz]
    cases r <;> rfl
   ·cases h
  ·cases h
 ·cases h
def lookKAt (P : Program) (m : Option Nat) (ops : Array Oper) (p : Nat) (tr : List (List Nat × List Nat)) (L : LE) (H : Heap) : Option (Option Nat × Nat × List (SV × SV) × IntKind × Int × SV × Bool × List (List Nat × List Nat)) :=
 match ops.toList[p]? with
 | none => none
 | some o => match guardS ops (envOf L) o with
  | some true => bif isCall o then none else match lookKC P o (envOf L) H with
   | some (i, es, kd, a, z, ok) => bif okM m ops p o ⟨.undef, [i], []⟩ tr H then some (o.dst, i, es, kd, a, z, ok, trM m ops p o ⟨.undef, [i], []⟩ tr) else none
   | none => none
  | _ => none
theorem RJ.lookK {V : Type} (kd : IntKind) (ev : V → SV) (ms : List (Int × V)) (x : Int) (zv : V) {d : Option Nat} {i : Nat} {ok : Bool} {tr2 : List (List Nat × List Nat)}
  (h : lookKAt P m ops p tr L H = some (d, i, mapL (fun k : Int => .int kd k) ev ms, kd, x, ev zv, ok, tr2))
  (k : RJ F P m ops (p + 1) tr2 (putL L d (answerE ok (ev ((mget (fun a b : Int => a == b) ms x).getD zv)) (mget (fun a b : Int => a == b) ms x).isSome)) H Q) : RJ F P m ops p tr L H Q := by
 unfold lookKAt at h
 split at h
 ·cases h
 ·rename_i o ho
  split at h
  ·rename_i hg
   cases hcc : isCall o with
   | true => rw [hcc] at h; cases h
   | false =>
    rw [hcc] at h
    simp only [cond_false] at h
    split at h
    ·rename_i i2 es2 kd2 a2 z2 ok2 he
     cases hok : okM m ops p o ⟨.undef, [i2], []⟩ tr H with
     | false => rw [hok] at h; cases h
     | true =>
      rw [hok] at h
      simp only [cond_true, Option.some.injEq, Prod.mk.injEq] at h
      obtain ⟨rfl, rfl, rfl, rfl, rfl, rfl, rfl, rfl⟩ := h
      have hf := findE_mapL (ek := fun k : Int => SV.int kd2 k) (ev := ev) (eq := fun a b : Int => a == b) (fun a b => by simp [sameE]) a2 ms
      have hs := lookKC_sound (idx := idxM m ops p H) he hf
      have e1 : ((mget (fun a b : Int => a == b) ms a2).map ev).getD (ev zv) = ev ((mget (fun a b : Int => a == b) ms a2).getD zv) := by cases mget (fun a b : Int => a == b) ms a2 <;> rfl
      have e2 : ((mget (fun a b : Int => a == b) ms a2).map ev).isSome = (mget (fun a b : Int => a == b) ms a2).isSome := by cases mget (fun a b : Int => a == b) ms a2 <;> rfl
      rw [e1, e2] at hs
      exact RJ.step ho hg hcc hs hok k
    ·cases h
  ·cases h
def insKC (P : Program) (o : Oper) (ρ : Env) (H : Heap) : Option (Nat × List (SV × SV) × IntKind × Int × SV) :=
 match o.op with
 | .mapUpdate t m k v => match P.underlying t, valE ρ m, valE ρ k, valE ρ v with
  | some (.map kt _), some (.mp i), some (.int kd a), some sv => match H[i]? with
   | some (.map es) => if keyOk P kt (.int kd a) = true then some (i, es, kd, a, sv) else none
   | _ => none
  | _, _, _, _ => none
 | _ => none
theorem insKC_sound {o : Oper} {ρ : Env} {idx : Nat} {i : Nat} {es : List (SV × SV)} {kd : IntKind} {a : Int} {sv : SV} (h : insKC P o ρ H = some (i, es, kd, a, sv)) (hf : findE es (.int kd a) = some none) :
  opEval P o ρ H idx = some ⟨.undef, [i], [(i, .map (es ++ [(.int kd a, sv)]))]⟩ := by
 unfold insKC at h
 split at h
 ·rename_i t m k v ho
  split at h
  ·rename_i kt' et i' kd' a' sv' hu hm hk hv
   split at h
   ·rename_i es' hH
    split at h <;> cases h
    rename_i hkey
    unfold opEval pureEval heapEval
    simp only [ho]
    unfold insertE
    rw [hu, hm, hk, hv]
    simp only [hH]
    rw [if_pos hkey]
    have : findK P kt' es (.int kd a) = some none := hf
    rw [this]
   ·cases h
  ·cases h
 ·cases h
def insKAt (P : Program) (m : Option Nat) (ops : Array Oper) (p : Nat) (tr : List (List Nat × List Nat)) (L : LE) (H : Heap) : Option (Option Nat × Nat × List (SV × SV) × IntKind × Int × SV × List (List Nat × List Nat)) :=
 match ops.toList[p]? with
 | none => none
 | some o => match guardS ops (envOf L) o with
  | some true => bif isCall o then none else match insKC P o (envOf L) H with
   | some (i, es, kd, a, sv) => bif okM m ops p o ⟨.undef, [i], [(i, .map [])]⟩ tr H then some (o.dst, i, es, kd, a, sv, trM m ops p o ⟨.undef, [i], [(i, .map [])]⟩ tr) else none
   | none => none
  | _ => none
theorem RJ.insK {V : Type} (kd : IntKind) (ev : V → SV) (ms : List (Int × V)) (x : Int) (y : V) {d : Option Nat} {i : Nat} {sv : SV} {tr2 : List (List Nat × List Nat)} {H2 : Heap}
  (h : insKAt P m ops p tr L H = some (d, i, mapL (fun k : Int => .int kd k) ev ms, kd, x, sv, tr2)) (hsv : sv = ev y) (hm : (mget (fun a b : Int => a == b) ms x).isNone = true)
  (hH : setE H i (.map (mapL (fun k : Int => .int kd k) ev (ms ++ [(x, y)]))) = H2) (k : RJ F P m ops (p + 1) tr2 (putL L d .undef) H2 Q) : RJ F P m ops p tr L H Q := by
 subst hH
 unfold insKAt at h
 split at h
 ·cases h
 ·rename_i o ho
  split at h
  ·rename_i hg
   cases hcc : isCall o with
   | true => rw [hcc] at h; cases h
   | false =>
    rw [hcc] at h
    simp only [cond_false] at h
    split at h
    ·rename_i i2 es2 kd2 a2 sv2 he
     cases hok : okM m ops p o ⟨.undef, [i2], [(i2, .map [])]⟩ tr H with
     | false => rw [hok] at h; cases h
     | true =>
      rw [hok] at h
      simp only [cond_true, Option.some.injEq, Prod.mk.injEq] at h
      obtain ⟨rfl, rfl, rfl, rfl, rfl, rfl, rfl⟩ := h
      have hf := findE_mapL (ek := fun k : Int => SV.int kd2 k) (ev := ev) (eq := fun a b : Int => a == b) (fun a b => by simp [sameE]) a2 ms
      have hn : mget (fun a b : Int => a == b) ms a2 = none := by simpa using hm
      rw [hn] at hf
      have hs := insKC_sound (idx := idxM m ops p H) he hf
      have e1 : mapL (fun k : Int => .int kd2 k) ev ms ++ [(SV.int kd2 a2, sv2)] = mapL (fun k : Int => .int kd2 k) ev (ms ++ [(a2, y)]) := by simp [mapL, hsv]
      rw [e1] at hs
      exact RJ.step ho hg hcc hs hok k
    ·cases h
  ·cases h
def mset {V : Type} (y : V) (x : Int) : List (Int × V) → List (Int × V)
 | [] => [(x, y)]
 | p :: r => bif x == p.1 then (p.1, y) :: r else p :: mset y x r
def setE2 (es : List (SV × SV)) (k v : SV) : List (SV × SV) := match findE es k with
 | some (some _) => updE es k v
 | _ => es ++ [(k, v)]
theorem setE2_mapL {V : Type} {kd : IntKind} {ev : V → SV} (x : Int) (y : V) (ms : List (Int × V)) : setE2 (mapL (fun k : Int => .int kd k) ev ms) (.int kd x) (ev y) = mapL (fun k : Int => .int kd k) ev (mset y x ms) := by
 induction ms with
 | nil => rfl
 | cons p ms ih =>
  unfold setE2 at ih ⊢
  simp only [mapL, List.map_cons, findE, sameE, if_pos, mset] at ih ⊢
  cases hx : (x == p.1) with
  | true => simp [updE, sameE, hx]
  | false =>
   simp only [cond_false, List.map_cons, ← ih]
   split <;> simp [updE, sameE, hx, *]
theorem setKC_sound {o : Oper} {ρ : Env} {idx : Nat} {i : Nat} {es : List (SV × SV)} {kd : IntKind} {a : Int} {sv : SV} {q : Option SV} (h : insKC P o ρ H = some (i, es, kd, a, sv)) (hf : findE es (.int kd a) = some q) :
  opEval P o ρ H idx = some ⟨.undef, [i], [(i, .map (setE2 es (.int kd a) sv))]⟩ := by
 unfold insKC at h
 split at h
 ·rename_i t m k v ho
  split at h
  ·rename_i kt' et i' kd' a' sv' hu hm hk hv
   split at h
   ·rename_i es' hH
    split at h <;> cases h
    rename_i hkey
    unfold opEval pureEval heapEval
    simp only [ho]
    unfold insertE
    rw [hu, hm, hk, hv]
    simp only [hH]
    rw [if_pos hkey]
    have : findK P kt' es (.int kd a) = some q := hf
    rw [this]
    unfold setE2
    rw [hf]
    cases q <;> rfl
   ·cases h
  ·cases h
 ·cases h
theorem RJ.setK {V : Type} (kd : IntKind) (ev : V → SV) (ms : List (Int × V)) (x : Int) (y : V) {d : Option Nat} {i : Nat} {sv : SV} {tr2 : List (List Nat × List Nat)} {H2 : Heap}
  (h : insKAt P m ops p tr L H = some (d, i, mapL (fun k : Int => .int kd k) ev ms, kd, x, sv, tr2)) (hsv : sv = ev y)
  (hH : setE H i (.map (mapL (fun k : Int => .int kd k) ev (mset y x ms))) = H2) (k : RJ F P m ops (p + 1) tr2 (putL L d .undef) H2 Q) : RJ F P m ops p tr L H Q := by
 subst hH
 unfold insKAt at h
 split at h
 ·cases h
 ·rename_i o ho
  split at h
  ·rename_i hg
   cases hcc : isCall o with
   | true => rw [hcc] at h; cases h
   | false =>
    rw [hcc] at h
    simp only [cond_false] at h
    split at h
    ·rename_i i2 es2 kd2 a2 sv2 he
     cases hok : okM m ops p o ⟨.undef, [i2], [(i2, .map [])]⟩ tr H with
     | false => rw [hok] at h; cases h
     | true =>
      rw [hok] at h
      simp only [cond_true, Option.some.injEq, Prod.mk.injEq] at h
      obtain ⟨rfl, rfl, rfl, rfl, rfl, rfl, rfl⟩ := h
      have hf := findE_mapL (ek := fun k : Int => SV.int kd2 k) (ev := ev) (eq := fun a b : Int => a == b) (fun a b => by simp [sameE]) a2 ms
      have hs := setKC_sound (idx := idxM m ops p H) he hf
      rw [hsv, setE2_mapL] at hs
      exact RJ.step ho hg hcc hs hok k
    ·cases h
  ·cases h
def loadSC (P : Program) (o : Oper) (ρ : Env) (H : Heap) : Option (Nat × Nat × Nat × List SV) :=
 match o.op with
 | .load t x => match valE ρ x with
  | some (.ptr i off) => match H[i]? with
   | some (.vec _ _ _ cs) => match P.underlying t with
    | some (.struct _) => some (i, off, P.cellsOf t, cs)
    | _ => none
   | _ => none
  | _ => none
 | _ => none
theorem loadSC_sound {o : Oper} {ρ : Env} {idx : Nat} {i off n : Nat} {cs : List SV} (h : loadSC P o ρ H = some (i, off, n, cs)) (hl : n ≤ (cs.drop off).length) :
  opEval P o ρ H idx = some ⟨.agg ((cs.drop off).take n), [i], []⟩ := by
 unfold loadSC at h
 split at h
 ·rename_i t x ho
  split at h
  ·rename_i i' off' h1
   split at h
   ·rename_i n' k' e' cs' h2
    split at h
    ·rename_i fs hu
     cases h
     unfold opEval pureEval heapEval
     simp only [ho, h1, h2, Option.bind_some, entCells]
     unfold cellsVal
     rw [hu]
     simp only [if_pos hl]
     rfl
    ·cases h
   ·cases h
  ·cases h
 ·cases h
def loadSAt (P : Program) (m : Option Nat) (ops : Array Oper) (p : Nat) (tr : List (List Nat × List Nat)) (L : LE) (H : Heap) : Option (Option Nat × Nat × Nat × Nat × List SV × List (List Nat × List Nat)) :=
 match ops.toList[p]? with
 | none => none
 | some o => match guardS ops (envOf L) o with
  | some true => bif isCall o then none else match loadSC P o (envOf L) H with
   | some (i, off, n, cs) => bif okM m ops p o ⟨.undef, [i], []⟩ tr H then some (o.dst, i, off, n, cs, trM m ops p o ⟨.undef, [i], []⟩ tr) else none
   | none => none
  | _ => none
theorem RJ.loadS {T : Type} [Inhabited T] {enc : T → List SV} {k : Nat} {xs : List T} {j : Int} {d : Option Nat} {i : Nat} {tr2 : List (List Nat × List Nat)} (h : loadSAt P m ops p tr L H = some (d, i, j.toNat * k, k, xs.flatMap enc, tr2))
  (hk : ∀ x, (enc x).length = k) (hj : inR j xs.length = true) (kk : RJ F P m ops (p + 1) tr2 (putL L d (.agg (enc (nth xs j)))) H Q) : RJ F P m ops p tr L H Q := by
 unfold loadSAt at h
 split at h
 ·cases h
 ·rename_i o ho
  split at h
  ·rename_i hg
   cases hcc : isCall o with
   | true => rw [hcc] at h; cases h
   | false =>
    rw [hcc] at h
    simp only [cond_false] at h
    split at h
    ·rename_i i2 off2 n2 cs2 he
     cases hok : okM m ops p o ⟨.undef, [i2], []⟩ tr H with
     | false => rw [hok] at h; cases h
     | true =>
      rw [hok] at h
      simp only [cond_true, Option.some.injEq, Prod.mk.injEq] at h
      obtain ⟨rfl, rfl, rfl, rfl, rfl, rfl⟩ := h
      have hf := flat_at hk hj
      have hl : n2 ≤ ((xs.flatMap enc).drop (j.toNat * n2)).length := by
       have := congrArg List.length hf
       rw [List.length_take, hk] at this
       omega
      have hs := loadSC_sound (idx := idxM m ops p H) he hl
      rw [hf] at hs
      exact RJ.step ho hg hcc hs hok kk
    ·cases h
  ·cases h
end
end Go.Sy
