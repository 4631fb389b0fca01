/-
 The second shadow machine, part 22: is a list nothing? Nobody can tell of an empty one.
-/
import Derived.Test.YtdflcknbelpflaaSyT
import Derived.Test.YtdflcknbelpflaaSyU
import Derived.Laws.Cover3
namespace Go.Sy
open Go Go.RowKit
set_option linter.unusedVariables false
set_option linter.unusedSimpArgs false
set_option linter.unusedSectionVars false
variable [Inhabited GT]
/-! A map is asked for a key that isn't known. -/
def sameB (k key : SV) (b : Bool) : Bool := match sameE k key with
 | some x => x == b
 | none => false
def hitC (k : SV) : List (SV × SV) → Nat → Bool
 | [], _ => false
 | e :: _, 0 => sameB k e.1 true
 | e :: r, j + 1 => sameB k e.1 false && hitC k r j
def missC (k : SV) : List (SV × SV) → Bool
 | [] => true
 | e :: r => sameB k e.1 false && missC k r
theorem sameB_spec {k key : SV} {b : Bool} (h : sameB k key b = true) : sameE k key = some b := by
 unfold sameB at h
 split at h
 ·rename_i x hx; simp at h; subst h; exact hx
 ·cases h
theorem hit_spec {k : SV} : ∀ (es : List (SV × SV)) (j : Nat) {e : SV × SV}, es[j]? = some e → hitC k es j = true → findE es k = some (some e.2)
 | [], j, e, h, _ => by simp at h
 | x :: es, 0, e, h, hc => by
  simp only [List.getElem?_cons_zero, Option.some.injEq] at h
  subst h
  simp only [hitC] at hc
  simp only [findE, sameB_spec hc]
 | x :: es, j + 1, e, h, hc => by
  simp only [hitC, Bool.and_eq_true] at hc
  simp only [findE, sameB_spec hc.1]
  exact hit_spec es j (by simpa using h) hc.2
theorem miss_spec {k : SV} : ∀ (es : List (SV × SV)), missC k es = true → findE es k = some none
 | [], _ => rfl
 | x :: es, hc => by
  simp only [missC, Bool.and_eq_true] at hc
  simp only [findE, sameB_spec hc.1]
  exact miss_spec es hc.2
def lookC (P : Program) (o : Oper) (ρ : Env) (H : Heap) (j : Option Nat) : Option (Eff × Bool) :=
 match o.op with
 | .lookup t m k ok => match P.underlying t, valE ρ m, valE ρ k with
  | some (.map kt et), some (.mp i), some sk => match H[i]? with
   | some (.map es) => if keyOk0 P kt sk = true then (match j with
    | some j => match es[j]? with
     | some e => some (⟨answerE ok e.2 true, [i], []⟩, hitC sk es j)
     | none => none
    | none => match zeroE P et with
     | some z => some (⟨answerE ok z false, [i], []⟩, missC sk es)
     | none => none) else none
   | _ => none
  | _, _, _ => none
 | _ => none
theorem keyOk0_find {P : Program} {kt : TypeId} {es : List (SV × SV)} {k : SV} (h : keyOk0 P kt k = true) : keyOk P kt k = true ∧ findK P kt es k = findE es k := by
 cases k <;> first | exact ⟨h, rfl⟩ | (exfalso; unfold keyOk0 at h; split at h <;> simp_all)
theorem lookC_sound {P : Program} {o : Oper} {ρ : Env} {H : Heap} {idx : Nat} {j : Option Nat} {ef : Eff} {b : Bool} (h : lookC P o ρ H j = some (ef, b)) (hb : b = true) : opEval P o ρ H idx = some ef := by
 unfold lookC at h
 split at h
 ·rename_i t m k ok ho
  split at h
  ·rename_i kt et i sk hu hm hk
   split at h
   ·rename_i es hH
    split at h
    ·rename_i hkey
     have fin : lookupE P t (valE ρ m) (valE ρ k) ok H = some ef → opEval P o ρ H idx = some ef := by
      intro hl
      unfold opEval pureEval heapEval
      simp only [ho]
      exact hl
     refine fin ?_
     unfold lookupE
     rw [hu, hm, hk]
     simp only [hH]
     obtain ⟨hk1, hk2⟩ := keyOk0_find (es := es) hkey
     rw [if_pos hk1, hk2]
     split at h
     ·rename_i j
      split at h
      ·rename_i e he
       cases h
       rw [hit_spec es j he hb]
      ·cases h
     ·split at h
      ·rename_i z hz
       cases h
       rw [miss_spec es hb, hz]
      ·cases h
    ·cases h
   ·cases h
  ·cases h
 ·cases h
section
variable {F : Fr} {P : Program} {L : LE} {H : Heap} {Q : Post} {m : Option Nat} {ops : Array Oper} {p : Nat} {tr : List (List Nat × List Nat)}
def lookAt (P : Program) (m : Option Nat) (ops : Array Oper) (p : Nat) (tr : List (List Nat × List Nat)) (L : LE) (H : Heap) (j : Option Nat) : Option (Option Nat × Eff × Bool × List (List Nat × List Nat)) :=
 match ops.toList[p]? with
 | none => none
 | some o => match guardS ops (envOf L) o with
  | some true => bif isCall o then none else match lookC P o (envOf L) H j with
   | some (ef, c) => bif okM m ops p o ef tr H then some (o.dst, ef, c, trM m ops p o ef tr) else none
   | none => none
  | _ => none
theorem RJ.look (j : Option Nat) {d : Option Nat} {ef : Eff} {c : Bool} {tr2 : List (List Nat × List Nat)} (h : lookAt P m ops p tr L H j = some (d, ef, c, tr2)) (hc : c = true) (k : RJ F P m ops (p + 1) tr2 (putL L d ef.v) (applyW H ef.wr) Q) : RJ F P m ops p tr L H Q := by
 unfold lookAt at h
 split at h
 ·cases h
 ·rename_i o ho
  split at h
  ·rename_i hg
   cases hcc : isCall o with
   | true => rw [hcc] at h; cases h
   | false =>
    rw [hcc] at h
    simp only [cond_false] at h
    split at h
    ·rename_i ef2 c2 he
     cases hok : okM m ops p o ef2 tr H with
     | false => rw [hok] at h; cases h
     | true =>
      rw [hok] at h
      simp only [cond_true, Option.some.injEq, Prod.mk.injEq] at h
      obtain ⟨rfl, rfl, rfl, rfl⟩ := h
      exact RJ.step ho hg hcc (lookC_sound he hc) hok k
    ·cases h
  ·cases h
end
section
variable {F : Fr} {P : Program} {L : LE} {H : Heap} {Q : Post} {ops : Array Oper} {p : Nat} {tr : List (List Nat × List Nat)}
end
section
variable {F : Fr} {P : Program} {m : Option Nat} {L : LE} {H : Heap} {Q : Post} {ops : Array Oper} {p : Nat} {tr : List (List Nat × List Nat)}
end
/-! Maps whose entries are a list of natives. -/
def mapL {K V : Type} (ek : K → SV) (ev : V → SV) (ms : List (K × V)) : List (SV × SV) := ms.map fun p => (ek p.1, ev p.2)
theorem rn_mapL {K V : Type} {ek : K → SV} {ev : V → SV} (h1 : ∀ f a, SV.rn f (ek a) = ek a) (h2 : ∀ f b, SV.rn f (ev b) = ev b) (f : Nat → Nat) (ms : List (K × V)) : Ent.rn f (.map (mapL ek ev ms)) = .map (mapL ek ev ms) := by
 simp only [Ent.rn, mapL, List.map_map]
 congr 1
 exact List.map_congr_left fun p _ => by simp [h1, h2]
theorem refs_mapL {K V : Type} {ek : K → SV} {ev : V → SV} (h1 : ∀ m a, SV.refs m (ek a) = true) (h2 : ∀ m b, SV.refs m (ev b) = true) (m : Nat) (ms : List (K × V)) : Ent.refs m (.map (mapL ek ev ms)) = true := by
 simp [Ent.refs, mapL, h1, h2]
section
variable {F : Fr} {P : Program} {m : Option Nat} {L : LE} {H : Heap} {Q : Post} {ops : Array Oper} {p : Nat} {tr : List (List Nat × List Nat)}
end
section
variable {F : Fr} {P : Program} {c : Code} {L : LE} {H : Heap} {Q : Post} {m : Option Nat} {ops : Array Oper} {p : Nat} {tr : List (List Nat × List Nat)}
/-! The rules under short names; the kernel checks their conditions. -/
theorem kE (h : PJ F Q .normal L H) (hp : Nat.ble ops.size p = true := by kernel_rfl) : RJ F P m ops p tr L H Q := RJ.end hp h
theorem kEN {c : Code} {Q : Post} (h : J F P c L H Q) (hp : Nat.ble ops.size p = true := by kernel_rfl) : RJ F P m ops p tr L H (thenJ F P c Q) := RJ.end hp (PJ.next h)
theorem kS (k : J F P (cl c) L H (thenJ F P (cr c) Q)) (h : isSeq c = true := by kernel_rfl) : J F P c L H Q := K.seq h k
theorem kR (k : RJ F P none (rops c) 0 [] L H Q) (h : isReg false c = true := by kernel_rfl) : J F P c L H Q := K.region h k
theorem kSR (k : RJ F P none (rops (cl c)) 0 [] L H (thenJ F P (cr c) Q)) (h : isSeq c = true := by kernel_rfl) (h2 : isReg false (cl c) = true := by kernel_rfl) : J F P c L H Q := K.seq h (K.region h2 k)
theorem kT (k : J F P (ct c) L H Q) (h : condV c L = some (.bool true) := by kernel_rfl) : J F P c L H Q := K.condT h k
theorem kF (k : J F P (ce c) L H Q) (h : condV c L = some (.bool false) := by kernel_rfl) : J F P c L H Q := K.condF h k
theorem kX (k : PJ F Q .ret L H) (h : isRet c = true := by kernel_rfl) : J F P c L H Q := K.ret h k
theorem kK (k : PJ F Q .normal L H) (h : isSkip c = true := by kernel_rfl) : J F P c L H Q := K.skip h k
theorem kC (q : Nat) (ts : List Nat) (k : RJ F P none ops (p + q) [] (keepL ts (lOf (runM P none ops q p [] L H))) (hOf (runM P none ops q p [] L H)) Q) (h : (runM P none ops q p [] L H).isSome = true := by kernel_rfl) : RJ F P none ops p [] L H Q := RJ.segC q ts h k
theorem kD {base : Nat} (q : Nat) (k : RJ F P (some base) ops (p + q) (tOf (runM P (some base) ops q p tr L H)) (lOf (runM P (some base) ops q p tr L H)) (hOf (runM P (some base) ops q p tr L H)) Q) (h : (runM P (some base) ops q p tr L H).isSome = true := by kernel_rfl) : RJ F P (some base) ops p tr L H Q := RJ.segDC q h k
theorem kZ {fn : Func} {v : SV} (hn : F.n = fn.ntmps) (hH : F.H0 = []) (hdom : ∀ i, F.H0.length ≤ i → F.D0 i = none) (hin : resIn fn.ntmps fn.results.toList = true := by kernel_rfl) (hret : retE P fn.results.toList L H = some v := by kernel_rfl) (hr : SV.refs 0 v = true := by kernel_rfl) :
  PJ F (retQ P fn F v []) .ret L H := K.ret0 (.inr rfl) hn hH hdom hin hret hr
theorem kN {S : Type} {R : S → LE × Heap} {st : S} (ts : List Nat) (hL : keepL ts L = (R st).1 := by kernel_rfl) (hH : H = (R st).2 := by kernel_rfl) : PJ F (cutN F R st) .normal L H := PJ.cutN ts hL hH
theorem kFn {f : FuncId} {fn : Func} {args : List SV} {v : SV} {H' : Heap}
  (h : ∀ F : Fr, F.n = fn.ntmps → F.H0 = H → (∀ i, F.H0.length ≤ i → F.D0 i = none) → J F P (bodyC fn) (initL 0 args) H (retQ P fn F v H')) (hf : P.funcs[f]? = some fn := by kernel_rfl) (hb : fn.body.isSome = true := by kernel_rfl) (hcal : callable P f = true := by kernel_rfl) (hin : codeIn fn.ntmps (bodyC fn) = true := by kernel_rfl) (hn : Nat.ble args.length fn.ntmps = true := by kernel_rfl) : SC P f args H v H' := K.fn hf hb hcal hin hn h
theorem oi {α : Type} {a b : α} (h : some a = some b) : a = b := Option.some.inj h
end
end Go.Sy
