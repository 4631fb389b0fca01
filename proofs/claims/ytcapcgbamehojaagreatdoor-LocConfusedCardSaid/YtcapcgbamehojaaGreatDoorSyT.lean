/-
 The second shadow machine, part 20: the rules again, for code that is named by its place.
-/
import Derived.Test.YtcapcgbamehojaaGreatDoorSyQ
namespace Go.Sy
open Go Go.RowKit
set_option linter.unusedSimpArgs false
set_option linter.unusedVariables false
set_option linter.unusedSectionVars false
variable [Inhabited GT]
def bodyC (fn : Func) : Code := fn.body.getD .skip
def cl : Code → Code | .seq a _ => a | _ => .skip
def cr : Code → Code | .seq _ b => b | _ => .skip
def ct : Code → Code | .cond _ a _ => a | _ => .skip
def ce : Code → Code | .cond _ _ b => b | _ => .skip
def cb : Code → Code | .block _ a => a | _ => .skip
def cp : Code → Code | .loop a => a | _ => .skip
def rops : Code → Array Oper | .region _ ops _ => ops | _ => #[]
def isSeq : Code → Bool | .seq _ _ => true | _ => false
def isReg (d : Bool) : Code → Bool | .region _ _ b => b == d | _ => false
def isBlock (i : Nat) : Code → Bool | .block j _ => Nat.beq j i | _ => false
def isExit (i : Nat) : Code → Bool | .exit j => Nat.beq j i | _ => false
def isLoop : Code → Bool | .loop _ => true | _ => false
def isRet : Code → Bool | .ret => true | _ => false
def isSkip : Code → Bool | .skip => true | _ => false
def condV (c : Code) (L : LE) : Option SV := match c with
 | .cond x _ _ => valE (envOf L) x
 | _ => none
section
variable {F : Fr} {P : Program} {c : Code} {L : LE} {H : Heap} {Q : Post}
theorem seq_of (h : isSeq c = true) : c = .seq (cl c) (cr c) := by cases c <;> first | rfl | cases h
theorem K.seq (h : isSeq c = true) (k : J F P (cl c) L H (thenJ F P (cr c) Q)) : J F P c L H Q := by
 rw [seq_of h]; exact J.seq k
theorem K.cutN {S : Type} (h : isSeq c = true) (R : S → LE × Heap) (st : S) (h1 : J F P (cl c) L H (cutN F R st)) (h2 : J F P (cr c) (R st).1 (R st).2 Q) : J F P c L H Q := by
 rw [seq_of h]; exact J.cutN R st h1 h2
theorem K.cutX {S X : Type} (h : isSeq c = true) (R : S → LE × Heap) (x : S ⊕ X) (h1 : J F P (cl c) L H (cutX F R Q x)) (h2 : ∀ st, x = .inl st → J F P (cr c) (R st).1 (R st).2 Q) : J F P c L H Q := by
 rw [seq_of h]; exact J.cutX R x h1 h2
theorem K.region (h : isReg false c = true) (k : RJ F P none (rops c) 0 [] L H Q) : J F P c L H Q := by
 cases c <;> first | cases h | skip
 rename_i i ops d
 cases d with
 | false => exact J.region k
 | true => cases h
theorem K.draw (h : isReg true c = true) (hm : P.follows .mixedOrders = true) (hB : Region.lexB .any (rops c) = true) {H2 : Heap} (hH : H ++ List.replicate (nCreates (rops c)) .res = H2) {n : Nat} (hn : H.length = n) (k : RJ F P (some n) (rops c) 0 [] L H2 Q) : J F P c L H Q := by
 subst hH; subst hn
 cases c <;> first | cases h | skip
 rename_i i ops d
 cases d with
 | true => exact J.draw hm hB k
 | false => cases h
theorem K.condT (h : condV c L = some (.bool true)) (k : J F P (ct c) L H Q) : J F P c L H Q := by
 cases c <;> first | cases h | skip
 exact J.cond (b := true) h k
theorem K.condF (h : condV c L = some (.bool false)) (k : J F P (ce c) L H Q) : J F P c L H Q := by
 cases c <;> first | cases h | skip
 exact J.cond (b := false) h k
theorem K.block (i : Nat) (h : isBlock i c = true) (k : J F P (cb c) L H (Exit.inBlock i Q)) : J F P c L H Q := by
 cases c <;> first | cases h | skip
 rename_i j a
 have := Nat.eq_of_beq_eq_true h
 subst this
 exact J.block k
theorem K.skip (h : isSkip c = true) (k : PJ F Q .normal L H) : J F P c L H Q := by
 cases c <;> first | cases h | skip
 exact J.skip k
theorem K.ret (h : isRet c = true) (k : PJ F Q .ret L H) : J F P c L H Q := by
 cases c <;> first | cases h | skip
 exact J.ret k
theorem K.exit (i : Nat) (h : isExit i c = true) (k : PJ F Q (.exit i) L H) : J F P c L H Q := by
 cases c <;> first | cases h | skip
 rename_i j
 have := Nat.eq_of_beq_eq_true h
 subst this
 exact J.exit k
theorem K.loop {S O : Type} {step : S → Option (S ⊕ O)} {n : Nat} {s0 : S} {o : O} (h : isLoop c = true) (R : S → LE × Heap) (ho : loopN step n s0 = some o) (ts : List Nat) (hL : keepL ts L = (R s0).1) (hH : H = (R s0).2)
  (body : ∀ s x, step s = some x → J F P (cp c) (R s).1 (R s).2 (loopQ F R Q o x)) : J F P c L H Q := by
 cases c <;> first | cases h | skip
 exact J.loopR R ho ts hL hH body
theorem RJ.end {m : Option Nat} {ops : Array Oper} {p : Nat} {tr : List (List Nat × List Nat)} (hp : Nat.ble ops.size p = true) (h : PJ F Q .normal L H) : RJ F P m ops p tr L H Q := RJ.done (Nat.le_of_ble_eq_true hp) h
end
theorem K.fn {P : Program} {f : FuncId} {fn : Func} (hf : P.funcs[f]? = some fn) (hb : fn.body.isSome = true) (hcal : callable P f = true) (hin : codeIn fn.ntmps (bodyC fn) = true)
  {args : List SV} {H : Heap} {v : SV} {H' : Heap} (hn : Nat.ble args.length fn.ntmps = true)
  (h : ∀ F : Fr, F.n = fn.ntmps → F.H0 = H → (∀ i, F.H0.length ≤ i → F.D0 i = none) → J F P (bodyC fn) (initL 0 args) H (retQ P fn F v H')) : SC P f args H v H' := by
 unfold bodyC at *
 cases hbb : fn.body with
 | none => rw [hbb] at hb; cases hb
 | some c => rw [hbb] at hin h; exact SC_of_J hf hbb hcal hin (Nat.le_of_ble_eq_true hn) h
theorem K.ret0 {F : Fr} {P : Program} {fn : Func} {e : Exit} {L : LE} {H : Heap} {v : SV} (he : e = .normal ∨ e = .ret) (hn : F.n = fn.ntmps) (hH : F.H0 = []) (hdom : ∀ i, F.H0.length ≤ i → F.D0 i = none) (hin : resIn fn.ntmps fn.results.toList = true) (hret : retE P fn.results.toList L H = some v) (hr : SV.refs 0 v = true) :
  PJ F (retQ P fn F v []) e L H :=
 PJ.end (f := fun j => j) he (by rw [hn]; exact hin) hret (by rw [hH]; exact Back.drop (H' := []) (ex := H) (Nat.le_refl _) hr rfl) hdom
theorem K.retV {F : Fr} {P : Program} {fn : Func} {e : Exit} {L : LE} {H H0 H' : Heap} {v v1 : SV} (σ : List Nat) (he : e = .normal ∨ e = .ret) (hn : F.n = fn.ntmps) (hH : F.H0 = H0) (hdom : ∀ i, F.H0.length ≤ i → F.D0 i = none) (hin : resIn fn.ntmps fn.results.toList = true) (hret : retE P fn.results.toList L H = some v1)
  (hl : σ.length = H'.length) (hg : σ.map (fun i => H[i]?) = H'.map (fun en => some (Ent.rn (selF σ) en))) (hnd : σ.Nodup) (hr : H'.all (Ent.refs H'.length) = true) (hk : σ.take H0.length = List.range H0.length) (hle : Nat.ble H0.length H'.length = true) (hv : v1 = SV.rn (selF σ) v) (hvr : SV.refs H'.length v = true) :
  PJ F (retQ P fn F v H') e L H := by
 refine PJ.end (f := selF σ) he (by rw [hn]; exact hin) hret ⟨Sel.of σ hl hg hnd hr, fun j hj => ?_, by rw [hH]; exact Nat.le_of_ble_eq_true hle, hv, hvr⟩ hdom
 rw [hH] at hj
 have := congrArg (fun l => l[j]?) hk
 simp only [List.getElem?_take, if_pos hj, List.getElem?_range hj] at this
 unfold selF
 rw [List.getD_eq_getElem?_getD, this]; rfl
theorem Good.le {w : World} {K : Nat → Nat} {D : DM} {H H' : Heap} {r : Value} {w' : World} {s s' : SV} (h : Good w K D H r w' s H') (hl : Le s s') : Good w K D H r w' s' H' := by
 obtain ⟨K', D', g, hi, hr⟩ := h
 exact ⟨K', D', g, hi, hl _ _ _ _ hr⟩
theorem PJ.res {F : Fr} {P : Program} {fn : Func} {e : Exit} {L : LE} {H : Heap} {v v1 : SV} {H' : Heap} (hl : Le v1 v) (h : PJ F (retQ P fn F v1 H') e L H) : PJ F (retQ P fn F v H') e L H := fun a w hs => by
 obtain ⟨h1, h2, r, h3, h4⟩ := h a w hs
 exact ⟨h1, h2, r, h3, h4.le hl⟩
theorem joinX_inr {S X : Type} {k : S → Option X} {x : X} {r : Option X} (h : joinX k (.inr x) = r) : some x = r := h
theorem joinX_inl {S X : Type} {k : S → Option X} {s : S} {r : Option X} (h : joinX k (.inl s) = r) : k s = r := h
def big : Nat := 18446744073709551616
theorem wf_u8 {x : Int} (h : (Lit.int .u8 x).wf = true) : 0 ≤ x ∧ x < 256 := by
 simp [Lit.wf, IntKind.min, IntKind.max, IntKind.signed, IntKind.bits] at h
 omega
end Go.Sy
