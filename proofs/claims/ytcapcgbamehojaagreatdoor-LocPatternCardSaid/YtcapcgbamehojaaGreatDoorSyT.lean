/-
 The second shadow machine, part 20: the rules again, for code that is named by its place.
-/
import Derived.Test.YtcapcgbamehojaaGreatDoorSyQ
namespace Go.Sy
open Go Go.RowKit
set_option linter.unusedSimpArgs false
set_option linter.unusedVariables false
set_option linter.unusedSectionVars false
variable [Inhabited GT]
def g0f (fn : Func) : Code := fn.body.getD .skip
def cl : Code → Code | .seq a _ => a | _ => .skip
def cr : Code → Code | .seq _ b => b | _ => .skip
def ct : Code → Code | .cond _ a _ => a | _ => .skip
def ce : Code → Code | .cond _ _ b => b | _ => .skip
def cb : Code → Code | .block _ a => a | _ => .skip
def cp : Code → Code | .loop a => a | _ => .skip
def g0E : Code → Array Oper | .region _ ops _ => ops | _ => #[]
def m0h : Code → Bool | .seq _ _ => true | _ => false
def k0W (d : Bool) : Code → Bool | .region _ _ b => b == d | _ => false
def r0f (i : Nat) : Code → Bool | .block j _ => Nat.beq j i | _ => false
def u0S (i : Nat) : Code → Bool | .exit j => Nat.beq j i | _ => false
def u0R : Code → Bool | .loop _ => true | _ => false
def u0Q : Code → Bool | .ret => true | _ => false
def q0c : Code → Bool | .skip => true | _ => false
def t0m (c : Code) (L : LE) : Option SV := match c with
 | .cond x _ _ => a0T (b0m L) x
 | _ => none
section
variable {F : Fr} {P : Program} {c : Code} {L : LE} {H : a0l} {Q : g0C}
theorem r0O (h : m0h c = true) : c = .seq (cl c) (cr c) := by cases c <;> first | rfl | cases h
theorem K.seq (h : m0h c = true) (k : J F P (cl c) L H (k0h F P (cr c) Q)) : J F P c L H Q := by
 rw [r0O h]; exact J.seq k
theorem K.cutN {S : Type} (h : m0h c = true) (R : S → LE × a0l) (st : S) (h1 : J F P (cl c) L H (cutN F R st)) (h2 : J F P (cr c) (R st).1 (R st).2 Q) : J F P c L H Q := by
 rw [r0O h]; exact J.cutN R st h1 h2
theorem K.cutX {S X : Type} (h : m0h c = true) (R : S → LE × a0l) (x : S ⊕ X) (h1 : J F P (cl c) L H (cutX F R Q x)) (h2 : ∀ st, x = .inl st → J F P (cr c) (R st).1 (R st).2 Q) : J F P c L H Q := by
 rw [r0O h]; exact J.cutX R x h1 h2
theorem K.region (h : k0W false c = true) (k : RJ F P none (g0E c) 0 [] L H Q) : J F P c L H Q := by
 cases c <;> first | cases h | skip
 rename_i i ops d
 cases d with
 | false => exact J.region k
 | true => cases h
theorem K.draw (h : k0W true c = true) (hm : P.follows .mixedOrders = true) (hB : Region.lexB .any (g0E c) = true) {H2 : a0l} (hH : H ++ List.replicate (j0z (g0E c)) .res = H2) {n : Nat} (hn : H.length = n) (k : RJ F P (some n) (g0E c) 0 [] L H2 Q) : J F P c L H Q := by
 subst hH; subst hn
 cases c <;> first | cases h | skip
 rename_i i ops d
 cases d with
 | true => exact J.draw hm hB k
 | false => cases h
theorem K.condT (h : t0m c L = some (.bool true)) (k : J F P (ct c) L H Q) : J F P c L H Q := by
 cases c <;> first | cases h | skip
 exact J.cond (b := true) h k
theorem K.condF (h : t0m c L = some (.bool false)) (k : J F P (ce c) L H Q) : J F P c L H Q := by
 cases c <;> first | cases h | skip
 exact J.cond (b := false) h k
theorem K.block (i : Nat) (h : r0f i c = true) (k : J F P (cb c) L H (Exit.inBlock i Q)) : J F P c L H Q := by
 cases c <;> first | cases h | skip
 rename_i j a
 have := af h
 subst this
 exact J.block k
theorem K.skip (h : q0c c = true) (k : PJ F Q .normal L H) : J F P c L H Q := by
 cases c <;> first | cases h | skip
 exact J.skip k
theorem K.ret (h : u0Q c = true) (k : PJ F Q .ret L H) : J F P c L H Q := by
 cases c <;> first | cases h | skip
 exact J.ret k
theorem K.exit (i : Nat) (h : u0S i c = true) (k : PJ F Q (.exit i) L H) : J F P c L H Q := by
 cases c <;> first | cases h | skip
 rename_i j
 have := af h
 subst this
 exact J.exit k
theorem K.loop {S O : Type} {step : S → Option (S ⊕ O)} {n : Nat} {s0 : S} {o : O} (h : u0R c = true) (R : S → LE × a0l) (ho : a0q step n s0 = some o) (ts : List Nat) (hL : h0j ts L = (R s0).1) (hH : H = (R s0).2)
  (body : ∀ s x, step s = some x → J F P (cp c) (R s).1 (R s).2 (o0K F R Q o x)) : J F P c L H Q := by
 cases c <;> first | cases h | skip
 exact J.loopR R ho ts hL hH body
theorem RJ.end {m : Option Nat} {ops : Array Oper} {p : Nat} {tr : List (List Nat × List Nat)} (hp : Nat.ble ops.size p = true) (h : PJ F Q .normal L H) : RJ F P m ops p tr L H Q := RJ.done (ap hp) h
end
theorem K.fn {P : Program} {f : FuncId} {fn : Func} (hf : P.funcs[f]? = some fn) (hb : fn.body.isSome = true) (hcal : c0E P f = true) (hin : c0T fn.ntmps (g0f fn) = true)
  {args : List SV} {H : a0l} {v : SV} {H' : a0l} (hn : Nat.ble args.length fn.ntmps = true)
  (h : ∀ F : Fr, F.n = fn.ntmps → F.H0 = H → (∀ i, F.H0.length ≤ i → F.D0 i = none) → J F P (g0f fn) (h0A 0 args) H (s0N P fn F v H')) : SC P f args H v H' := by
 unfold g0f at *
 cases hbb : fn.body with
 | none => rw [hbb] at hb; cases hb
 | some c => rw [hbb] at hin h; exact y0y hf hbb hcal hin (ap hn) h
theorem K.ret0 {F : Fr} {P : Program} {fn : Func} {e : Exit} {L : LE} {H : a0l} {v : SV} (he : e = .normal ∨ e = .ret) (hn : F.n = fn.ntmps) (hH : F.H0 = []) (hdom : ∀ i, F.H0.length ≤ i → F.D0 i = none) (hin : n0D fn.ntmps fn.results.toList = true) (hret : v0J P fn.results.toList L H = some v) (hr : SV.refs 0 v = true) :
  PJ F (s0N P fn F v []) e L H :=
 PJ.end (f := fun j => j) he (by rw [hn]; exact hin) hret (by rw [hH]; exact Back.drop (H' := []) (ex := H) (ak _) hr rfl) hdom
theorem K.retV {F : Fr} {P : Program} {fn : Func} {e : Exit} {L : LE} {H H0 H' : a0l} {v v1 : SV} (σ : List Nat) (he : e = .normal ∨ e = .ret) (hn : F.n = fn.ntmps) (hH : F.H0 = H0) (hdom : ∀ i, F.H0.length ≤ i → F.D0 i = none) (hin : n0D fn.ntmps fn.results.toList = true) (hret : v0J P fn.results.toList L H = some v1)
  (hl : σ.length = H'.length) (hg : σ.map (fun i => H[i]?) = H'.map (fun en => some (Ent.rn (b0J σ) en))) (hnd : σ.Nodup) (hr : H'.all (Ent.refs H'.length) = true) (hk : σ.take H0.length = List.range H0.length) (hle : Nat.ble H0.length H'.length = true) (hv : v1 = SV.rn (b0J σ) v) (hvr : SV.refs H'.length v = true) :
  PJ F (s0N P fn F v H') e L H := by
 refine PJ.end (f := b0J σ) he (by rw [hn]; exact hin) hret ⟨Sel.of σ hl hg hnd hr, fun j hj => ?_, by rw [hH]; exact ap hle, hv, hvr⟩ hdom
 rw [hH] at hj
 have := congrArg (fun l => l[j]?) hk
 simp only [ba, if_pos hj, bC hj] at this
 unfold b0J
 rw [av, this]; rfl
theorem Good.le {w : World} {K : Nat → Nat} {D : DM} {H H' : a0l} {r : Value} {w' : World} {s s' : SV} (h : Good w K D H r w' s H') (hl : Le s s') : Good w K D H r w' s' H' := by
 obtain ⟨K', D', g, hi, hr⟩ := h
 exact ⟨K', D', g, hi, hl _ _ _ _ hr⟩
theorem PJ.res {F : Fr} {P : Program} {fn : Func} {e : Exit} {L : LE} {H : a0l} {v v1 : SV} {H' : a0l} (hl : Le v1 v) (h : PJ F (s0N P fn F v1 H') e L H) : PJ F (s0N P fn F v H') e L H := fun a w hs => by
 obtain ⟨h1, h2, r, h3, h4⟩ := h a w hs
 exact ⟨h1, h2, r, h3, h4.le hl⟩
theorem b0N {S X : Type} {k : S → Option X} {x : X} {r : Option X} (h : a0i k (.inr x) = r) : some x = r := h
theorem k0V {S X : Type} {k : S → Option X} {s : S} {r : Option X} (h : a0i k (.inl s) = r) : k s = r := h
def big : Nat := 18446744073709551616
theorem n0S {x : Int} (h : (Lit.int .i32 x).wf = true) : -2147483648 ≤ x ∧ x < 2147483648 := by
 simp [Lit.wf, IntKind.min, IntKind.max, IntKind.signed, IntKind.bits] at h
 omega
end Go.Sy
