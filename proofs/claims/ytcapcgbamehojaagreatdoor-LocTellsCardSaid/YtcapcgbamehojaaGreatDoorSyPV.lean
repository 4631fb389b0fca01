/-
 Regions in any order around one call: what runs ahead of it, or beside it, changes nothing, and all else waits for it.
-/
import Derived.Test.YtcapcgbamehojaaGreatDoorSyPA
namespace Go.Sy
open Go Go.RowKit
set_option linter.unusedVariables false
set_option linter.unusedSimpArgs false
set_option linter.unusedSectionVars false
variable [Inhabited GT]
def y0r(V:List (Nat×Nat×SV))(d:Nat)(o:Oper):Operand→Bool
 | .tmp t=> !Nat.beq t d&&V.all fun x=> !Nat.beq x.2.1 t||o.after.toList.any fun e=>Region.binds .any e&&Nat.beq e.on x.1
 |_=>true
def x0I:List Nat→Bool
 | []=>true
 |x::r=>r.all (fun y=> !Nat.beq x y)&&x0I r
section
variable {P : Program} {ops : Array Oper} {V : List (Nat × Nat × SV)} {W : List Nat} {p d : Nat} {L : LE}
theorem neB {i j:Nat} (h:(!Nat.beq i j)=true):i≠j:=fun e=>by subst e;simp at h
structure B0u (ops:Array Oper) (V:List (Nat×Nat×SV)) (W:List Nat) (p d:Nat):Prop where
 back: ∀i o,ops[i]?=some o→ ∀e∈o.after,Region.binds .any e=true→e.on<i
 all: ∀i o,ops[i]?=some o→i=p∨(i∈W∧ ∃e∈o.after,Region.binds .any e=true∧(e.on=p∨e.on∈W))∨ ∃x∈V,x.1=i
 quiet: ∀x∈V,x.1≠p∧x.1∉W∧x.2.1≠d∧ ∃o,ops[x.1]?=some o∧o.dst=some x.2.1∧o.guard=none∧d0F o=false∧c0B o=false∧ ∀a∈o.op.operands,y0r V d o a=true
 only:x0I (V.map fun x=>x.2.1)=true
 notW:p∉W
 piv: ∃o,ops[p]?=some o∧o.dst=some d∧o.guard=none∧ ∀a∈o.op.operands,y0r V d o a=true
structure PivI (ops:Array Oper) (V:List (Nat×Nat×SV)) (L:LE) (listed:Array Bool) (ρ:Env):Prop where
 size:listed.size=ops.size
 sub: ∀i,i<ops.size→listed.getD i false=true→ ∃x∈V,x.1=i
 has: ∀x∈V,listed.getD x.1 false=true→ρ x.2.1=x.2.2
 old: ∀t,(∀x∈V,x.2.1≠t)→ρ t=lk L t
theorem v0F: ∀ {V:List (Nat×Nat×SV)},x0I (V.map fun x=>x.2.1)=true→ ∀x∈V,∀y∈V,x.2.1=y.2.1→x=y
 | [],_,x,hx,_,_=>by cases hx
 |z::V,h,x,hx,y,hy=>by
  intro e
  simp only[ah,x0I,ac]at h
  have hne: ∀q∈V,z.2.1≠q.2.1:=fun q hq=>neB (List.all_eq_true.1 h.1 _ (aK.2 ⟨q,hq,rfl⟩))
  rcases aG.1 hx with hx1|hx1<;>rcases aG.1 hy with hy1|hy1
  ·rw[hx1,hy1]
  ·rw[hx1]at e;exact absurd e (hne y hy1)
  ·rw[hy1]at e;exact absurd e.symm (hne x hx1)
  ·exact v0F h.2 x hx1 y hy1 e
theorem PivI.step {listed:Array Bool} {ρ:Env} (hI:PivI ops V L listed ρ)(hk:B0u ops V W p d) {x:Nat×Nat×SV} (hx:x∈V)(hn:listed.getD x.1 true=false):PivI ops V L (listed.setIfInBounds x.1 true) (k0U ρ (some x.2.1) x.2.2):=by
 have hlt:x.1<listed.size:=by
  rcases bK x.1 listed.size with h|h
  ·exact h
  ·simp[Array.getD,Nat.not_lt.2 h]at hn
 refine⟨by simp[hI.size],fun i hi h=> ?_,fun y hy h=> ?_,fun t ht=> ?_⟩
 ·by_cases e:i=x.1
  ·exact⟨x,hx,e.symm⟩
  ·rw[getD_set_ne false (Ne.symm e)]at h;exact hI.sub i hi h
 ·simp only[k0U,upd]
  split
  ·rename_i e;rw[v0F hk.only y hy x hx e]
  ·rename_i e
   have hne:y.1≠x.1:=fun e1=>by
    obtain⟨_,_,_,o1,q1,q2,_⟩:=hk.quiet y hy
    obtain⟨_,_,_,o2,r1,r2,_⟩:=hk.quiet x hx
    rw[e1,r1]at q1;cases q1
    rw[r2]at q2;exact e (aZ q2).symm
   rw[getD_set_ne false (Ne.symm hne)]at h
   exact hI.has y hy h
 ·simp only[k0U,upd]
  rw[if_neg (fun e=>ht x hx e.symm)]
  exact hI.old t ht
variable {F : Fr} {Q : h0f} {H : a0o}
theorem St.drew {ρ:Env} {a:Act} {w:World} (h:St F ρ H a w):St F ρ H a w.drew:=by
 obtain⟨hd,K,D,hi⟩:=h
 exact⟨hd,K,D,⟨hi.slots.mono fun _ _=>World.drew_rep,hi.hinv.drew,hi.grow.trans (Grow.drew _ _ _ _)⟩⟩
theorem St.reserve {ρ:Env} {a:Act} {w:World} (h:St F ρ H a w)(m:Nat):St F ρ (H++List.replicate m .res) a w:=by
 obtain⟨hd,K,D,hi⟩:=h
 exact⟨hd,K,D,hi.reserve m⟩
end
section
variable {F : Fr} {P : Program} {c : Code} {L : LE} {H : a0o} {Q : h0f}
end
def B0M {A B:Type} (P:Program)(fn:Func)(F:Fr)(hv:A→SV)(hH:A→a0o)(hP:B→a0o)(r:A⊕B):h0f:=match r with
 | .inl a=>u0k P fn F (hv a) (hH a)
 | .inr b=>A0u F (hP b)
theorem w0c {P:Program} {f:FuncId} {fn:Func} {args:List SV} {H:a0o} {A B:Type} {r:A⊕B} (hv:A→SV)(hH:A→a0o)(hP:B→a0o)
  (h: ∀F:Fr,F.n=fn.ntmps→F.H0=H→(∀i,F.H0.length≤i→F.D0 i=none)→J F P (g0G fn) (i0j 0 args) H (B0M P fn F hv hH hP r))
  (hf:P.funcs[f]?=some fn:=by kernel_rfl) (hb:fn.body.isSome=true:=by kernel_rfl) (hcal:c0N P f=true:=by kernel_rfl) (hin:d0e fn.ntmps (g0G fn)=true:=by kernel_rfl) (hn:Nat.ble args.length fn.ntmps=true:=by kernel_rfl):
  (∀a,r= .inl a→SC P f args H (hv a) (hH a))∧(∀b,r= .inr b→SP P f args H (hP b)):=by
 refine⟨fun a e=> ?_,fun b e=> ?_⟩
 ·subst e;exact K.fn hf hb hcal hin hn h
 ·subst e;exact K.fnP hf hb hcal hin hn h
end Go.Sy
