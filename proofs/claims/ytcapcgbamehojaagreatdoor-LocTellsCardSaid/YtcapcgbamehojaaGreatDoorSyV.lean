/-
 The second shadow machine, part 22: is a list nothing? Nobody can tell of an empty one.
-/
import Derived.Test.YtcapcgbamehojaaGreatDoorSyT
import Derived.Test.YtcapcgbamehojaaGreatDoorSyU
import Derived.Laws.Cover3
namespace Go.Sy
open Go Go.RowKit
set_option linter.unusedVariables false
set_option linter.unusedSimpArgs false
set_option linter.unusedSectionVars false
variable [Inhabited GT]
def n0g {α:Type} [DecidableEq α](x y:Option α):Option α:=if x=y then y else none
theorem y0M {α:Type} [DecidableEq α] {e:Bool} {x y:Option α} {r:α} (he:e=true)(h:(bif e then n0g x y else y)=some r):x=some r:=by
 subst he
 simp only[cond_true,n0g]at h
 split at h
 ·rename_i hxy;rw[hxy];exact h
 ·cases h
theorem y0N {α:Type} [DecidableEq α] {e:Bool} {x y:Option α} {r:α} (h:(bif e then n0g x y else y)=some r):y=some r:=by
 cases e with
 |false=>exact h
 |true=>
  simp only[cond_true,n0g]at h
  split at h
  ·exact h
  ·cases h
/-! A map is asked for a key that isn't known. -/
def l0e(k key:SV)(b:Bool):Bool:=match e0F k key with
 |some x=>x==b
 |none=>false
def o0m(k:SV):List (SV×SV)→Nat→Bool
 | [],_=>false
 |e::_,0=>l0e k e.1 true
 |e::r,j+1=>l0e k e.1 false&&o0m k r j
def k0I(k:SV):List (SV×SV)→Bool
 | []=>true
 |e::r=>l0e k e.1 false&&k0I k r
theorem m0m {k key:SV} {b:Bool} (h:l0e k key b=true):e0F k key=some b:=by
 unfold l0e at h
 split at h
 ·rename_i x hx;simp at h;subst h;exact hx
 ·cases h
theorem t0y {k:SV} : ∀(es:List (SV×SV)) (j:Nat) {e:SV×SV},es[j]?=some e→o0m k es j=true→e0K es k=some (some e.2)
 | [],j,e,h,_=>by simp at h
 |x::es,0,e,h,hc=>by
  simp only[bW,ai]at h
  subst h
  simp only[o0m]at hc
  simp only[e0K,m0m hc]
 |x::es,j+1,e,h,hc=>by
  simp only[o0m,ac]at hc
  simp only[e0K,m0m hc.1]
  exact t0y es j (by simpa using h) hc.2
theorem q0X {k:SV} : ∀(es:List (SV×SV)),k0I k es=true→e0K es k=some none
 | [],_=>rfl
 |x::es,hc=>by
  simp only[k0I,ac]at hc
  simp only[e0K,m0m hc.1]
  exact q0X es hc.2
def z0w(P:Program)(o:Oper)(ρ:Env)(H:a0o)(j:Option Nat):Option (Eff×Bool):=
 match o.op with
 | .lookup t m k ok=>match P.underlying t,a0Y ρ m,a0Y ρ k with
  |some (.map kt et),some (.mp i),some sk=>match H[i]? with
   |some (.map es)=>if o0j P kt sk=true then(match j with
    |some j=>match es[j]? with
     |some e=>some (⟨i0U ok e.2 true,[i],[]⟩,o0m sk es j)
     |none=>none
    |none=>match t0T P et with
     |some z=>some (⟨i0U ok z false,[i],[]⟩,k0I sk es)
     |none=>none)else none
   |_=>none
  |_,_,_=>none
 |_=>none
theorem s0r {P:Program} {kt:TypeId} {es:List (SV×SV)} {k:SV} (h:o0j P kt k=true):o0k P kt k=true∧k0J P kt es k=e0K es k:=by
 cases k<;>first|exact⟨h,rfl⟩|(exfalso;unfold o0j at h;split at h<;>simp_all)
theorem s0o {P:Program} {o:Oper} {ρ:Env} {H:a0o} {idx:Nat} {j:Option Nat} {ef:Eff} {b:Bool} (h:z0w P o ρ H j=some (ef,b))(hb:b=true):a0Z P o ρ H idx=some ef:=by
 unfold z0w at h
 split at h
 ·rename_i t m k ok ho
  split at h
  ·rename_i kt et i sk hu hm hk
   split at h
   ·rename_i es hH
    split at h
    ·rename_i hkey
     have fin:h0K P t (a0Y ρ m) (a0Y ρ k) ok H=some ef→a0Z P o ρ H idx=some ef:=by
      intro hl
      unfold a0Z a0k a0w
      simp only[ho]
      exact hl
     refine fin ?_
     unfold h0K
     rw[hu,hm,hk]
     simp only[hH]
     obtain⟨hk1,hk2⟩:=s0r (es:=es) hkey
     rw[if_pos hk1,hk2]
     split at h
     ·rename_i j
      split at h
      ·rename_i e he
       cases h
       rw[t0y es j he hb]
      ·cases h
     ·split at h
      ·rename_i z hz
       cases h
       rw[q0X es hb,hz]
      ·cases h
    ·cases h
   ·cases h
  ·cases h
 ·cases h
section
variable {F : Fr} {P : Program} {L : LE} {H : a0o} {Q : h0f} {m : Option Nat} {ops : Array Oper} {p : Nat} {tr : List (List Nat × List Nat)}
def y0u(P:Program)(m:Option Nat)(ops:Array Oper)(p:Nat)(tr:List (List Nat×List Nat))(L:LE)(H:a0o)(j:Option Nat):Option (Option Nat×Eff×Bool×List (List Nat×List Nat)):=
 match ops.toList[p]? with
 |none=>none
 |some o=>match c0P ops (b0s L) o with
  |some true=>bif c0B o then none else match z0w P o (b0s L) H j with
   |some (ef,c)=>bif okM m ops p o ef tr H then some (o.dst,ef,c,trM m ops p o ef tr)else none
   |none=>none
  |_=>none
theorem RJ.look(j:Option Nat) {d:Option Nat} {ef:Eff} {c:Bool} {tr2:List (List Nat×List Nat)} (h:y0u P m ops p tr L H j=some (d,ef,c,tr2))(hc:c=true)(k:RJ F P m ops (p+1) tr2 (g0e L d ef.v) (b0M H ef.wr) Q):RJ F P m ops p tr L H Q:=by
 unfold y0u at h
 split at h
 ·cases h
 ·rename_i o ho
  split at h
  ·rename_i hg
   cases hcc:c0B o with
   |true=>rw[hcc]at h;cases h
   |false=>
    rw[hcc]at h
    simp only[cond_false]at h
    split at h
    ·rename_i ef2 c2 he
     cases hok:okM m ops p o ef2 tr H with
     |false=>rw[hok]at h;cases h
     |true=>
      rw[hok]at h
      simp only[cond_true,ai,aP]at h
      obtain⟨rfl,rfl,rfl,rfl⟩:=h
      exact RJ.step ho hg hcc (s0o he hc) hok k
    ·cases h
  ·cases h
end
section
variable {F : Fr} {P : Program} {L : LE} {H : a0o} {Q : h0f} {ops : Array Oper} {p : Nat} {tr : List (List Nat × List Nat)}
def k0y(P:Program)(t:TypeId):Bool:=match P.underlying t with
 |some (.slice _)=>true
 |_=>false
def y0w:Operand→Bool
 | .const (.slice none 0 0)=>true
 |_=>false
def A0z(P:Program)(ops:Array Oper)(p:Nat)(L:LE):Option (Nat×Nat×Bool):=
 match ops.toList[p]? with
 |none=>none
 |some o=>match c0P ops (b0s L) o,o.dst,o.op with
  |some true,some d, .binOp op t x y _=>match a0Y (b0s L) x with
   |some (.lst n _ _)=>bif k0y P t&&y0w y then(match op with
    | .eql=>some (d,n,true)
    | .neq=>some (d,n,false)
    |_=>none)else none
   |_=>none
  |_,_,_=>none
theorem v0m {w:World} {t:TypeId} {x y:Operand} {ad:Option Addr} {n c:Nat} (ht:k0y P t=true):(do eqGuard .eql t x y (.slice ad n c) (.slice none 0 0);binOp .eql t (.slice ad n c) (.slice none 0 0):Sem Value).run P w= .ok (.bool ad.isNone) w:=by
 unfold k0y at ht
 split at ht
 ·rename_i e hu
  rw[l0f _ _ (by rfl)]
  simp only[binOp,Sem.run_bind,run_equal_slice_nil w t e ad n c hu,Result.andThen_ok,Sem.run_pure]
 ·cases ht
theorem u0g {w:World} {t:TypeId} {x y:Operand} {ad:Option Addr} {n c:Nat} (ht:k0y P t=true):(do eqGuard .neq t x y (.slice ad n c) (.slice none 0 0);binOp .neq t (.slice ad n c) (.slice none 0 0):Sem Value).run P w= .ok (.bool !ad.isNone) w:=by
 unfold k0y at ht
 split at ht
 ·rename_i e hu
  rw[l0f _ _ (by rfl)]
  simp only[binOp,Sem.run_bind,run_equal_slice_nil w t e ad n c hu,Result.andThen_ok,Sem.run_pure]
 ·cases ht
theorem RJ.isNil {d n:Nat} {eq:Bool} (h:A0z P ops p L=some (d,n,eq))(k: ∀b:Bool,(b=true→n=0)→RJ F P none ops (p+1) tr ((d, .bool (bif eq then b else !b))::L) H Q):RJ F P none ops p tr L H Q:=by
 unfold A0z at h
 split at h
 ·cases h
 ·rename_i o ho
  split at h
  ·rename_i d2 op t x y u hg hd ho2
   split at h
   ·rename_i n2 k2 cs hx
    cases hty:(k0y P t&&y0w y)with
    |false=>rw[hty]at h;cases h
    |true=>
     rw[hty]at h
     simp only[ac]at hty
     obtain⟨ht,hy⟩:=hty
     intro hin a w hs
     have hbo:Oper.inB F.n ops o=true:=List.all_eq_true.1 hin o (l0O ho)
     obtain⟨hdf,K,D,hi⟩:=hs
     rw[d0N ho]
     refine wpList_step fun KK hKK=> ?_
     rw[c0h hi.slots (Oper.inB_guard hbo) hg,if_pos rfl]
     have hxb:Operand.inB F.n x=true:=by
      have h1:=Oper.inB_op hbo
      unfold Op.inB at h1
      rw[bp]at h1
      exact h1 x (by simp[ho2,Op.operands])
     have hr:=a0j hi.slots hxb hx
     have hyv:a.eval y= .slice none 0 0:=by
      cases y with
      |const v=>cases v<;>first|(cases hy;done)|(rename_i a1 b1 c1;cases a1<;>first|(cases hy;done)|(cases b1<;>first|(cases hy;done)|(cases c1<;>first|(cases hy;done)|rfl)))
      |_=>cases hy
     have hv: ∃ad c,a.eval x= .slice ad n2 c∧(ad.isNone=true→n2=0):=by
      generalize a.eval x=v at hr
      cases hr with
      |emp k a cap=>exact⟨a,cap,rfl,fun _=>rfl⟩
      |lst k b off len cap vs cs hk hl hc hcap hm hK h1 hp hh=>exact⟨_,_,rfl,fun h=>by cases h⟩
     obtain⟨ad,c,hv,hnn⟩:=hv
     have fin: ∀(b:Bool),(execOp a.eval o).run P w= .ok (.value (.bool b)) w→(d2,n2,eq)=(d,n,eq)→(∃b0:Bool,b=(bif eq then b0 else !b0)∧(b0=true→n=0))→Oper.wp P o a w KK Q:=by
      rintro b hrun hdn ⟨b0,rfl,hb0⟩
      simp only[aP,and_true]at hdn
      obtain⟨rfl,rfl⟩:=hdn
      unfold Oper.wp
      rw[hrun]
      refine hKK _ _ (k b0 hb0 hin _ w ⟨by rw[b0D];exact hdf,K,D, ?_,hi.hinv,hi.grow⟩)
      have h9:=hi.slots.put (some d2) (s:= .bool (bif eq then b0 else !b0)) (.bool _)
      rw[c0K]at h9
      rw[hd]
      exact h9
     have hex:execOp a.eval o=(do pure (Next.value (←(do eqGuard op t x y (a.eval x) (a.eval y);binOp op t (a.eval x) (a.eval y):Sem Value)))):=by unfold execOp;rw[ho2]
     simp only[cond_true]at h
     split at h
     ·cases h
      refine fin ad.isNone ?_ rfl ⟨ad.isNone,rfl,hnn⟩
      rw[hex,hv,hyv]
      exact b0E (v0m ht)
     ·cases h
      refine fin (!ad.isNone) ?_ rfl ⟨ad.isNone,rfl,hnn⟩
      rw[hex,hv,hyv]
      exact b0E (u0g ht)
     ·cases h
   ·cases h
  ·cases h
end
section
variable {F : Fr} {P : Program} {m : Option Nat} {L : LE} {H : a0o} {Q : h0f} {ops : Array Oper} {p : Nat} {tr : List (List Nat × List Nat)}
theorem RJ.pin(t:Nat) {kd:IntKind} {j c:Int} (ht:lk L t= .int kd j)(hj:j=c)(h:RJ F P m ops p tr ((t, .int kd c)::L) H Q):RJ F P m ops p tr L H Q:=by
 subst hj
 have he:b0s ((t, .int kd j)::L)=b0s L:=by
  funext i
  show lk ((t, .int kd j)::L) i=lk L i
  simp only[lk]
  cases hb:Nat.beq i t with
  |false=>rfl
  |true=>
   have:=af hb
   subst this
   rw[ht];rfl
 cases m with
 |none=>
  intro hall a w hs
  exact h hall a w (by unfold Sees at hs⊢;rw[he];exact hs)
 |some base=>
  intro hl
  have:=h hl
  rw[he]at this
  exact this
end
/-! Maps whose entries are a list of natives. -/
def c0a {K V:Type} (ek:K→SV)(ev:V→SV)(ms:List (K×V)):List (SV×SV):=ms.map fun p=>(ek p.1,ev p.2)
def f0z {K V:Type} (eq:K→K→Bool):List (K×V)→K→Option V
 | [],_=>none
 |p::r,k=>bif eq k p.1 then some p.2 else f0z eq r k
theorem d0h {K V:Type} {ek:K→SV} {ev:V→SV} (h1: ∀f a,SV.rn f (ek a)=ek a)(h2: ∀f b,SV.rn f (ev b)=ev b)(f:Nat→Nat)(ms:List (K×V)):Ent.rn f (.map (c0a ek ev ms))= .map (c0a ek ev ms):=by
 simp only[Ent.rn,c0a,bT]
 congr 1
 exact bV fun p _=>by simp[h1,h2]
theorem c0b {K V:Type} {ek:K→SV} {ev:V→SV} (h1: ∀m a,SV.refs m (ek a)=true)(h2: ∀m b,SV.refs m (ev b)=true)(m:Nat)(ms:List (K×V)):Ent.refs m (.map (c0a ek ev ms))=true:=by
 simp[Ent.refs,c0a,h1,h2]
theorem p0j {P:Program} {kt:TypeId} {K V:Type} {ek:K→SV} {ev:V→SV} {eq:K→K→Bool} (heq: ∀a b,eqS P 9 kt (ek a) (ek b)=some (eq a b))(x:K): ∀ms:List (K×V),j0o P kt (ek x) (c0a ek ev ms)=some ((f0z eq ms x).map ev)
 | []=>rfl
 |p::ms=>by
  have ih:=p0j (ev:=ev) heq x ms
  simp only[c0a,ah,j0o,heq,f0z]at ih⊢
  cases eq x p.1 with
  |true=>rfl
  |false=>exact ih
section
variable {F : Fr} {P : Program} {m : Option Nat} {L : LE} {H : a0o} {Q : h0f} {ops : Array Oper} {p : Nat} {tr : List (List Nat × List Nat)}
def v0O(P:Program)(o:Oper)(ρ:Env)(H:a0o):Option (TypeId×Nat×List (SV×SV)×List SV×SV×Bool):=
 match o.op with
 | .lookup t m k ok=>match P.underlying t,a0Y ρ m,a0Y ρ k with
  |some (.map kt et),some (.mp i),some (.agg cs)=>match H[i]?,t0T P et with
   |some (.map es),some z=>if o0k P kt (.agg cs)=true then some (kt,i,es,cs,z,ok)else none
   |_,_=>none
  |_,_,_=>none
 |_=>none
theorem r0f {o:Oper} {ρ:Env} {idx:Nat} {kt:TypeId} {i:Nat} {es:List (SV×SV)} {cs:List SV} {z:SV} {ok:Bool} (h:v0O P o ρ H=some (kt,i,es,cs,z,ok)) {r:Option SV} (hf:j0o P kt (.agg cs) es=some r):
  a0Z P o ρ H idx=some ⟨i0U ok (r.getD z) r.isSome,[i],[]⟩:=by
 unfold v0O at h
 split at h
 ·rename_i t m k ok' ho
  split at h
  ·rename_i kt' et i' cs' hu hm hk
   split at h
   ·rename_i es' z' hH hz
    split at h<;>cases h
    rename_i hkey
    unfold a0Z a0k a0w
    simp only[ho]
    unfold h0K
    rw[hu,hm,hk]
    simp only[hH]
    rw[if_pos hkey]
    have:k0J P kt es (.agg cs)=some r:=hf
    rw[this,hz]
    cases r<;>rfl
   ·cases h
  ·cases h
 ·cases h
def v0P(P:Program)(m:Option Nat)(ops:Array Oper)(p:Nat)(tr:List (List Nat×List Nat))(L:LE)(H:a0o):Option (Option Nat×TypeId×Nat×List (SV×SV)×List SV×SV×Bool×List (List Nat×List Nat)):=
 match ops.toList[p]? with
 |none=>none
 |some o=>match c0P ops (b0s L) o with
  |some true=>bif c0B o then none else match v0O P o (b0s L) H with
   |some (kt,i,es,cs,z,ok)=>bif okM m ops p o ⟨.undef,[i],[]⟩ tr H then some (o.dst,kt,i,es,cs,z,ok,trM m ops p o ⟨.undef,[i],[]⟩ tr)else none
   |none=>none
  |_=>none
theorem RJ.lookD {K V:Type} (ek:K→SV)(ev:V→SV)(eq:K→K→Bool)(ms:List (K×V))(x:K)(zv:V) {d:Option Nat} {kt:TypeId} {i:Nat} {cs:List SV} {ok:Bool} {tr2:List (List Nat×List Nat)}
  (h:v0P P m ops p tr L H=some (d,kt,i,c0a ek ev ms,cs,ev zv,ok,tr2)) (hcs:SV.agg cs=ek x) (heq: ∀a b,eqS P 9 kt (ek a) (ek b)=some (eq a b))
  (k:RJ F P m ops (p+1) tr2 (g0e L d (i0U ok (ev ((f0z eq ms x).getD zv)) (f0z eq ms x).isSome)) H Q):RJ F P m ops p tr L H Q:=by
 unfold v0P at h
 split at h
 ·cases h
 ·rename_i o ho
  split at h
  ·rename_i hg
   cases hcc:c0B o with
   |true=>rw[hcc]at h;cases h
   |false=>
    rw[hcc]at h
    simp only[cond_false]at h
    split at h
    ·rename_i kt2 i2 es2 cs2 z2 ok2 he
     cases hok:okM m ops p o ⟨.undef,[i2],[]⟩ tr H with
     |false=>rw[hok]at h;cases h
     |true=>
      rw[hok]at h
      simp only[cond_true,ai,aP]at h
      obtain⟨rfl,rfl,rfl,rfl,rfl,rfl,rfl,rfl⟩:=h
      have hf:=p0j (ev:=ev) heq x ms
      rw[←hcs]at hf
      have hs:=r0f (idx:=y0y m ops p H) he hf
      have e1:((f0z eq ms x).map ev).getD (ev zv)=ev ((f0z eq ms x).getD zv):=by cases f0z eq ms x<;>rfl
      have e2:((f0z eq ms x).map ev).isSome=(f0z eq ms x).isSome:=by cases f0z eq ms x<;>rfl
      rw[e1,e2]at hs
      exact RJ.step ho hg hcc hs hok k
    ·cases h
  ·cases h
end
section
variable {F : Fr} {P : Program} {c : Code} {L : LE} {H : a0o} {Q : h0f} {m : Option Nat} {ops : Array Oper} {p : Nat} {tr : List (List Nat × List Nat)}
/-! The rules under short names; the kernel checks their conditions. -/
theorem kE(h:PJ F Q .normal L H)(hp:Nat.ble ops.size p=true:=by kernel_rfl):RJ F P m ops p tr L H Q:=RJ.end hp h
theorem kEN {c:Code} {Q:h0f} (h:J F P c L H Q)(hp:Nat.ble ops.size p=true:=by kernel_rfl):RJ F P m ops p tr L H (l0b F P c Q):=RJ.end hp (PJ.next h)
theorem kS(k:J F P (cl c) L H (l0b F P (cr c) Q))(h:n0e c=true:=by kernel_rfl):J F P c L H Q:=K.seq h k
theorem kR(k:RJ F P none (h0h c) 0 [] L H Q)(h:l0S false c=true:=by kernel_rfl):J F P c L H Q:=K.region h k
theorem kSR(k:RJ F P none (h0h (cl c)) 0 [] L H (l0b F P (cr c) Q))(h:n0e c=true:=by kernel_rfl)(h2:l0S false (cl c)=true:=by kernel_rfl):J F P c L H Q:=K.seq h (K.region h2 k)
theorem kT(k:J F P (ct c) L H Q)(h:u0G c L=some (.bool true):=by kernel_rfl):J F P c L H Q:=K.condT h k
theorem kF(k:J F P (ce c) L H Q)(h:u0G c L=some (.bool false):=by kernel_rfl):J F P c L H Q:=K.condF h k
theorem kX(k:PJ F Q .ret L H)(h:w0d c=true:=by kernel_rfl):J F P c L H Q:=K.ret h k
theorem kK(k:PJ F Q .normal L H)(h:r0m c=true:=by kernel_rfl):J F P c L H Q:=K.skip h k
theorem kD {base:Nat} (q:Nat)(k:RJ F P (some base) ops (p+q) (tOf (i0v P (some base) ops q p tr L H)) (lOf (i0v P (some base) ops q p tr L H)) (hOf (i0v P (some base) ops q p tr L H)) Q)(h:(i0v P (some base) ops q p tr L H).isSome=true:=by kernel_rfl):RJ F P (some base) ops p tr L H Q:=RJ.segDC q h k
theorem kZ {fn:Func} {v:SV} (hn:F.n=fn.ntmps)(hH:F.H0=[])(hdom: ∀i,F.H0.length≤i→F.D0 i=none)(hin:o0F fn.ntmps fn.results.toList=true:=by kernel_rfl)(hret:x0a P fn.results.toList L H=some v:=by kernel_rfl)(hr:SV.refs 0 v=true:=by kernel_rfl):
  PJ F (u0k P fn F v []) .ret L H:=K.ret0 (.inr rfl) hn hH hdom hin hret hr
theorem kFn {f:FuncId} {fn:Func} {args:List SV} {v:SV} {H':a0o}
  (h: ∀F:Fr,F.n=fn.ntmps→F.H0=H→(∀i,F.H0.length≤i→F.D0 i=none)→J F P (g0G fn) (i0j 0 args) H (u0k P fn F v H')) (hf:P.funcs[f]?=some fn:=by kernel_rfl) (hb:fn.body.isSome=true:=by kernel_rfl) (hcal:c0N P f=true:=by kernel_rfl) (hin:d0e fn.ntmps (g0G fn)=true:=by kernel_rfl) (hn:Nat.ble args.length fn.ntmps=true:=by kernel_rfl):SC P f args H v H':=K.fn hf hb hcal hin hn h
theorem oi {α:Type} {a b:α} (h:some a=some b):a=b:=aZ h
end
end Go.Sy
