/-
 The second shadow machine, part 22: is a list nothing? Nobody can tell of an empty one.
-/
import Derived.Test.YtcapcgbamehojaaGreatDoorSyT
import Derived.Test.YtcapcgbamehojaaGreatDoorSyU
import Derived.Laws.Cover3
namespace Go.Sy
open Go Go.RowKit
set_option linter.unusedVariables false
set_option linter.unusedSimpArgs false
set_option linter.unusedSectionVars false
variable [Inhabited GT]
def n0c {α:Type} [DecidableEq α](x y:Option α):Option α:=if x=y then y else none
theorem x0g {α:Type} [DecidableEq α] {e:Bool} {x y:Option α} {r:α} (he:e=true)(h:(bif e then n0c x y else y)=some r):x=some r:=by
 subst he
 simp only[cond_true,n0c]at h
 split at h
 ·rename_i hxy;rw[hxy];exact h
 ·cases h
theorem x0h {α:Type} [DecidableEq α] {e:Bool} {x y:Option α} {r:α} (h:(bif e then n0c x y else y)=some r):y=some r:=by
 cases e with
 |false=>exact h
 |true=>
  simp only[cond_true,n0c]at h
  split at h
  ·exact h
  ·cases h
/-! A map is asked for a key that isn't known. -/
def j0W(k key:SV)(b:Bool):Bool:=match e0i k key with
 |some x=>x==b
 |none=>false
def m0y(k:SV):List (SV×SV)→Nat→Bool
 | [],_=>false
 |e::_,0=>j0W k e.1 true
 |e::r,j+1=>j0W k e.1 false&&m0y k r j
def j0B(k:SV):List (SV×SV)→Bool
 | []=>true
 |e::r=>j0W k e.1 false&&j0B k r
theorem k0Y {k key:SV} {b:Bool} (h:j0W k key b=true):e0i k key=some b:=by
 unfold j0W at h
 split at h
 ·rename_i x hx;simp at h;subst h;exact hx
 ·cases h
theorem r0u {k:SV} : ∀(es:List (SV×SV)) (j:Nat) {e:SV×SV},es[j]?=some e→m0y k es j=true→e0n es k=some (some e.2)
 | [],j,e,h,_=>by simp at h
 |x::es,0,e,h,hc=>by
  simp only[ca,ai]at h
  subst h
  simp only[m0y]at hc
  simp only[e0n,k0Y hc]
 |x::es,j+1,e,h,hc=>by
  simp only[m0y,ae]at hc
  simp only[e0n,k0Y hc.1]
  exact r0u es j (by simpa using h) hc.2
theorem p0j {k:SV} : ∀(es:List (SV×SV)),j0B k es=true→e0n es k=some none
 | [],_=>rfl
 |x::es,hc=>by
  simp only[j0B,ae]at hc
  simp only[e0n,k0Y hc.1]
  exact p0j es hc.2
def x0W(P:Program)(o:Oper)(ρ:Env)(H:a0m)(j:Option Nat):Option (Eff×Bool):=
 match o.op with
 | .lookup t m k ok=>match P.underlying t,a0P ρ m,a0P ρ k with
  |some (.map kt et),some (.mp i),some sk=>match H[i]? with
   |some (.map es)=>if m0v P kt sk=true then(match j with
    |some j=>match es[j]? with
     |some e=>some (⟨h0U ok e.2 true,[i],[]⟩,m0y sk es j)
     |none=>none
    |none=>match r0L P et with
     |some z=>some (⟨h0U ok z false,[i],[]⟩,j0B sk es)
     |none=>none)else none
   |_=>none
  |_,_,_=>none
 |_=>none
theorem q0z {P:Program} {kt:TypeId} {es:List (SV×SV)} {k:SV} (h:m0v P kt k=true):m0w P kt k=true∧j0C P kt es k=e0n es k:=by
 cases k<;>first|exact⟨h,rfl⟩|(exfalso;unfold m0v at h;split at h<;>simp_all)
theorem q0w {P:Program} {o:Oper} {ρ:Env} {H:a0m} {idx:Nat} {j:Option Nat} {ef:Eff} {b:Bool} (h:x0W P o ρ H j=some (ef,b))(hb:b=true):a0L P o ρ H idx=some ef:=by
 unfold x0W at h
 split at h
 ·rename_i t m k ok ho
  split at h
  ·rename_i kt et i sk hu hm hk
   split at h
   ·rename_i es hH
    split at h
    ·rename_i hkey
     have fin:g0X P t (a0P ρ m) (a0P ρ k) ok H=some ef→a0L P o ρ H idx=some ef:=by
      intro hl
      unfold a0L a0g a0p
      simp only[ho]
      exact hl
     refine fin ?_
     unfold g0X
     rw[hu,hm,hk]
     simp only[hH]
     obtain⟨hk1,hk2⟩:=q0z (es:=es) hkey
     rw[if_pos hk1,hk2]
     split at h
     ·rename_i j
      split at h
      ·rename_i e he
       cases h
       rw[r0u es j he hb]
      ·cases h
     ·split at h
      ·rename_i z hz
       cases h
       rw[p0j es hb,hz]
      ·cases h
    ·cases h
   ·cases h
  ·cases h
 ·cases h
section
variable {F : Fr} {P : Program} {L : LE} {H : a0m} {Q : g0t} {m : Option Nat} {ops : Array Oper} {p : Nat} {tr : List (List Nat × List Nat)}
def w0T(P:Program)(m:Option Nat)(ops:Array Oper)(p:Nat)(tr:List (List Nat×List Nat))(L:LE)(H:a0m)(j:Option Nat):Option (Option Nat×Eff×Bool×List (List Nat×List Nat)):=
 match ops.toList[p]? with
 |none=>none
 |some o=>match c0y ops (b0n L) o with
  |some true=>bif c0l o then none else match x0W P o (b0n L) H j with
   |some (ef,c)=>bif okM m ops p o ef tr H then some (o.dst,ef,c,trM m ops p o ef tr)else none
   |none=>none
  |_=>none
theorem RJ.look(j:Option Nat) {d:Option Nat} {ef:Eff} {c:Bool} {tr2:List (List Nat×List Nat)} (h:w0T P m ops p tr L H j=some (d,ef,c,tr2))(hc:c=true)(k:RJ F P m ops (p+1) tr2 (f0s L d ef.v) (b0E H ef.wr) Q):RJ F P m ops p tr L H Q:=by
 unfold w0T at h
 split at h
 ·cases h
 ·rename_i o ho
  split at h
  ·rename_i hg
   cases hcc:c0l o with
   |true=>rw[hcc]at h;cases h
   |false=>
    rw[hcc]at h
    simp only[cond_false]at h
    split at h
    ·rename_i ef2 c2 he
     cases hok:okM m ops p o ef2 tr H with
     |false=>rw[hok]at h;cases h
     |true=>
      rw[hok]at h
      simp only[cond_true,ai,aF]at h
      obtain⟨rfl,rfl,rfl,rfl⟩:=h
      exact RJ.step ho hg hcc (q0w he hc) hok k
    ·cases h
  ·cases h
end
section
variable {F : Fr} {P : Program} {L : LE} {H : a0m} {Q : g0t} {ops : Array Oper} {p : Nat} {tr : List (List Nat × List Nat)}
def j0s(P:Program)(t:TypeId):Bool:=match P.underlying t with
 |some (.slice _)=>true
 |_=>false
def w0W:Operand→Bool
 | .const (.slice none 0 0)=>true
 |_=>false
def z0u(P:Program)(ops:Array Oper)(p:Nat)(L:LE):Option (Nat×Nat×Bool):=
 match ops.toList[p]? with
 |none=>none
 |some o=>match c0y ops (b0n L) o,o.dst,o.op with
  |some true,some d, .binOp op t x y _=>match a0P (b0n L) x with
   |some (.lst n _ _)=>bif j0s P t&&w0W y then(match op with
    | .eql=>some (d,n,true)
    | .neq=>some (d,n,false)
    |_=>none)else none
   |_=>none
  |_,_,_=>none
theorem t0q {w:World} {t:TypeId} {x y:Operand} {ad:Option Addr} {n c:Nat} (ht:j0s P t=true):(do eqGuard .eql t x y (.slice ad n c) (.slice none 0 0);binOp .eql t (.slice ad n c) (.slice none 0 0):Sem Value).run P w= .ok (.bool ad.isNone) w:=by
 unfold j0s at ht
 split at ht
 ·rename_i e hu
  rw[j0X _ _ (by rfl)]
  simp only[binOp,Sem.run_bind,run_equal_slice_nil w t e ad n c hu,Result.andThen_ok,Sem.run_pure]
 ·cases ht
theorem r0Y {w:World} {t:TypeId} {x y:Operand} {ad:Option Addr} {n c:Nat} (ht:j0s P t=true):(do eqGuard .neq t x y (.slice ad n c) (.slice none 0 0);binOp .neq t (.slice ad n c) (.slice none 0 0):Sem Value).run P w= .ok (.bool !ad.isNone) w:=by
 unfold j0s at ht
 split at ht
 ·rename_i e hu
  rw[j0X _ _ (by rfl)]
  simp only[binOp,Sem.run_bind,run_equal_slice_nil w t e ad n c hu,Result.andThen_ok,Sem.run_pure]
 ·cases ht
theorem RJ.isNil {d n:Nat} {eq:Bool} (h:z0u P ops p L=some (d,n,eq))(k: ∀b:Bool,(b=true→n=0)→RJ F P none ops (p+1) tr ((d, .bool (bif eq then b else !b))::L) H Q):RJ F P none ops p tr L H Q:=by
 unfold z0u at h
 split at h
 ·cases h
 ·rename_i o ho
  split at h
  ·rename_i d2 op t x y u hg hd ho2
   split at h
   ·rename_i n2 k2 cs hx
    cases hty:(j0s P t&&w0W y)with
    |false=>rw[hty]at h;cases h
    |true=>
     rw[hty]at h
     simp only[ae]at hty
     obtain⟨ht,hy⟩:=hty
     intro hin a w hs
     have hbo:Oper.inB F.n ops o=true:=List.all_eq_true.1 hin o (k0B ho)
     obtain⟨hdf,K,D,hi⟩:=hs
     rw[d0E ho]
     refine wpList_step fun KK hKK=> ?_
     rw[c0b hi.slots (Oper.inB_guard hbo) hg,if_pos rfl]
     have hxb:Operand.inB F.n x=true:=by
      have h1:=Oper.inB_op hbo
      unfold Op.inB at h1
      rw[bo]at h1
      exact h1 x (by simp[ho2,Op.operands])
     have hr:=a0i hi.slots hxb hx
     have hyv:a.eval y= .slice none 0 0:=by
      cases y with
      |const v=>cases v<;>first|(cases hy;done)|(rename_i a1 b1 c1;cases a1<;>first|(cases hy;done)|(cases b1<;>first|(cases hy;done)|(cases c1<;>first|(cases hy;done)|rfl)))
      |_=>cases hy
     have hv: ∃ad c,a.eval x= .slice ad n2 c∧(ad.isNone=true→n2=0):=by
      generalize a.eval x=v at hr
      cases hr with
      |emp k a cap=>exact⟨a,cap,rfl,fun _=>rfl⟩
      |lst k b off len cap vs cs hk hl hc hcap hm hK h1 hp hh=>exact⟨_,_,rfl,fun h=>by cases h⟩
     obtain⟨ad,c,hv,hnn⟩:=hv
     have fin: ∀(b:Bool),(execOp a.eval o).run P w= .ok (.value (.bool b)) w→(d2,n2,eq)=(d,n,eq)→(∃b0:Bool,b=(bif eq then b0 else !b0)∧(b0=true→n=0))→Oper.wp P o a w KK Q:=by
      rintro b hrun hdn ⟨b0,rfl,hb0⟩
      simp only[aF,and_true]at hdn
      obtain⟨rfl,rfl⟩:=hdn
      unfold Oper.wp
      rw[hrun]
      refine hKK _ _ (k b0 hb0 hin _ w ⟨by rw[b0A];exact hdf,K,D, ?_,hi.hinv,hi.grow⟩)
      have h9:=hi.slots.put (some d2) (s:= .bool (bif eq then b0 else !b0)) (.bool _)
      rw[c0A]at h9
      rw[hd]
      exact h9
     have hex:execOp a.eval o=(do pure (Next.value (←(do eqGuard op t x y (a.eval x) (a.eval y);binOp op t (a.eval x) (a.eval y):Sem Value)))):=by unfold execOp;rw[ho2]
     simp only[cond_true]at h
     split at h
     ·cases h
      refine fin ad.isNone ?_ rfl ⟨ad.isNone,rfl,hnn⟩
      rw[hex,hv,hyv]
      exact b0B (t0q ht)
     ·cases h
      refine fin (!ad.isNone) ?_ rfl ⟨ad.isNone,rfl,hnn⟩
      rw[hex,hv,hyv]
      exact b0B (r0Y ht)
     ·cases h
   ·cases h
  ·cases h
end
section
variable {F : Fr} {P : Program} {m : Option Nat} {L : LE} {H : a0m} {Q : g0t} {ops : Array Oper} {p : Nat} {tr : List (List Nat × List Nat)}
theorem RJ.pin(t:Nat) {kd:IntKind} {j c:Int} (ht:lk L t= .int kd j)(hj:j=c)(h:RJ F P m ops p tr ((t, .int kd c)::L) H Q):RJ F P m ops p tr L H Q:=by
 subst hj
 have he:b0n ((t, .int kd j)::L)=b0n L:=by
  funext i
  show lk ((t, .int kd j)::L) i=lk L i
  simp only[lk]
  cases hb:Nat.beq i t with
  |false=>rfl
  |true=>
   have:=af hb
   subst this
   rw[ht];rfl
 cases m with
 |none=>
  intro hall a w hs
  exact h hall a w (by unfold Sees at hs⊢;rw[he];exact hs)
 |some base=>
  intro hl
  have:=h hl
  rw[he]at this
  exact this
end
/-! Maps whose entries are a list of natives. -/
def b0O {K V:Type} (ek:K→SV)(ev:V→SV)(ms:List (K×V)):List (SV×SV):=ms.map fun p=>(ek p.1,ev p.2)
def c0C {K V:Type} (eq:K→K→Bool):List (K×V)→K→Option V
 | [],_=>none
 |p::r,k=>bif eq k p.1 then some p.2 else c0C eq r k
theorem c0r {K V:Type} {ek:K→SV} {ev:V→SV} (h1: ∀f a,SV.rn f (ek a)=ek a)(h2: ∀f b,SV.rn f (ev b)=ev b)(f:Nat→Nat)(ms:List (K×V)):Ent.rn f (.map (b0O ek ev ms))= .map (b0O ek ev ms):=by
 simp only[Ent.rn,b0O,cm]
 congr 1
 exact bY fun p _=>by simp[h1,h2]
theorem b0C {K V:Type} {ek:K→SV} {ev:V→SV} (h1: ∀m a,SV.refs m (ek a)=true)(h2: ∀m b,SV.refs m (ev b)=true)(m:Nat)(ms:List (K×V)):Ent.refs m (.map (b0O ek ev ms))=true:=by
 simp[Ent.refs,b0O,h1,h2]
theorem n0u {P:Program} {kt:TypeId} {K V:Type} {ek:K→SV} {ev:V→SV} {eq:K→K→Bool} (heq: ∀a b,eqS P 9 kt (ek a) (ek b)=some (eq a b))(x:K): ∀ms:List (K×V),i0p P kt (ek x) (b0O ek ev ms)=some ((c0C eq ms x).map ev)
 | []=>rfl
 |p::ms=>by
  have ih:=n0u (ev:=ev) heq x ms
  simp only[b0O,ah,i0p,heq,c0C]at ih⊢
  cases eq x p.1 with
  |true=>rfl
  |false=>exact ih
section
variable {F : Fr} {P : Program} {m : Option Nat} {L : LE} {H : a0m} {Q : g0t} {ops : Array Oper} {p : Nat} {tr : List (List Nat × List Nat)}
def t0Z(P:Program)(o:Oper)(ρ:Env)(H:a0m):Option (TypeId×Nat×List (SV×SV)×List SV×SV×Bool):=
 match o.op with
 | .lookup t m k ok=>match P.underlying t,a0P ρ m,a0P ρ k with
  |some (.map kt et),some (.mp i),some (.agg cs)=>match H[i]?,r0L P et with
   |some (.map es),some z=>if m0w P kt (.agg cs)=true then some (kt,i,es,cs,z,ok)else none
   |_,_=>none
  |_,_,_=>none
 |_=>none
theorem p0u {o:Oper} {ρ:Env} {idx:Nat} {kt:TypeId} {i:Nat} {es:List (SV×SV)} {cs:List SV} {z:SV} {ok:Bool} (h:t0Z P o ρ H=some (kt,i,es,cs,z,ok)) {r:Option SV} (hf:i0p P kt (.agg cs) es=some r):
  a0L P o ρ H idx=some ⟨h0U ok (r.getD z) r.isSome,[i],[]⟩:=by
 unfold t0Z at h
 split at h
 ·rename_i t m k ok' ho
  split at h
  ·rename_i kt' et i' cs' hu hm hk
   split at h
   ·rename_i es' z' hH hz
    split at h<;>cases h
    rename_i hkey
    unfold a0L a0g a0p
    simp only[ho]
    unfold g0X
    rw[hu,hm,hk]
    simp only[hH]
    rw[if_pos hkey]
    have:j0C P kt es (.agg cs)=some r:=hf
    rw[this,hz]
    cases r<;>rfl
   ·cases h
  ·cases h
 ·cases h
def u0a(P:Program)(m:Option Nat)(ops:Array Oper)(p:Nat)(tr:List (List Nat×List Nat))(L:LE)(H:a0m):Option (Option Nat×TypeId×Nat×List (SV×SV)×List SV×SV×Bool×List (List Nat×List Nat)):=
 match ops.toList[p]? with
 |none=>none
 |some o=>match c0y ops (b0n L) o with
  |some true=>bif c0l o then none else match t0Z P o (b0n L) H with
   |some (kt,i,es,cs,z,ok)=>bif okM m ops p o ⟨.undef,[i],[]⟩ tr H then some (o.dst,kt,i,es,cs,z,ok,trM m ops p o ⟨.undef,[i],[]⟩ tr)else none
   |none=>none
  |_=>none
theorem RJ.lookD {K V:Type} (ek:K→SV)(ev:V→SV)(eq:K→K→Bool)(ms:List (K×V))(x:K)(zv:V) {d:Option Nat} {kt:TypeId} {i:Nat} {cs:List SV} {ok:Bool} {tr2:List (List Nat×List Nat)}
  (h:u0a P m ops p tr L H=some (d,kt,i,b0O ek ev ms,cs,ev zv,ok,tr2)) (hcs:SV.agg cs=ek x) (heq: ∀a b,eqS P 9 kt (ek a) (ek b)=some (eq a b))
  (k:RJ F P m ops (p+1) tr2 (f0s L d (h0U ok (ev ((c0C eq ms x).getD zv)) (c0C eq ms x).isSome)) H Q):RJ F P m ops p tr L H Q:=by
 unfold u0a at h
 split at h
 ·cases h
 ·rename_i o ho
  split at h
  ·rename_i hg
   cases hcc:c0l o with
   |true=>rw[hcc]at h;cases h
   |false=>
    rw[hcc]at h
    simp only[cond_false]at h
    split at h
    ·rename_i kt2 i2 es2 cs2 z2 ok2 he
     cases hok:okM m ops p o ⟨.undef,[i2],[]⟩ tr H with
     |false=>rw[hok]at h;cases h
     |true=>
      rw[hok]at h
      simp only[cond_true,ai,aF]at h
      obtain⟨rfl,rfl,rfl,rfl,rfl,rfl,rfl,rfl⟩:=h
      have hf:=n0u (ev:=ev) heq x ms
      rw[←hcs]at hf
      have hs:=p0u (idx:=w0n m ops p H) he hf
      have e1:((c0C eq ms x).map ev).getD (ev zv)=ev ((c0C eq ms x).getD zv):=by cases c0C eq ms x<;>rfl
      have e2:((c0C eq ms x).map ev).isSome=(c0C eq ms x).isSome:=by cases c0C eq ms x<;>rfl
      rw[e1,e2]at hs
      exact RJ.step ho hg hcc hs hok k
    ·cases h
  ·cases h
end
section
variable {F : Fr} {P : Program} {c : Code} {L : LE} {H : a0m} {Q : g0t} {m : Option Nat} {ops : Array Oper} {p : Nat} {tr : List (List Nat × List Nat)}
/-! The rules under short names; the kernel checks their conditions. -/
theorem kE(h:PJ F Q .normal L H)(hp:Nat.ble ops.size p=true:=by kernel_rfl):RJ F P m ops p tr L H Q:=RJ.end hp h
theorem kEN {c:Code} {Q:g0t} (h:J F P c L H Q)(hp:Nat.ble ops.size p=true:=by kernel_rfl):RJ F P m ops p tr L H (j0T F P c Q):=RJ.end hp (PJ.next h)
theorem kS(k:J F P (cl c) L H (j0T F P (cr c) Q))(h:l0K c=true:=by kernel_rfl):J F P c L H Q:=K.seq h k
theorem kR(k:RJ F P none (g0w c) 0 [] L H Q)(h:k0E false c=true:=by kernel_rfl):J F P c L H Q:=K.region h k
theorem kSR(k:RJ F P none (g0w (cl c)) 0 [] L H (j0T F P (cr c) Q))(h:l0K c=true:=by kernel_rfl)(h2:k0E false (cl c)=true:=by kernel_rfl):J F P c L H Q:=K.seq h (K.region h2 k)
theorem kT(k:J F P (ct c) L H Q)(h:s0y c L=some (.bool true):=by kernel_rfl):J F P c L H Q:=K.condT h k
theorem kF(k:J F P (ce c) L H Q)(h:s0y c L=some (.bool false):=by kernel_rfl):J F P c L H Q:=K.condF h k
theorem kX(k:PJ F Q .ret L H)(h:u0o c=true:=by kernel_rfl):J F P c L H Q:=K.ret h k
theorem kK(k:PJ F Q .normal L H)(h:p0A c=true:=by kernel_rfl):J F P c L H Q:=K.skip h k
theorem kD {base:Nat} (q:Nat)(k:RJ F P (some base) ops (p+q) (tOf (h0D P (some base) ops q p tr L H)) (lOf (h0D P (some base) ops q p tr L H)) (hOf (h0D P (some base) ops q p tr L H)) Q)(h:(h0D P (some base) ops q p tr L H).isSome=true:=by kernel_rfl):RJ F P (some base) ops p tr L H Q:=RJ.segDC q h k
theorem kZ {fn:Func} {v:SV} (hn:F.n=fn.ntmps)(hH:F.H0=[])(hdom: ∀i,F.H0.length≤i→F.D0 i=none)(hin:m0R fn.ntmps fn.results.toList=true:=by kernel_rfl)(hret:v0e P fn.results.toList L H=some v:=by kernel_rfl)(hr:SV.refs 0 v=true:=by kernel_rfl):
  PJ F (s0b P fn F v []) .ret L H:=K.ret0 (.inr rfl) hn hH hdom hin hret hr
theorem kFn {f:FuncId} {fn:Func} {args:List SV} {v:SV} {H':a0m}
  (h: ∀F:Fr,F.n=fn.ntmps→F.H0=H→(∀i,F.H0.length≤i→F.D0 i=none)→J F P (f0W fn) (h0t 0 args) H (s0b P fn F v H')) (hf:P.funcs[f]?=some fn:=by kernel_rfl) (hb:fn.body.isSome=true:=by kernel_rfl) (hcal:c0B P f=true:=by kernel_rfl) (hin:c0T fn.ntmps (f0W fn)=true:=by kernel_rfl) (hn:Nat.ble args.length fn.ntmps=true:=by kernel_rfl):SC P f args H v H':=K.fn hf hb hcal hin hn h
theorem oi {α:Type} {a b:α} (h:some a=some b):a=b:=aC h
end
end Go.Sy
