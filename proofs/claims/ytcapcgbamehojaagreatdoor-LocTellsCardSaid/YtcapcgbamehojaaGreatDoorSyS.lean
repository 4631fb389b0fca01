/-
 The second shadow machine, part 17: from a law's contract to its row.
-/
import Derived.Test.YtcapcgbamehojaaGreatDoorSyR
namespace Go.Sy
open Go Go.RowKit Go.ChangeShapes Go.WideShapes Go.ChangeAt
set_option linter.unusedSimpArgs false
set_option linter.unusedVariables false
set_option linter.unusedSectionVars false
variable [Inhabited GT]
def i0p(P:Program) {H:Type} (n:Nat)(t:TypeId)(d:DataW H)(s:SV):Prop:=
 match P.underlying t with
 |some (.struct _)=> ∃cs,s= .agg cs∧e0s P n t d cs
 |some (.array _ _)=> ∃cs,s= .agg cs∧e0s P n t d cs
 |_=>e0s P n t d [s]
section
variable {H : Type} {enc : TypeId × Value → H} {P : Program} {w : World}
theorem v0k {n:Nat} {t:TypeId} {r:Reach} {b0:Nat} {v:Value} {d:DataW H} {ps:List MemPlace} (hp:j0H P n t=true)(hval:Value.okWide P w r b0 t v)(hd:DataW.Trod enc P w 0 (fun _=>true) true t v d ps):
  ∃s,Rep w (KW w) (fun _=>none) v s∧i0p P n t d s:=by
 obtain⟨fuel,hf⟩:=hd
 obtain⟨ss,hcr,hpl,hsh⟩:=p0y n t fuel _ _ hp hf
 have l0C:v.cells= #[v]→(∀ss,e0s P n t d ss→ ∃s,ss=[s])→(∀s,e0s P n t d [s]→i0p P n t d s)→ ∃s,Rep w (KW w) (fun _=>none) v s∧i0p P n t d s:=by
  intro hc h1 h2
  obtain⟨s,rfl⟩:=h1 ss hsh
  exact⟨s,hcr.rep 0 v s (by rw[hc];rfl) rfl,h2 s hsh⟩
 cases n with
 |zero=>simp[j0H]at hp
 |succ n=>
  have hp':=hp
  unfold j0H at hp
  split at hp
  ·rename_i hu
   obtain⟨b,rfl⟩:=okWide_bool hu hval
   refine l0C rfl (fun ss h=> ?_) (fun s h=>by unfold i0p;rw[hu];exact h)
   unfold e0s at h;rw[hu]at h
   obtain⟨b,_,rfl⟩:=h
   exact⟨_,rfl⟩
  ·rename_i k hu
   obtain⟨b,rfl⟩:=okWide_int hu hval
   refine l0C rfl (fun ss h=> ?_) (fun s h=>by unfold i0p;rw[hu];exact h)
   unfold e0s at h;rw[hu]at h
   obtain⟨b,_,rfl,_⟩:=h
   exact⟨_,rfl⟩
  ·rename_i hu
   obtain⟨b,rfl⟩:=okWide_string hu hval
   refine l0C rfl (fun ss h=> ?_) (fun s h=>by unfold i0p;rw[hu];exact h)
   unfold e0s at h;rw[hu]at h
   obtain⟨b,_,rfl⟩:=h
   exact⟨_,rfl⟩
  ·rename_i e hu
   obtain⟨a,len,cap,rfl⟩:=okWide_slice hu hval
   refine l0C rfl (fun ss h=> ?_) (fun s h=>by unfold i0p;rw[hu];exact h)
   unfold e0s at h;rw[hu]at h
   rcases h with⟨_,rfl⟩|⟨_,_,_,_,rfl,_⟩
   ·exact⟨_,rfl⟩
   ·exact⟨_,rfl⟩
  ·rename_i fs hu
   unfold Value.okWide at hval
   rw[hu]at hval
   obtain⟨cs,rfl,_,_⟩:=hval
   refine⟨.agg ss, ?_,by unfold i0p;rw[hu];exact⟨ss,rfl,hsh⟩⟩
   have:=Rep.agg _ _ hcr.len hcr.one hcr.rep
   simpa [Value.cells]using this
  ·rename_i m e hu
   unfold Value.okWide at hval
   rw[hu]at hval
   obtain⟨cs,rfl,_,_⟩:=hval
   refine⟨.agg ss, ?_,by unfold i0p;rw[hu];exact⟨ss,rfl,hsh⟩⟩
   have:=Rep.agg _ _ hcr.len hcr.one hcr.rep
   simpa [Value.cells]using this
  ·cases hp
theorem u0I {n:Nat} {r:Reach} {b0:Nat} : ∀(ts:List TypeId) (vs:List Value) (ds:List (DataW H)) (ps:List MemPlace),(∀t∈ts,j0H P n t=true)→
  (∀(j:Nat) t v,ts[j]?=some t→vs[j]?=some v→Value.okWide P w r b0 t v)→DataW.TrodAll enc P w 0 (fun _=>true) true ts vs ds ps→
  ∃ss:List SV,ss.length=vs.length∧ds.length=ts.length∧ss.length=ts.length∧(∀(j:Nat) x c,vs[j]?=some x→ss[j]?=some c→Rep w (KW w) (fun _=>none) x c)∧
   (∀(j:Nat) t d s,ts[j]?=some t→ds[j]?=some d→ss[j]?=some s→i0p P n t d s):=by
 intro ts
 induction ts with
 |nil=>
  intro vs ds ps _ _ h
  cases vs<;>cases ds<;>first|exact⟨[],rfl,rfl,rfl,fun j x c e=>by simp at e,fun j t d s e=>by simp at e⟩|exact h.elim
 |cons t ts ih=>
  intro vs ds ps hp hv h
  cases vs with
  |nil=>cases ds<;>exact h.elim
  |cons v vs=>
   cases ds with
   |nil=>exact h.elim
   |cons d ds=>
    obtain⟨p,q,h1,h2,_⟩:=h
    obtain⟨s,hr,hs⟩:=v0k (hp t (ar ..)) (hv 0 t v rfl rfl) h1
    obtain⟨ss,i1,i2,i3,i4,i5⟩:=ih vs ds q (fun t ht=>hp t (ao _ ht)) (fun j t v ht hvv=>hv (j+1) t v (by simpa using ht) (by simpa using hvv)) h2
    refine⟨s::ss,by simp[i1],by simp[i2],by simp[i3],fun j x c hx hc=> ?_,fun j t' d' s' ht hd hs'=> ?_⟩
    ·cases j with
     |zero=>simp at hx hc;subst hx;subst hc;exact hr
     |succ j=>exact i4 j x c (by simpa using hx) (by simpa using hc)
    ·cases j with
     |zero=>simp at ht hd hs';subst ht;subst hd;subst hs';exact hs
     |succ j=>exact i5 j t' d' s' (by simpa using ht) (by simpa using hd) (by simpa using hs')
theorem x0T:HInv w (KW w) (fun _=>none) []:=
 ⟨fun _ _=>rfl,fun i en h=>by simp at h,fun i j en en' b c n c' n' h=>by simp at h,B0w w⟩
theorem not_mem_nil {D:DM} {b:Nat} : ¬Mem D [] b:=fun⟨i,en,c,n,h,_⟩=>by simp at h
theorem w0a {f:FuncId} {vals:List Value} {ss:List SV} {H':a0o} (hl:ss.length=vals.length)(hr: ∀(j:Nat) x c,vals[j]?=some x→ss[j]?=some c→Rep w (KW w) (fun _=>none) x c)(h:SC P f ss [] (.bool true) H')(hG:k0Y w (KW w) fun _=>none):
  Calls P f vals.toArray w fun e w'=>e= .returned (.bool true)∧Below w.heap.size w w':=by
 refine(h.2 w (KW w) (fun _=>none) vals hl.symm hr x0T hG).mono ?_
 rintro e w' ⟨r,rfl,K',D',g,_,hrep⟩
 cases hrep
 exact⟨rfl,g.os,g.tape,g.output,g.size,fun k hk=>g.block k hk not_mem_nil⟩
theorem p0t {W W':World} (hl:laidOutB P=true)(hb:Below W.heap.size W W'): ∀(ts:List TypeId) (vs:List Value) (ds:List (DataW H)) (ps:List MemPlace),(∀t∈ts,P.readableRec t=true∧t<P.types.size)→
  DataW.TrodAll enc P W 0 (fun _=>true) true ts vs ds ps→(∀x∈ps,x.block<W.heap.size)→DataW.TrodAll enc P W' 0 (fun b=>decide (b<W.heap.size)) true ts vs ds ps:=by
 intro ts
 induction ts with
 |nil=>intro vs ds ps _ h _;cases vs<;>cases ds<;>first|exact h|exact h.elim
 |cons t ts ih=>
  intro vs ds ps ht h hps
  cases vs with
  |nil=>cases ds<;>exact h.elim
  |cons v vs=>
   cases ds with
   |nil=>exact h.elim
   |cons d ds=>
    obtain⟨p,q,h1,h2,rfl⟩:=h
    obtain⟨r1,r2⟩:=ht t (ar ..)
    exact⟨p,q,Below.trod hl r1 r2 h1 hb (fun x hx=>hps x (au.2 (.inl hx))),ih vs ds q (fun t hm=>ht t (ao _ hm)) h2 (fun x hx=>hps x (au.2 (.inr hx))),rfl⟩
theorem x0O {f:FuncId} {fn:Func} {s:ChangeSpec} {n:Nat} {tb:TypeId} (hl:laidOutB P=true)(htb:P.underlying tb=some .bool)(hrt:fn.resultTypes= #[tb])(hv:s.vars=[])
  (hplain:fn.params.toList.all (fun t=>j0H P n t&&P.readableRec t&&decide (t<P.types.size))=true)
  {W:World} {base:Nat} {args:Array Value} {ds gs:List (DataW H)} {before:List MemPlace}
  (hspec:ds.length=fn.params.toList.length→(s.fn H ds).results=[.lit (.bool true)]∧(s.fn H ds).args=ds∧(s.fn H ds).vars=[])
  (hval: ∀(j:Nat) t v,fn.params[j]?=some t→args[j]?=some v→Value.okWide P W .any base t v)
  (hW:DataW.Whole enc P fn.params.toList s.vars false W args.toList ds gs before)
  (main: ∀ss:List SV,gs=[]→ds.length=fn.params.toList.length→ss.length=fn.params.toList.length→(∀(j:Nat) t d x,fn.params.toList[j]?=some t→ds[j]?=some d→ss[j]?=some x→i0p P n t d x)→ ∃H',SC P f ss [] (.bool true) H') (hG:k0Y W (KW W) fun _=>none):
  Calls P f args W fun e W'=> ∃v,e= .returned v∧s.post enc P fn false true false false W args v W':=by
 have hW':=hW
 obtain⟨p,q,hA,hV,rfl,_,_⟩:=hW
 rw[hv]at hV
 obtain⟨rfl,rfl⟩:=trodVars_none hV
 simp only[List.all_eq_true,ac,decide_eq_true_eq]at hplain
 obtain⟨ss,l1,l2,l3,hr,hs⟩:=u0I (P:=P) (w:=W) (n:=n) fn.params.toList args.toList ds p (fun t ht=>(hplain t ht).1.1) (fun j t v ht hvv=>hval j t v (by simpa using ht) (by simpa using hvv)) hA
 obtain⟨H',hm⟩:=main ss rfl l2 l3 hs
 have hc:=w0a (P:=P) (f:=f) l1 hr hm hG
 have ha:args.toList.toArray=args:=by simp
 rw[ha]at hc
 refine hc.mono fun e W' ⟨he,hb⟩=> ?_
 obtain⟨e1,e2,e3⟩:=hspec l2
 refine⟨_,he,ds,[],_,[],p++ [],[],hW', ?_, ?_, ?_,hb.frame _,fun h=>by cases h⟩
 ·rw[bE,e1,hrt]
  exact trodAll_mk1 (shut_bool htb _)
 ·rw[bE,e2,bE]
  exact p0t hl hb _ _ _ _ (fun t ht=>⟨(hplain t ht).1.2,(hplain t ht).2⟩) hA (fun x hx=>by have:=hW'.lt x (by simpa using hx);simpa using this)
 ·rw[bE,e3,hv];rfl
end
end Go.Sy
