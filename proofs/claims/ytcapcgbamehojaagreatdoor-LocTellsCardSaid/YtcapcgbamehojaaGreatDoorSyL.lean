/-
 The second shadow machine, part 12: regions whose order is open.
-/
import Derived.Test.YtcapcgbamehojaaGreatDoorSyW
import Derived.Still
namespace Go.Sy
open Go Go.RowKit
set_option linter.unusedVariables false
set_option linter.unusedSimpArgs false
set_option linter.unusedSectionVars false
variable [Inhabited GT]
def d0F(o:Oper):Bool:=
 match o.op with
 | .box _ _=>true
 | .alloc _=>true
 | .buildSlice _ _ _=>true
 | .makeSlice _ _ _=>true
 | .makeMap _ _=>true
 | .call c=>match c.callee with
  | .builtin .append=>true
  | .value _=>true
  |_=>false
 |_=>false
theorem k0m {o:Oper} (h:c0B o=true):d0F o=true:=by
 unfold c0B at h
 unfold d0F
 split at h
 ·rename_i c ho
  split at h
  ·rename_i f hf
   simp[ho,hf]
  ·cases h
 ·cases h
def e0T(ops:Array Oper)(base i:Nat):Nat:=base+((ops.toList.take i).filter d0F).length
def b0H(H:a0o):List (Nat×Ent)→a0o
 | []=>H
 |(i,en)::r=>b0H (H.set i en) r
def h0z(o:Oper):Bool:=
 match o.op with
 | .indexAddr _ _ _=>true
 | .call c=>match c.callee with
  | .builtin .len=>true
  |_=>false
 |_=>false
def i0u(o:Oper):Bool:=
 match o.op with
 | .store _ _ _=>true
 |_=>false
def w0K(x:Nat):List Nat:=[2*x,2*x+1]
def k0H(o:Oper)(ef:Eff):List Nat:=bif h0z o then ef.rd.map (fun x=>2*x+1)else ef.rd.flatMap w0K
def i0H(ops:Array Oper)(base i:Nat)(o:Oper)(ef:Eff):List Nat:=(bif i0u o then ef.wr.map (fun x=>2*x.1)else ef.wr.flatMap fun x=>w0K x.1)++(if d0F o then w0K (e0T ops base i)else [])
def m0k(a b:Option Ent):Prop:=a=b∨(∃n k e cs cs',a=some (.vec n k e cs)∧b=some (.vec n k e cs'))∨ ∃cs cs',a=some (.box cs)∧b=some (.box cs')
theorem w0m {ops:Array Oper} {base i:Nat} {o:Oper} {ef:Eff} {x:Nat} (h:x∈ef.wr.map Prod.fst):2*x∈i0H ops base i o ef:=by
 obtain⟨y,hy,rfl⟩:=aK.1 h
 unfold i0H
 refine au.2 (.inl ?_)
 cases i0u o with
 |true=>exact aK.2 ⟨y,hy,rfl⟩
 |false=>exact bw.2 ⟨y,hy,by simp[w0K]⟩
theorem A0I {ops:Array Oper} {base i:Nat} {o:Oper} {ef:Eff} {x:Nat} (hs:i0u o=false)(h:x∈ef.wr.map Prod.fst):2*x+1∈i0H ops base i o ef:=by
 obtain⟨y,hy,rfl⟩:=aK.1 h
 unfold i0H
 refine au.2 (.inl ?_)
 rw[hs]
 exact bw.2 ⟨y,hy,by simp[w0K]⟩
theorem w0n {ops:Array Oper} {base i:Nat} {o:Oper} {ef:Eff} (h:d0F o=true):2*e0T ops base i∈i0H ops base i o ef:=by
 unfold i0H
 rw[if_pos h]
 exact au.2 (.inr (by simp[w0K]))
theorem n0T {o:Oper} {ef:Eff} {x:Nat} (hs:h0z o=false)(h:x∈ef.rd):2*x∈k0H o ef:=by
 unfold k0H
 rw[hs]
 exact bw.2 ⟨x,h,by simp[w0K]⟩
theorem A0q {o:Oper} {ef:Eff} {x:Nat} (h:x∈ef.rd):2*x+1∈k0H o ef:=by
 unfold k0H
 cases h0z o with
 |true=>exact aK.2 ⟨x,h,rfl⟩
 |false=>exact bw.2 ⟨x,h,by simp[w0K]⟩
theorem q0S {P:Program} {o:Oper} {ρ ρ':Env} {H H':a0o} {idx:Nat} {ef:Eff} (hs:h0z o=true)(h: ∀x∈o.op.operands,a0Y ρ x=a0Y ρ' x)(he:a0Z P o ρ H idx=some ef)(hr: ∀i∈ef.rd,m0k (H'[i]?) (H[i]?)):a0Z P o ρ' H' idx=some ef:=by
 have hloc:a0Z P o ρ' H idx=some ef:=j0N h he (fun _ _=>rfl)
 clear he h
 unfold a0Z at hloc⊢
 split
 ·rename_i v hv
  rw[hv]at hloc
  exact hloc
 ·rename_i hv
  rw[hv]at hloc
  simp only at hloc
  unfold h0z at hs
  split at hs
  ·rename_i t x y ho
   simp only[a0w,ho]at hloc⊢
   split at hloc
   ·rename_i e i kk j h1 h2 h3
    split at hloc
    ·rename_i n k e' cs hH
     split at hloc
     ·rename_i hc
      cases hloc
      rcases hr i (by simp)with hq|⟨n',k',e2,cs1,cs2,q1,q2⟩|⟨cs1,cs2,q1,q2⟩
      ·rw[hq,hH];simp only;rw[if_pos hc]
      ·rw[hH]at q2;cases q2
       rw[q1];simp only;rw[if_pos hc]
      ·rw[hH]at q2;cases q2
     ·cases hloc
    ·cases hloc
   ·cases hloc
  ·rename_i c ho
   split at hs
   ·rename_i hc
    simp only[a0w,ho,hc]at hloc⊢
    split at hloc
    ·rename_i x t h1 h2
     split at hloc
     ·rename_i e i h3 h4
      split at hloc
      ·rename_i n k e' cs hH
       cases hloc
       rcases hr i (by simp)with hq|⟨n',k',e2,cs1,cs2,q1,q2⟩|⟨cs1,cs2,q1,q2⟩
       ·rw[hq,hH]
       ·rw[hH]at q2;cases q2
        rw[q1]
       ·rw[hH]at q2;cases q2
      ·cases hloc
     ·cases hloc
    ·cases hloc
   ·cases hs
  ·cases hs
def s0J(r1 w1 r2 w2:List Nat):Bool:=w1.all (fun x=> !r2.contains x&& !w2.contains x)&&w2.all (fun x=> !r1.contains x)
def B0z(P:Program)(ρ:Env)(o:Oper)(H:a0o)(ef:Eff):Prop:=
 ∃f args g args0 H0 v0,g0s ρ o=some (f,args)∧args=SV.rnL g args0∧Sel H g H0∧(∀en∈H0,g0K en=true)∧SV.refsL H0.length args0=true∧SV.refs H0.length v0=true∧SC P f args0 H0 v0 H0∧
  ef=⟨SV.rn g v0,(List.range H0.length).map g,[]⟩
def B0A(P:Program)(ρ:Env)(o:Oper)(H:a0o)(idx:Nat)(ef:Eff):Prop:=
 ∃f args v0 en0,g0s ρ o=some (f,args)∧SV.refsL 0 args=true∧SC P f args [] v0 [en0]∧(H[idx]?=some .res∧ ∀g,Ent.rn g en0=en0)∧ef=⟨SV.rn (fun _=>idx) v0,[],[(idx,en0)]⟩
def m0W(g:Nat→Nat)(n:Nat)(H0':a0o):List (Nat×Ent):=(List.range n).map fun j=>(g j,Ent.rn g (H0'.getD j .gone))
def B0y(P:Program)(ρ:Env)(o:Oper)(H:a0o)(ef:Eff):Prop:=
 ∃f args g args0 H0 v0 H0',g0s ρ o=some (f,args)∧args=SV.rnL g args0∧Sel H g H0∧(∀en∈H0,g0K en=true)∧SV.refsL H0.length args0=true∧SV.refs H0.length v0=true∧SC P f args0 H0 v0 H0'∧
  H0'.length=H0.length∧(∀(j:Nat) (en:Ent),H0'[j]?=some en→Ent.refs H0.length en=true)∧ef=⟨SV.rn g v0,(List.range H0.length).map g,m0W g H0.length H0'⟩
def pOf(f:Nat→Nat)(m idx:Nat):Nat→Nat:=fun j=>if j<m then f j else idx
def B0x(P:Program)(ρ:Env)(o:Oper)(H:a0o)(idx:Nat)(ef:Eff):Prop:=
 ∃f args g args0 H0 v0 H0',g0s ρ o=some (f,args)∧args=SV.rnL g args0∧Sel H g H0∧(∀en∈H0,g0K en=true)∧SV.refsL H0.length args0=true∧SC P f args0 H0 v0 H0'∧
  H0'.length=H0.length+1∧H[idx]?=some .res∧ef=⟨SV.rn (pOf g H0.length idx) v0,(List.range H0.length).map g,m0W (pOf g H0.length idx) (H0.length+1) H0'⟩
def B0B(P:Program)(ρ:Env)(o:Oper)(H:a0o)(idx:Nat)(ef:Eff):Prop:=B0z P ρ o H ef∨B0A P ρ o H idx ef∨B0y P ρ o H ef∨B0x P ρ o H idx ef
def opD(P:Program)(ops:Array Oper)(base i:Nat)(o:Oper)(ρ:Env)(H:a0o)(ef:Eff):Prop:=
 match c0P ops ρ o with
 |some true=>if c0B o then B0B P ρ o H (e0T ops base i) ef else
   (a0Z P o ρ H (e0T ops base i)=some ef∨(j0O P o ρ H (e0T ops base i)=some ef∧d0F o=true))∧(d0F o=true→H[e0T ops base i]?=some .res)∧ ∀x∈ef.wr,x.1<H.length
 |some false=>ef=⟨.tup [],[],[]⟩
 |none=>False
def i0Z(o:Oper)(rd fw:List Nat):List (List Nat×List Nat)→Nat→Bool
 | [],_=>true
 |(r',w')::r,j=>(o.after.any (fun e=>Region.binds .any e&&e.on==j)||s0J r' w' rd fw)&&i0Z o rd fw r (j+1)
def u0U(P:Program)(ops:Array Oper)(base:Nat):List (List Nat×List Nat)→List Oper→(Env→a0o→Prop)→Env→a0o→Prop
 |_,[],K,ρ,H=>K ρ H
 |tr,o::rest,K,ρ,H=> ∃ef,opD P ops base tr.length o ρ H ef∧i0Z o (k0H o ef) (i0H ops base tr.length o ef) tr 0=true∧u0U P ops base (tr++ [(k0H o ef,i0H ops base tr.length o ef)]) rest K (k0U ρ o.dst ef.v) (b0H H ef.wr)
theorem SC.place {P:Program} {f:FuncId} {args:List SV} {v0:SV} {en0:Ent} {H:a0o} {idx:Nat} (h:SC P f args [] v0 [en0])(hr:SV.refsL 0 args=true)(hres:H[idx]?=some .res)(hE: ∀g,Ent.rn g en0=en0):
  SC P f args H (SV.rn (fun _=>idx) v0) (H.set idx en0):=by
 refine⟨h.1,fun w K D vals hlen hrep hi hG=> ?_⟩
 have hil:idx<H.length:=(ab.1 hres).1
 have hDi:D idx=none:=hi.ent idx _ hres
 have hsel:Sel H (fun j=>j) []:=⟨fun j en hj=>by simp at hj,fun i j hi=>by simp at hi,fun j en hj=>by simp at hj⟩
 have hrn: ∀(s:SV),SV.refs 0 s=true→SV.rn (fun j=>j) s=SV.rn (fun j=>j) s:=fun _ _=>rfl
 refine(h.2 w K (j0c D (fun j=>j) 0) vals hlen (fun j x c hx hc=> ?_) (hsel.hinv hi) (g0E hG)).mono ?_
 ·have hc0:=e0d hr j c hc
  have hid: ∀s,SV.refs 0 s=true→Rep w K D x s→Rep w K (j0c D (fun j=>j) 0) x s:=by
   intro s hs hx
   have hu:=k0T (D':=D) (g:=fun j=>j) hx (fun _ _ e=>e)
   exact f0L hu s rfl hs
  exact hid c hc0 (hrep j x c hx hc)
 rintro ex w' ⟨r,he,K',Ds,g,hi',hrr⟩
 have nomem: ∀b,¬Mem (j0c D (fun j=>j) 0) [] b:=by rintro b ⟨i,en,c,n,h1,_⟩;simp at h1
 have hDs: ∀j x,Ds j=some x→(fun i=>if i=idx then Ds 0 else D i) idx=some x:=by
  intro j x hx
  cases j with
  |zero=>simpa using hx
  |succ j=>rw[hi'.dom (j+1) (by simp)]at hx;cases hx
 have hnewb: ∀b c m,g0K en0=true→Ds 0=some (.at b c m)→w.heap.size≤b:=fun b c m hlv hd=>by
  rcases g.new b ⟨0,_,c,m,rfl,hlv,hd⟩with h1|h1
  ·exact absurd h1 (nomem b)
  ·exact h1
 have hget: ∀i en,(H.set idx en0)[i]?=some en→(i=idx∧en=en0)∨(i≠idx∧H[i]?=some en):=by
  intro i en hie
  rw[aQ]at hie
  by_cases hii:idx=i
  ·subst hii
   rw[if_pos rfl,if_pos hil]at hie
   cases hie
   exact .inl ⟨rfl,rfl⟩
  ·rw[if_neg hii]at hie
   exact .inr ⟨Ne.symm hii,hie⟩
 refine⟨r,he,K',fun i=>if i=idx then Ds 0 else D i,⟨g.os,g.tape,g.output,g.size,fun b hb _=>g.block b hb (nomem b),g.cells,g.le,fun b hb _=>g.kk b hb (nomem b),fun i x hx=> ?_,fun b hm=> ?_⟩,
  ⟨fun i hle=> ?_,fun i en hie=> ?_,fun i j en en' b c m c' m' hie hje hl hl' hd hd'=> ?_,hi'.kw⟩,k0T hrr hDs⟩
 ·by_cases hii:i=idx
  ·subst hii;rw[hDi]at hx;cases hx
  ·simp only[if_neg hii];exact hx
 ·obtain⟨i,en,c,m,h1,h2,h3⟩:=hm
  rcases hget i en h1 with⟨rfl,rfl⟩|⟨hne,h4⟩
  ·simp only[if_pos rfl]at h3
   exact .inr (hnewb b c m h2 h3)
  ·simp only[if_neg hne]at h3
   exact .inl ⟨i,en,c,m,h4,h2,h3⟩
 ·simp only[List.length_set]at hle
  simp only[if_neg (show i≠idx by omega)]
  exact hi.dom i hle
 ·rcases hget i en hie with⟨rfl,rfl⟩|⟨hne,h4⟩
  ·have h9:=w0z (D':=fun q=>if q=i then Ds 0 else D q) (g:=fun _=>i) (hi'.ent 0 _ rfl) hDs (fun hn=>by simpa using hn)
   rw[hE]at h9
   exact h9
  ·refine(hi.ent i en h4).keep (fun v s hr0=>hr0.mono g.cells g.le (fun q x hx=>by
     by_cases hqi:q=idx
     ·subst hqi;rw[hDi]at hx;cases hx
     ·simp only[if_neg hqi];exact hx)) (by simp only[if_neg hne]) (fun b c m hl hd=> ?_)
   have hb:=(i0X hi ⟨i,en,c,m,h4,hl,hd⟩).1
   exact⟨g.block b hb (nomem b),g.kk b hb (nomem b)⟩
 ·rcases hget i en hie with⟨rfl,rfl⟩|⟨hne,h4⟩<;>rcases hget j en' hje with⟨rfl,rfl⟩|⟨hne',h4'⟩
  ·rfl
  ·exfalso
   simp only[if_pos rfl]at hd
   simp only[if_neg hne']at hd'
   have h1:=hnewb b c m hl hd
   have h2:=(i0X hi ⟨j,en',c',m',h4',hl',hd'⟩).1
   omega
  ·exfalso
   simp only[if_neg hne]at hd
   simp only[if_pos rfl]at hd'
   have h1:=hnewb b c' m' hl' hd'
   have h2:=(i0X hi ⟨i,en,c,m,h4,hl,hd⟩).1
   omega
  ·simp only[if_neg hne]at hd
   simp only[if_neg hne']at hd'
   exact hi.inj i j en en' b c m c' m' h4 h4' hl hl' hd hd'
section
variable {P : Program} {ops : Array Oper} {base : Nat} {md : Region.Mode}
theorem e0w: ∀(wr:List (Nat×Ent)) (H:a0o),(b0H H wr).length=H.length
 | [],H=>rfl
 |(i,en)::r,H=>by simp[b0H,e0w r]
theorem m0e: ∀(wr:List (Nat×Ent)) (H:a0o),(∀x∈wr,x.1<H.length)→b0M H wr=b0H H wr
 | [],H,_=>rfl
 |(i,en)::r,H,h=>by
  simp only[b0M,b0H]
  have hi:=h (i,en) (ar ..)
  have:g0w H i en=H.set i en:=by unfold g0w;rw[if_pos hi]
  rw[this]
  exact m0e r _ (fun x hx=>by rw[List.length_set];exact h x (ao _ hx))
theorem k0p: ∀(wr:List (Nat×Ent)) (H:a0o) (i:Nat),i∉wr.map Prod.fst→(b0H H wr)[i]?=H[i]?
 | [],H,i,_=>rfl
 |(j,en)::r,H,i,h=>by
  simp only[ah,aG,not_or]at h
  simp only[b0H]
  rw[k0p r _ i h.2,aQ,if_neg (Ne.symm h.1)]
theorem o0U: ∀(wr:List (Nat×Ent)) (H:a0o) (i:Nat) (en:Ent),i∉wr.map Prod.fst→b0H (H.set i en) wr=(b0H H wr).set i en
 | [],H,i,en,_=>rfl
 |(j,en')::r,H,i,en,h=>by
  simp only[ah,aG,not_or]at h
  simp only[b0H]
  rw[List.set_comm _ _ h.1,o0U r _ i en h.2]
theorem o0x: ∀(w1 w2:List (Nat×Ent)) (H:a0o),(∀x∈w1.map Prod.fst,x∉w2.map Prod.fst)→b0H (b0H H w1) w2=b0H (b0H H w2) w1
 | [],w2,H,_=>rfl
 |(i,en)::r,w2,H,h=>by
  simp only[b0H]
  have h1:=h i (by simp)
  rw[o0x r w2 _ (fun x hx=>h x (by simp[hx])),o0U w2 H i en h1]
theorem u0C {r1 w1 r2 w2:List Nat} (h:s0J r1 w1 r2 w2=true):(∀x∈w1,x∉r2∧x∉w2)∧ ∀x∈w2,x∉r1∧x∉w1:=by
 simp only[s0J,ac,List.all_eq_true,Bool.not_eq_true',List.contains_eq_mem,decide_eq_false_iff_not]at h
 exact⟨fun x hx=>h.1 x hx,fun x hx=>⟨h.2 x hx,fun h1=>(h.1 x h1).2 hx⟩⟩
theorem s0X {ρ:Env} {d:Option Tmp} {v:SV} {x:Operand} (h: ∀t,d=some t→x≠ .tmp t):a0Y (k0U ρ d v) x=a0Y ρ x:=by
 cases d with
 |none=>rfl
 |some t=>
  cases x with
  |tmp u=>
   have hne:u≠t:=fun e=>h t rfl (by rw[e])
   simp[a0Y,k0U,upd,hne]
  |_=>rfl
theorem p0f {o:Oper} {ρ:Env} {d:Option Tmp} {v:SV} (h: ∀t,d=some t→t∉o.looksAt ops):c0P ops (k0U ρ d v) o=c0P ops ρ o:=by
 unfold c0P
 cases hg:o.guard with
 |none=>rfl
 |some p=>
  obtain⟨j,want⟩:=p
  simp only
  cases hd:(ops[j]?).bind (·.dst)with
  |none=>rfl
  |some e=>
   simp only
   cases d with
   |none=>rfl
   |some t=>
    have hne:e≠t:=fun he=>h t rfl (by
     unfold Oper.looksAt
     rw[hg]
     simp only[hd]
     exact au.2 (.inr (by simp[he])))
    simp[k0U,upd,hne]
theorem r0Q {o:Oper} {ρ:Env} {H:a0o} {idx:Nat} {ef:Eff} (hs:i0u o=true)(he:a0Z P o ρ H idx=some ef)(x:Nat):m0k ((b0H H ef.wr)[x]?) (H[x]?):=by
 unfold i0u at hs
 split at hs
 ·rename_i t a b ho
  unfold a0Z at he
  split at he
  ·cases he;exact .inl rfl
  ·simp only[a0w,ho]at he
   split at he
   ·rename_i i off ps h1 h2
    split at he
    ·rename_i en hH
     split at he
     ·rename_i cs hcs
      split at he
      ·cases he
       simp only[b0H]
       rw[aQ]
       by_cases hxi:i=x
       ·subst hxi
        have hil:=(ab.1 hH).1
        rw[if_pos rfl,if_pos hil,hH]
        cases en with
        |vec n k e cs0=>exact .inr (.inl ⟨n,k,e,_,cs0,rfl,rfl⟩)
        |box cs0=>exact .inr (.inr ⟨_,cs0,rfl,rfl⟩)
        |res=>simp[d0E]at hcs
        |gone=>simp[d0E]at hcs
        |map es=>simp[d0E]at hcs
        |itr m n s=>simp[d0E]at hcs
        |pmap es=>simp[d0E]at hcs
       ·rw[if_neg hxi];exact .inl rfl
      ·cases he
     ·cases he
    ·cases he
   ·cases he
 ·cases hs
theorem l0K {o:Oper} {t:Tmp} (h:t∉o.looksAt ops) {x:Operand} (hx:x∈o.op.operands):x≠ .tmp t:=by
 intro e
 subst e
 refine h (au.2 (.inl (List.mem_filterMap.2 ⟨.tmp t,aS.2 hx,rfl⟩)))
theorem h0w {o:Oper} {ρ ρ':Env} (h: ∀x∈o.op.operands,a0Y ρ x=a0Y ρ' x):g0s ρ o=g0s ρ' o:=by
 unfold g0s
 split
 ·rename_i c ho
  unfold n0u
  split
  ·rename_i f hf
   rw[h f (by simp[ho,Op.operands,Call.operands,hf])]
   rw[m0w c.args.toList (fun x hx=>h x (by simp only[ho,Op.operands,Call.operands];exact bS.2 (.inr (aS.1 hx))))]
  ·rfl
 ·rfl
theorem h0R {o:Oper} (h:c0B o=true):h0z o=false:=by
 unfold c0B at h
 unfold h0z
 split at h
 ·rename_i c ho
  split at h
  ·rename_i f hf
   simp[ho,hf]
  ·cases h
 ·cases h
theorem m0C {o:Oper} (h:d0F o=true):h0z o=false:=by
 unfold d0F at h
 unfold h0z
 cases ho:o.op<;>rw[ho]at h<;>simp only at h⊢ <;>first|rfl|(cases h;done)|skip
 rename_i c
 split at h<;>rename_i hc<;>first|(cases h;done)|simp[hc]
theorem i0m {o:Oper} (h:d0F o=true):i0u o=false:=by
 unfold d0F at h
 unfold i0u
 cases ho:o.op<;>rw[ho]at h<;>simp only at h⊢ <;>first|rfl|(cases h;done)
theorem o0N {o:Oper} (h:c0B o=true):i0u o=false:=i0m (k0m h)
theorem q0U {i:Nat} {o:Oper} {ρ:Env} {H:a0o} {ef:Eff} (h:opD P ops base i o ρ H ef):
  (∀x,2*x∉i0H ops base i o ef→(b0H H ef.wr)[x]?=H[x]?)∧ ∀x,2*x+1∉i0H ops base i o ef→m0k ((b0H H ef.wr)[x]?) (H[x]?):=by
 refine⟨fun x hx=>k0p _ _ _ (fun hm=>hx (w0m hm)),fun x hx=> ?_⟩
 cases hst:i0u o with
 |false=>exact .inl (k0p _ _ _ (fun hm=>hx (A0I hst hm)))
 |true=>
  unfold opD at h
  split at h
  ·split at h
   ·rename_i hc
    rw[o0N hc]at hst;cases hst
   ·rcases h.1 with h1|h1
    ·exact r0Q hst h1 x
    ·rw[i0m h1.2]at hst;cases hst
  ·subst h;exact .inl rfl
  ·exact h.elim
theorem q0T {i:Nat} {o:Oper} {ρ ρ':Env} {H H':a0o} {ef:Eff} (hv: ∀x∈o.op.operands,a0Y ρ x=a0Y ρ' x)(hg:c0P ops ρ o=c0P ops ρ' o)(hl:H'.length=H.length)
  (hA: ∀x,2*x∈k0H o ef∨2*x∈i0H ops base i o ef→H'[x]?=H[x]?) (hB: ∀x,2*x+1∈k0H o ef→m0k (H'[x]?) (H[x]?)) (h:opD P ops base i o ρ H ef):opD P ops base i o ρ' H' ef:=by
 unfold opD at h⊢
 rw[←hg]
 split
 ·rename_i hgt
  rw[hgt]at h
  simp only at h
  split
  ·rename_i hc
   rw[if_pos hc]at h
   rcases h with h|h|h|h
   ·obtain⟨f,args,g,args0,H0,v0,h1,h2,h3,h4,h5,h6,h7,h8⟩:=h
    refine .inl ⟨f,args,g,args0,H0,v0,by rw[←h0w hv];exact h1,h2,⟨fun j en hj=> ?_,h3.inj,h3.refs⟩,h4,h5,h6,h7,h8⟩
    rw[hA (g j) (.inl (n0T (h0R hc) (by rw[h8];exact aK.2 ⟨j,bf.2 (ab.1 hj).1,rfl⟩)))]
    exact h3.get j en hj
   ·obtain⟨f,args,v0,en0,h1,h2,h3,⟨h4,hE⟩,h5⟩:=h
    refine .inr (.inl ⟨f,args,v0,en0,by rw[←h0w hv];exact h1,h2,h3,⟨?_,hE⟩,h5⟩)
    rw[hA _ (.inr (w0n (k0m hc)))]
    exact h4
   ·obtain⟨f,args,g,args0,H0,v0,H0',h1,h2,h3,h4,h5,h6,h7,hl2,hr2,h8⟩:=h
    refine .inr (.inr (.inl ⟨f,args,g,args0,H0,v0,H0',by rw[←h0w hv];exact h1,h2,⟨fun j en hj=> ?_,h3.inj,h3.refs⟩,h4,h5,h6,h7,hl2,hr2,h8⟩))
    rw[hA (g j) (.inl (n0T (h0R hc) (by rw[h8];exact aK.2 ⟨j,bf.2 (ab.1 hj).1,rfl⟩)))]
    exact h3.get j en hj
   ·obtain⟨f,args,g,args0,H0,v0,H0',h1,h2,h3,h4,h5,h7,hl2,hres,h8⟩:=h
    refine .inr (.inr (.inr ⟨f,args,g,args0,H0,v0,H0',by rw[←h0w hv];exact h1,h2,⟨fun j en hj=> ?_,h3.inj,h3.refs⟩,h4,h5,h7,hl2, ?_,h8⟩))
    ·rw[hA (g j) (.inl (n0T (h0R hc) (by rw[h8];exact aK.2 ⟨j,bf.2 (ab.1 hj).1,rfl⟩)))]
     exact h3.get j en hj
    ·rw[hA _ (.inr (w0n (k0m hc)))]
     exact hres
  ·rename_i hc
   rw[if_neg hc]at h
   obtain⟨h1,h2,h3⟩:=h
   refine⟨h1.imp (fun h1=> ?_) (fun h1=>⟨v0E hv h1.1 hl (fun x hx=>hA x (.inl (n0T (m0C h1.2) hx))),h1.2⟩),fun hcr=> ?_,fun x hx=>by rw[hl];exact h3 x hx⟩
   ·cases hso:h0z o with
    |true=>exact q0S hso hv h1 (fun x hx=>hB x (A0q hx))
    |false=>exact j0N hv h1 (fun x hx=>hA x (.inl (n0T hso hx)))
   ·rw[hA _ (.inr (w0n hcr))]
    exact h2 hcr
 ·rename_i hgf
  rw[hgf]at h
  exact h
 ·rename_i hgn
  rw[hgn]at h
  exact h
theorem x0E {ρ:Env} {d e:Option Tmp} {u v:SV} (h: ∀t,d=some t→e≠some t):k0U (k0U ρ d u) e v=k0U (k0U ρ e v) d u:=by
 cases d with
 |none=>rfl
 |some t=>
  cases e with
  |none=>rfl
  |some s=>
   have hne:t≠s:=fun he=>h t rfl (by rw[he])
   funext i
   simp only[k0U,upd]
   split
   ·rename_i h1;subst h1;rw[if_neg (Ne.symm hne)]
   ·rfl
def B0b(P:Program)(md:Region.Mode)(ops:Array Oper)(base:Nat)(effs:List Eff)(K:Env→a0o→Prop):Nat→Array Bool→Env→a0o→Prop
 |0,listed,ρ,H=>Region.ready md ops listed=[]∧K ρ H
 |fuel+1,listed,ρ,H=>(Region.ready md ops listed=[]→K ρ H)∧
  ∀i∈Region.ready md ops listed,∃o ef,ops[i]?=some o∧effs[i]?=some ef∧opD P ops base i o ρ H ef∧B0b P md ops base effs K fuel (listed.setIfInBounds i true) (k0U ρ o.dst ef.v) (b0H H ef.wr)
theorem u0J {effs:List Eff} {K:Env→a0o→Prop} {i:Nat} {oi:Oper} {ei:Eff} (hi:ops[i]?=some oi)(hei:effs[i]?=some ei): ∀(fuel:Nat) (listed:Array Bool) (ρ:Env) (H:a0o),
  (∀j oj ej,ops[j]?=some oj→effs[j]?=some ej→j≠i→listed.getD j true=false→(∀e∈oj.after,Region.binds md e=true→e.on≠i)→oi.apart ops oj=true∧s0J (k0H oi ei) (i0H ops base i oi ei) (k0H oj ej) (i0H ops base j oj ej)=true)→
  i∈Region.ready md ops listed→opD P ops base i oi ρ H ei→B0b P md ops base effs K fuel (listed.setIfInBounds i true) (k0U ρ oi.dst ei.v) (b0H H ei.wr)→B0b P md ops base effs K (fuel+1) listed ρ H:=by
 intro fuel
 induction fuel with
 |zero=>
  intro listed ρ H _ hr hy h
  refine⟨fun h0=>(by rw[h0]at hr;cases hr),fun j hj=> ?_⟩
  by_cases hji:j=i
  ·subst hji;exact⟨oi,ei,hi,hei,hy,h⟩
  ·have:=ready_mono hj hji
   rw[h.1]at this
   cases this
 |succ fuel ih=>
  intro listed ρ H hfree hr hy h
  refine⟨fun h0=>(by rw[h0]at hr;cases hr),fun j hj=> ?_⟩
  by_cases hji:j=i
  ·subst hji;exact⟨oi,ei,hi,hei,hy,h⟩
  ·obtain⟨oj,ej,hoj,hej,hdj,hrest⟩:=h.2 j (ready_mono hj hji)
   obtain⟨hjun,oj',hoj',hall⟩:=mem_ready.1 hj
   rw[hoj]at hoj';cases hoj'
   have hnot: ∀e∈oj.after,Region.binds md e=true→e.on≠i:=fun e he hb heq=>by
    have h1:=hall e he hb
    have h0:=(mem_ready.1 hr).1
    rw[heq]at h1
    rcases bK i listed.size with h'|h'
    ·simp[h']at h0 h1;rw[h0]at h1;cases h1
    ·simp[Array.getElem?_eq_none h']at h1
   obtain⟨hap,hdis⟩:=hfree j oj ej hoj hej hji hjun hnot
   obtain⟨a1,a2,a3⟩:=Oper.apart_spec hap
   obtain⟨d1,d2⟩:=u0C hdis
   have hwi: ∀x,x∈ei.wr.map Prod.fst→2*x∈i0H ops base i oi ei:=fun x hx=>w0m hx
   have hwj: ∀x,x∈ej.wr.map Prod.fst→2*x∈i0H ops base j oj ej:=fun x hx=>w0m hx
   have shc: ∀ {a b:Option Ent},m0k a b→m0k b a:=fun h=>by
    rcases h with h|⟨n,k,e,c1,c2,q1,q2⟩|⟨c1,c2,q1,q2⟩
    ·exact .inl h.symm
    ·exact .inr (.inl ⟨n,k,e,c2,c1,q2,q1⟩)
    ·exact .inr (.inr ⟨c2,c1,q2,q1⟩)
   obtain⟨ki1,ki2⟩:=q0U hy
   -- j before i
   have hdj':opD P ops base j oj ρ H ej:=q0T (ρ:=k0U ρ oi.dst ei.v) (H:=b0H H ei.wr)
    (fun x hx=>s0X fun t ht=>l0K (a1 t ht) hx) (p0f a1) (by rw[e0w])
    (fun x hx=>(ki1 x (fun hm=>by
     have:=d1 _ hm
     rcases hx with hx|hx
     ·exact this.1 hx
     ·exact this.2 hx)).symm) (fun x hx=>shc (ki2 x (fun hm=>(d1 _ hm).1 hx))) hdj
   obtain⟨kj1,kj2⟩:=q0U hdj'
   have hyi':opD P ops base i oi (k0U ρ oj.dst ej.v) (b0H H ej.wr) ei:=q0T (ρ:=ρ) (H:=H)
    (fun x hx=>(s0X fun t ht=>l0K (a3 t ht) hx).symm) (p0f a3).symm (by rw[e0w])
    (fun x hx=>kj1 x (fun hm=>by
     have:=d2 _ hm
     rcases hx with hx|hx
     ·exact this.1 hx
     ·exact this.2 hx)) (fun x hx=>kj2 x (fun hm=>(d2 _ hm).1 hx)) hy
   refine⟨oj,ej,hoj,hej,hdj', ?_⟩
   refine ih (listed.setIfInBounds j true) _ _ (fun k ok ek hk hek hki hun hno=> ?_) (ready_mono hr (Ne.symm hji)) hyi' ?_
   ·refine hfree k ok ek hk hek hki ?_ hno
    by_cases hjk:j=k
    ·subst hjk;exact hjun
    ·rw[getD_set_ne true hjk]at hun;exact hun
   ·rw[Array.setIfInBounds_comm _ _ hji,←x0E (ρ:=ρ) (u:=ei.v) (v:=ej.v) a2,←o0x ei.wr ej.wr H (fun x hx hx2=>(d1 _ (hwi x hx)).2 (hwj x hx2))]
    exact hrest
theorem o0t {o:Oper} {rd fw:List Nat} : ∀(tr:List (List Nat×List Nat)) (j:Nat),i0Z o rd fw tr j=true→ ∀(k:Nat) (r' w':List Nat),tr[k]?=some (r',w')→
  (∃e∈o.after,Region.binds .any e=true∧e.on=j+k)∨s0J r' w' rd fw=true
 | [],j,_,k,r',w',hk=>by simp at hk
 |(r1,w1)::r,j,h,k,r',w',hk=>by
  simp only[i0Z,ac,ba]at h
  cases k with
  |zero=>
   simp at hk
   obtain⟨rfl,rfl⟩:=hk
   rcases h.1 with h1|h1
   ·obtain⟨e,he,hb⟩:=Array.any_eq_true'.1 h1
    simp only[ac,beq_iff_eq]at hb
    exact .inl ⟨e,he,hb.1,hb.2⟩
   ·exact .inr h1
  |succ k=>
   have:=o0t r (j+1) h.2 k r' w' (by simpa using hk)
   rw[show j+1+k=j+(k+1)from by omega]at this
   exact this
def u0A(ops:Array Oper)(base:Nat)(ds:List (Oper×Eff))(j:Nat):List (List Nat×List Nat):=
 match ds with
 | []=> []
 |(o,e)::r=>(k0H o e,i0H ops base j o e)::u0A ops base r (j+1)
theorem o0p: ∀(ds:List (Oper×Eff)) (j:Nat),(u0A ops base ds j).length=ds.length
 | [],_=>rfl
 |(o,e)::r,j=>by simp[u0A,o0p r]
theorem t0E: ∀(ds:List (Oper×Eff)) (j k:Nat) (o:Oper) (e:Eff),ds[k]?=some (o,e)→(u0A ops base ds j)[k]?=some (k0H o e,i0H ops base (j+k) o e)
 | [],j,k,o,e,h=>by simp at h
 |(o1,e1)::r,j,k,o,e,h=>by
  cases k with
  |zero=>simp at h;obtain⟨rfl,rfl⟩:=h;simp[u0A]
  |succ k=>
   have:=t0E r (j+1) k o e (by simpa using h)
   rw[show j+1+k=j+(k+1)from by omega]at this
   simpa [u0A]using this
theorem o0q: ∀(ds:List (Oper×Eff)) (j:Nat) (o:Oper) (e:Eff),u0A ops base (ds++ [(o,e)]) j=u0A ops base ds j++ [(k0H o e,i0H ops base (j+ds.length) o e)]
 | [],j,o,e=>by simp[u0A]
 |(o1,e1)::r,j,o,e=>by
  simp only[bL,u0A,aJ]
  rw[o0q r (j+1) o e,show j+1+r.length=j+(r.length+1)from by omega]
theorem q0x {K:Env→a0o→Prop} : ∀(l:List Oper) (tr:List (Oper×Eff)) (listed:Array Bool) (ρ:Env) (H:a0o),(∀j,l[j]?=ops[tr.length+j]?)→(∀(j:Nat) (o:Oper) (e:Eff),tr[j]?=some (o,e)→ops[j]?=some o)→
  (∀k,k<tr.length→listed.getD k true=true)→Region.lexFrom .any ops l.length tr.length listed=true→u0U P ops base (u0A ops base tr 0) l K ρ H→
  ∃es:List Eff,es.length=l.length∧B0b P .any ops base (tr.map Prod.snd++es) K l.length listed ρ H∧
   ∀(i j:Nat) (oi oj:Oper) (ei ej:Eff),i<j→tr.length≤j→ops[i]?=some oi→ops[j]?=some oj→(tr.map Prod.snd++es)[i]?=some ei→(tr.map Prod.snd++es)[j]?=some ej→
    (∀e∈oj.after,Region.binds .any e=true→e.on≠i)→s0J (k0H oi ei) (i0H ops base i oi ei) (k0H oj ej) (i0H ops base j oj ej)=true
 | [],tr,listed,ρ,H,hl,htr,hli,hB,h=>by
  refine⟨[],rfl,⟨by simpa [Region.lexFrom]using hB,h⟩,fun i j oi oj ei ej hij hj hoi hoj hei hej=> ?_⟩
  rw[bE,am,aw hj]at hej
  cases hej
 |o::l,tr,listed,ρ,H,hl,htr,hli,hB,h=>by
  have h0:ops[tr.length]?=some o:=by simpa using (hl 0).symm
  simp only[aJ,Region.lexFrom,ac]at hB
  obtain⟨⟨hr,hf⟩,hB'⟩:=hB
  simp only[u0U,o0p]at h
  obtain⟨ef,hy,hcomp,hK⟩:=h
  have hrd:tr.length∈Region.ready .any ops listed:=by simpa using hr
  have hlt:tr.length<listed.size:=by
   have:=(mem_ready.1 hrd).1
   rcases bK tr.length listed.size with h'|h'
   ·exact h'
   ·simp[Array.getElem?_eq_none h']at this
  have hfa:u0A ops base (tr++ [(o,ef)]) 0=u0A ops base tr 0++ [(k0H o ef,i0H ops base tr.length o ef)]:=by rw[o0q];simp
  rw[←hfa]at hK
  obtain⟨es,hes,hany,hpairs⟩:=q0x l (tr++ [(o,ef)]) (listed.setIfInBounds tr.length true) _ _ (fun j=>by
    have:=hl (j+1)
    simpa [Nat.add_assoc,Nat.add_comm 1 j]using this) (fun j o' e' hj=>by
    rw[aD]at hj
    split at hj
    ·exact htr j o' e' hj
    ·rename_i hjl
     have hz:j-tr.length=0:=by
      have:=(ab.1 hj).1
      simp at this;omega
     rw[hz]at hj
     simp at hj
     obtain⟨rfl,rfl⟩:=hj
     have:j=tr.length:=by omega
     rw[this];exact h0) (fun k hk=>by
    simp only[ag,aJ,bX]at hk
    by_cases hkt:k=tr.length
    ·subst hkt;simp[Array.getD,hlt]
    ·rw[getD_set_ne true (Ne.symm hkt)];exact hli k (by omega)) (by simpa using hB') hK
  have hfull:(tr++ [(o,ef)]).map Prod.snd++es=tr.map Prod.snd++(ef::es):=by simp
  rw[hfull]at hany hpairs
  have heft:(tr.map Prod.snd++ef::es)[tr.length]?=some ef:=by
   rw[cm (by simp)];simp
  have hall: ∀(i j:Nat) (oi oj:Oper) (ei ej:Eff),i<j→tr.length≤j→ops[i]?=some oi→ops[j]?=some oj→(tr.map Prod.snd++ef::es)[i]?=some ei→(tr.map Prod.snd++ef::es)[j]?=some ej→
    (∀e∈oj.after,Region.binds .any e=true→e.on≠i)→s0J (k0H oi ei) (i0H ops base i oi ei) (k0H oj ej) (i0H ops base j oj ej)=true:=by
   intro i j oi oj ei ej hij hj hoi hoj hei hej hno
   by_cases hjt:j=tr.length
   ·subst hjt
    rw[h0]at hoj;cases hoj
    rw[heft]at hej;cases hej
    have hti: ∃p,tr[i]?=some p:=⟨tr[i],ae hij⟩
    obtain⟨⟨o',e'⟩,hp⟩:=hti
    have h1:=htr i o' e' hp
    rw[hoi]at h1;cases h1
    rw[bQ (by simpa using hij),am,hp]at hei
    cases hei
    have hft:=t0E (ops:=ops) (base:=base) tr 0 i oi _ hp
    rcases o0t _ 0 hcomp i _ _ hft with⟨e,he,hb,hon⟩|hd
    ·exact absurd (by omega:e.on=i) (hno e he hb)
    ·rwa [aU]at hd
   ·exact hpairs i j oi oj ei ej hij (by simp;omega) hoi hoj hei hej hno
  refine⟨ef::es,by simp[hes], ?_,hall⟩
  rw[aJ]
  refine u0J h0 heft l.length listed ρ H (fun j oj ej hoj hej hji hun hno=>⟨Region.free_spec h0 hf j oj hoj hji hun hno, ?_⟩) hrd hy hany
  have hjgt:tr.length<j:=by
   rcases bK tr.length j with h'|h'
   ·exact h'
   ·have:j<tr.length:=by omega
    rw[hli j this]at hun;cases hun
  exact hall tr.length j o oj ef ej hjgt (by omega) h0 hoj heft hej hno
section
variable {F : Fr} {Q : Exit → Act → World → Prop}
theorem u0s {o:Oper} {ρ:Env} {H:a0o} (h:d0F o=false)(i j:Nat):a0Z P o ρ H i=a0Z P o ρ H j:=by
 unfold a0Z
 split
 ·rfl
 ·unfold d0F at h
  cases ho:o.op<;>rw[ho]at h<;>simp only[a0w,ho]<;>first|rfl|(cases h;done)|skip
  rename_i c
  split<;>first|rfl|(rename_i hc;simp only[hc]at h;cases h)
theorem i0T: ∀(a b:List (Nat×Ent)) (H:a0o),b0H H (a++b)=b0H (b0H H a) b
 | [],b,H=>rfl
 |(i,en)::a,b,H=>by simp only[bL,b0H];exact i0T a b _
theorem x0d {f:Nat→Nat} {H H0 H0':a0o} (hs:Sel H f H0)(hl:H0'.length=H0.length)(hr: ∀(j:Nat) (en:Ent),H0'[j]?=some en→Ent.refs H0.length en=true):d0Q f H0.length H H0'=b0H H (m0W f H0.length H0'):=by
 have key: ∀q,q≤H0.length→s0a (gOf f H0.length H.length) H0' H q=b0H H ((List.range q).map fun j=>(f j,Ent.rn f (H0'.getD j .gone))):=by
  intro q
  induction q with
  |zero=>intro _;rfl
  |succ q ih=>
   intro hq
   have hen:H0'[q]?=some (H0'[q]'(by omega)):=ae (by omega)
   have hg:gOf f H0.length H.length q=f q:=by simp[gOf,show q<H0.length by omega]
   simp only[s0a,hen]
   rw[cB,cC,i0T,←ih (by omega),hg]
   have hlt:f q<(s0a (gOf f H0.length H.length) H0' H q).length:=by
    rw[ih (by omega),e0w]
    exact hs.lt (by omega)
   simp only[ah,ay,b0H,g0w,if_pos hlt]
   rw[av,hen,bJ,r0u (f:=gOf f H0.length H.length) (g:=f) (m:=H0.length) (fun i hi=>by simp[gOf,hi]) _ (hr q _ hen)]
 unfold d0Q m0W
 rw[hl]
 exact key _ (ak _)
theorem Good.put {H0 H0':a0o} {v0:SV} {H:a0o} {f:Nat→Nat} {w w':World} {K:Nat→Nat} {D:DM} {r:Value} {idx:Nat} (hg0:Good w K (j0c D f H0.length) H0 r w' v0 H0')(hs:Sel H f H0)(hi:HInv w K D H)
  (hlive: ∀en∈H0,g0K en=true) (hl:H0'.length=H0.length+1) (hres:H[idx]?=some .res):Good w K D H r w' (SV.rn (pOf f H0.length idx) v0) (b0H H (m0W (pOf f H0.length idx) (H0.length+1) H0')):=by
 obtain⟨K',Ds',g,hi',hrep⟩:=hg0
 have hil:idx<H.length:=(ab.1 hres).1
 have hDi:D idx=none:=hi.ent idx _ hres
 have hfi: ∀j,j<H0.length→f j≠idx:=by
  intro j hj e
  have h1:=hs.get j _ (ae hj)
  rw[e,hres]at h1
  have h2:=hlive _ (bk hj)
  have h3:=aZ h1
  rw[←f0p (f:=f),←h3]at h2
  cases h2
 generalize hg:pOf f H0.length idx=gg
 have hgl: ∀j,j<H0.length→gg j=f j:=fun j hj=>by rw[←hg];simp[pOf,hj]
 have hgm:gg H0.length=idx:=by rw[←hg];simp[pOf]
 have hglt: ∀j,j<H0.length+1→gg j<H.length:=fun j hj=>by
  by_cases h:j<H0.length
  ·rw[hgl j h];exact hs.lt h
  ·rw[show j=H0.length by omega,hgm];exact hil
 have hginj: ∀i j,i<H0.length+1→j<H0.length+1→gg i=gg j→i=j:=by
  intro i j hi1 hj1 e
  by_cases h1:i<H0.length<;>by_cases h2:j<H0.length
  ·rw[hgl i h1,hgl j h2]at e;exact hs.inj i j h1 h2 e
  ·rw[hgl i h1,show j=H0.length by omega,hgm]at e;exact absurd e (hfi i h1)
  ·rw[hgl j h2,show i=H0.length by omega,hgm]at e;exact absurd e.symm (hfi j h2)
  ·omega
 have hput: ∀q,q≤H0.length+1→(∀j en,j<q→H0'[j]?=some en→(b0H H (m0W gg q H0'))[gg j]?=some (Ent.rn gg en))∧ ∀i,(∀j,j<q→gg j≠i)→(b0H H (m0W gg q H0'))[i]?=H[i]?:=by
  intro q
  induction q with
  |zero=>intro _;exact⟨fun j en h=>absurd h (Nat.not_lt_zero _),fun i _=>rfl⟩
  |succ q ih=>
   intro hq
   obtain⟨h2,h3⟩:=ih (by omega)
   have hen:H0'[q]?=some (H0'[q]'(by omega)):=ae (by omega)
   have hw:b0H H (m0W gg (q+1) H0')=(b0H H (m0W gg q H0')).set (gg q) (Ent.rn gg (H0'[q]'(by omega))):=by
    unfold m0W
    rw[cB,cC,i0T]
    simp only[ah,ay,b0H]
    rw[av,hen,bJ]
   have hlt:gg q<(b0H H (m0W gg q H0')).length:=by rw[e0w];exact hglt q (by omega)
   rw[hw]
   refine⟨fun j en hj hej=> ?_,fun i hi3=> ?_⟩
   ·by_cases hjq:j=q
    ·subst hjq
     rw[cw hlt]
     rw[hen]at hej;cases hej;rfl
    ·rw[cg (fun e=>hjq (hginj q j (by omega) (by omega) e).symm)]
     exact h2 j en (by omega) hej
   ·rw[cg (hi3 q (by omega))]
    exact h3 i fun j hj=>hi3 j (by omega)
 obtain⟨p2,p3⟩:=hput (H0.length+1) (ak _)
 -- entries that were handed v0B are somewhere
 have hsome: ∀j,j<H0.length→ ∃x,D (f j)=some x:=by
  intro j hj
  have hen:=ae hj
  have hlv:=hlive _ (bk hj)
  have he:=hi.ent _ _ (hs.get j _ hen)
  generalize H0[j]=en at hlv he
  cases en with
  |res=>cases hlv
  |gone=>cases hlv
  |box cs=>obtain⟨b,vs,e,h1,_⟩:=he;exact⟨_,h1⟩
  |vec n k e cs=>rcases he.2 with⟨h1,_⟩|⟨b,c,vs,rest,h1,_⟩<;>exact⟨_,h1⟩
  |map es=>obtain⟨r,mes,clock,h1,_⟩:=he;exact⟨_,h1⟩
  |itr i n' s=>obtain⟨r,bm,c0,h1,_⟩:=he;exact⟨_,h1⟩
  |pmap es=>obtain⟨es',r,mes,clock,_,h1,_⟩:=he;exact⟨_,h1⟩
 let D':DM:=fun i=>if i=idx then Ds' H0.length else D i
 have hDold: ∀i,i≠idx→D' i=D i:=fun i hi=>by simp[D',hi]
 have hDs: ∀j,j<H0.length→Ds' j=D (f j):=by
  intro j hj
  obtain⟨x,hx⟩:=hsome j hj
  have:j0c D f H0.length j=some x:=by simp[j0c,hj,hx]
  rw[g.dd j x this,hx]
 have hup: ∀j,j<H0.length+1→D' (gg j)=Ds' j:=by
  intro j hj1
  by_cases hj:j<H0.length
  ·rw[hgl j hj,hDold _ (hfi j hj),hDs j hj]
  ·rw[show j=H0.length by omega,hgm]
   simp[D']
 have hup2: ∀j x,Ds' j=some x→D' (gg j)=some x:=by
  intro j x hx
  by_cases hj:j<H0.length+1
  ·rw[hup j hj];exact hx
  ·rw[hi'.dom j (by omega)]at hx;cases hx
 have hdd: ∀i x,D i=some x→D' i=some x:=by
  intro i x hx
  have:i≠idx:=fun e=>by rw[e,hDi]at hx;cases hx
  rw[hDold i this];exact hx
 have hrep': ∀v s,Rep w K D v s→Rep w' K' D' v s:=fun v s h1=>h1.mono g.cells g.le hdd
 -- an entry: an old one that was not handed v0B, or one of the call's
 have hcase: ∀i en,(b0H H (m0W gg (H0.length+1) H0'))[i]?=some en→(∃j en0,H0'[j]?=some en0∧i=gg j∧en=Ent.rn gg en0)∨((∀j,j<H0'.length→gg j≠i)∧H[i]?=some en∧i≠idx):=by
  intro i en hi2
  by_cases hex: ∃j,j<H0'.length∧gg j=i
  ·obtain⟨j,hj,rfl⟩:=hex
   have hen:=ae hj
   rw[p2 j _ (by omega) hen]at hi2
   cases hi2
   exact .inl ⟨j,_,hen,rfl,rfl⟩
  ·have hno: ∀j,j<H0'.length→gg j≠i:=fun j hj e=>hex ⟨j,hj,e⟩
   rw[p3 i (fun j hj=>hno j (by omega))]at hi2
   exact .inr ⟨hno,hi2,fun e=>hno H0.length (by omega) (by rw[hgm];exact e.symm)⟩
 -- a block of the call's is old and handed v0B, or new
 have hblk: ∀j en0 b c n,H0'[j]?=some en0→g0K en0=true→Ds' j=some (.at b c n)→Mem (j0c D f H0.length) H0 b∨w.heap.size≤b:=fun j en0 b c n h1 h2 h3=>g.new b ⟨j,en0,c,n,h1,h2,h3⟩
 have hapart: ∀i en b c n,(∀j,j<H0'.length→gg j≠i)→H[i]?=some en→g0K en=true→D i=some (.at b c n)→ ¬Mem (j0c D f H0.length) H0 b∧b<w.heap.size:=by
  intro i en b c n hno hie hli hdi
  refine⟨fun⟨j,en0,c0,n0,h1,h2,h3⟩=> ?_,(i0X hi ⟨i,en,c,n,hie,hli,hdi⟩).1⟩
  have hjl:=(ab.1 h1).1
  simp only[j0c,hjl,if_true]at h3
  have:=hi.inj i (f j) en _ b c n c0 n0 hie (hs.get j en0 h1) hli (by rw[f0p];exact h2) hdi h3
  exact hno j (by omega) (by rw[hgl j hjl];exact this.symm)
 refine⟨K',D',⟨g.os,g.tape,g.output,g.size,fun b hb hm=>g.block b hb (fun h1=>hm (hs.mem h1)),g.cells,g.le,fun b hb hm=>g.kk b hb (fun h1=>hm (hs.mem h1)),hdd,fun b hm=> ?_⟩,
  ⟨fun i hil2=> ?_,fun i en hie=> ?_,fun i j en en' b c n c' n' hie hje hli hlj hdi hdj=> ?_,hi'.kw⟩, ?_⟩
 ·obtain⟨i,en,c,n,h1,h2,h3⟩:=hm
  rcases hcase i en h1 with⟨j,en0,q1,q2,q3⟩|⟨_,q2,q3⟩
  ·subst q2;subst q3
   rw[hup j (by have:=(ab.1 q1).1;omega)]at h3
   rw[f0p]at h2
   rcases hblk j en0 b c n q1 h2 h3 with h4|h4
   ·exact .inl (hs.mem h4)
   ·exact .inr h4
  ·rw[hDold i q3]at h3
   exact .inl ⟨i,en,c,n,q2,h2,h3⟩
 ·rw[e0w]at hil2
  rw[hDold i (by omega)]
  exact hi.dom i hil2
 ·rcases hcase i en hie with⟨j,en0,q1,q2,q3⟩|⟨q1,q2,q3⟩
  ·subst q2;subst q3
   exact w0z (hi'.ent j en0 q1) hup2 (fun hn=>by rw[hup j (by have:=(ab.1 q1).1;omega)];exact hn)
  ·refine(hi.ent i en q2).keep hrep' (hDold i q3) (fun b c n hlv hd=> ?_)
   obtain⟨a1,a2⟩:=hapart i en b c n q1 q2 hlv hd
   exact⟨g.block b a2 a1,g.kk b a2 a1⟩
 ·rcases hcase i en hie with⟨ji,e1,q1,q2,q3⟩|⟨q1,q2,q3⟩<;>rcases hcase j en' hje with⟨jj,e2,r1,r2,r3⟩|⟨r1,r2,r3⟩
  ·subst q2;subst q3;subst r2;subst r3
   rw[hup ji (by have:=(ab.1 q1).1;omega)]at hdi
   rw[hup jj (by have:=(ab.1 r1).1;omega)]at hdj
   rw[f0p]at hli hlj
   rw[hi'.inj ji jj e1 e2 b c n c' n' q1 r1 hli hlj hdi hdj]
  ·exfalso
   subst q2;subst q3
   rw[hup ji (by have:=(ab.1 q1).1;omega)]at hdi
   rw[f0p]at hli
   rw[hDold j r3]at hdj
   obtain⟨a1,a2⟩:=hapart j en' b c' n' r1 r2 hlj hdj
   rcases hblk ji e1 b c n q1 hli hdi with h4|h4
   ·exact a1 h4
   ·omega
  ·exfalso
   subst r2;subst r3
   rw[hup jj (by have:=(ab.1 r1).1;omega)]at hdj
   rw[f0p]at hlj
   rw[hDold i q3]at hdi
   obtain⟨a1,a2⟩:=hapart i en b c n q1 q2 hli hdi
   rcases hblk jj e2 b c' n' r1 hlj hdj with h4|h4
   ·exact a1 h4
   ·omega
  ·rw[hDold i q3]at hdi
   rw[hDold j r3]at hdj
   exact hi.inj i j en en' b c n c' n' q2 r2 hli hlj hdi hdj
 ·exact k0T hrep hup2
theorem SC.put {P:Program} {fid:FuncId} {args0:List SV} {H0:a0o} {v0:SV} {H0':a0o} (h:SC P fid args0 H0 v0 H0') {H:a0o} {f:Nat→Nat} {idx:Nat} (hs:Sel H f H0)
  (hlive: ∀en∈H0,g0K en=true) (ha:SV.refsL H0.length args0=true) (hl:H0'.length=H0.length+1) (hres:H[idx]?=some .res):
  SC P fid (SV.rnL f args0) H (SV.rn (pOf f H0.length idx) v0) (b0H H (m0W (pOf f H0.length idx) (H0.length+1) H0')):=by
 refine⟨h.1,fun w K D vals hlen hr hi hG=> ?_⟩
 refine(h.2 w K (j0c D f H0.length) vals (by rw[hlen,c0f]) (fun j x c hx hc=>f0L (hr j x (SV.rn f c) hx (by rw[e0R,hc];rfl)) c rfl (e0d ha j c hc)) (hs.hinv hi) (g0E hG)).mono ?_
 rintro e w' ⟨r,he,hg⟩
 exact⟨r,he,hg.put hs hi hlive hl hres⟩
theorem w0R {effs:List Eff} {KS:Env→a0o→Prop} (hQ: ∀ρ H a w,St F ρ H a w→KS ρ H→Q .normal a w)(hb: ∀o∈ops.toList,Oper.inB F.n ops o=true): ∀(fuel:Nat) (listed:Array Bool) (ρ:Env) (H:a0o) (a:Act) (w:World),
  St F ρ H a w→B0b P md ops base effs KS fuel listed ρ H→wpAny P md ops Q fuel listed a w:=by
 intro fuel
 induction fuel with
 |zero=>intro listed ρ H a w hst h;exact⟨h.1,hQ _ _ _ _ hst h.2⟩
 |succ fuel ih=>
  intro listed ρ H a w hst h
  refine⟨fun h0=>hQ _ _ _ _ hst (h.1 h0),fun i hi=> ?_⟩
  obtain⟨o,ef,ho,hef,hd,hrest⟩:=h.2 i hi
  have hbo:Oper.inB F.n ops o=true:=hb o (aS.2 (Array.mem_of_getElem? ho))
  obtain⟨hdef,K,D,hinv⟩:=hst
  unfold wpOp
  simp only[ho]
  unfold opD at hd
  split at hd
  ·rename_i hg
   rw[c0h hinv.slots (Oper.inB_guard hbo) hg,if_pos rfl]
   refine .inl ?_
   split at hd
   ·rename_i hc
    rcases hd with⟨f,args,g,args0,H0,v0,h1,h2,h3,h4,h5,h6,h7,h8⟩|⟨f,args,v0,en0,h1,h2,h3,⟨h4,hE⟩,h5⟩|⟨f,args,g,args0,H0,v0,H0',h1,h2,h3,h4,h5,h6,h7,hl2,hr2,h8⟩|⟨f,args,g,args0,H0,v0,H0',h1,h2,h3,h4,h5,h7,hl2,hres,h8⟩
    case inr.inr.inr=>
     subst h8
     have hfr:=SC.put h7 h3 h4 h5 hl2 hres
     rw[←h2]at hfr
     exact o0w hinv hdef (Oper.inB_op hbo) h1 hfr (fun a' w' hst'=>ih _ _ _ _ _ hst' hrest)
    case inr.inr.inl=>
     subst h8
     have hfr:=SC.frame h7 h3 h4 h5 (Nat.le_of_eq hl2.symm)
     rw[←h2,x0d h3 hl2 hr2,←g0y (f:=g) (m:=H0.length) (fun i hi=>by simp[gOf,hi]) v0 h6]at hfr
     exact o0w hinv hdef (Oper.inB_op hbo) h1 hfr (fun a' w' hst'=>ih _ _ _ _ _ hst' hrest)
    case inr.inl=>
     subst h5
     exact o0w hinv hdef (Oper.inB_op hbo) h1 (SC.place h3 h2 h4 hE) (fun a' w' hst'=>ih _ _ _ _ _ hst' hrest)
    subst h8
    have hfr:=SC.frame h7 h3 h4 h5 (ak _)
    rw[←h2]at hfr
    -- the frame leaves the entries and the value as they are
    rw[p0g h3,←g0y (f:=g) (m:=H0.length) (fun i hi=>by simp[gOf,hi]) v0 h6]at hfr
    exact o0w hinv hdef (Oper.inB_op hbo) h1 hfr (fun a' w' hst'=>ih _ _ _ _ _ hst' hrest)
   ·obtain⟨h1,h2,h3⟩:=hd
    rw[←m0e _ _ h3]at hrest
    rcases h1 with h1|h1
    case inr=>exact A0w hinv hdef (Oper.inB_op hbo) (.inr (h2 h1.2)) h1.1 fun a' w' hst'=>ih _ _ _ _ _ hst' hrest
    by_cases hcr:d0F o=true
    ·exact v0C hinv hdef (Oper.inB_op hbo) (.inr (h2 hcr)) h1 fun a' w' hst'=>ih _ _ _ _ _ hst' hrest
    ·rw[u0s (by simpa using hcr) _ H.length]at h1
     exact v0C hinv hdef (Oper.inB_op hbo) (.inl rfl) h1 fun a' w' hst'=>ih _ _ _ _ _ hst' hrest
  ·rename_i hg
   rw[c0h hinv.slots (Oper.inB_guard hbo) hg,if_neg (by simp)]
   subst hd
   exact ih _ _ _ _ _ ⟨by rw[b0D];exact hdef,K,D,t0n hinv o.dst⟩ hrest
  ·exact hd.elim
theorem Inv.reserve {w:World} {K:Nat→Nat} {D:DM} {H:a0o} {ρ:Env} {tm:Array Value} (h:Inv F w K D H ρ tm)(m:Nat):Inv F w K D (H++List.replicate m .res) ρ tm:=by
 have hget: ∀i en,(H++List.replicate m Ent.res)[i]?=some en→H[i]?=some en∨(en= .res∧H.length≤i):=by
  intro i en hi
  rw[aD]at hi
  split at hi
  ·exact .inl hi
  ·rw[List.getElem?_replicate]at hi
   split at hi<;>cases hi
   exact .inr ⟨rfl,by omega⟩
 have hmem: ∀b,Mem D (H++List.replicate m .res) b→Mem D H b:=by
  rintro b ⟨i,en,c,n,h1,h2,h3⟩
  rcases hget i en h1 with h4|⟨h4,_⟩
  ·exact⟨i,en,c,n,h4,h2,h3⟩
  ·subst h4;cases h2
 refine⟨h.slots,⟨fun i hi=>h.hinv.dom i (by simp at hi;omega),fun i en hi=> ?_,fun i j en en' b c n c' n' hi hj hl hl' hd hd'=> ?_,h.hinv.kw⟩, ?_⟩
 ·rcases hget i en hi with h4|⟨h4,h5⟩
  ·exact h.hinv.ent i en h4
  ·subst h4;exact h.hinv.dom i h5
 ·rcases hget i en hi with h4|⟨h4,_⟩
  ·rcases hget j en' hj with h5|⟨h5,_⟩
   ·exact h.hinv.inj i j en en' b c n c' n' h4 h5 hl hl' hd hd'
   ·subst h5;cases hl'
  ·subst h4;cases hl
 ·have g:=h.grow
  exact⟨g.os,g.tape,g.output,g.size,g.block,g.cells,g.le,g.kk,g.dd,fun b hm=>g.new b (hmem b hm)⟩
def k0w(ops:Array Oper):Nat:=(ops.toList.filter d0F).length
theorem s0I {KS:Env→a0o→Prop} (hm:P.follows .mixedOrders=true)(hB:Region.lexB .any ops=true)(hQ: ∀ρ H a w,St F ρ H a w→KS ρ H→Q .normal a w)(hb: ∀o∈ops.toList,Oper.inB F.n ops o=true) {id:Nat} {ρ:Env} {H:a0o} {a:Act} {w:World}
  (hst:St F ρ H a w) (h:u0U P ops H.length [] ops.toList KS ρ (H++List.replicate (k0w ops) .res)):(Code.region id ops true).wp P Q a w:=by
 simp only[Region.lexB,ac]at hB
 obtain⟨hd,K,D,hinv⟩:=hst
 refine wp_region_any hm ?_
 obtain⟨es,_,hany,_⟩:=q0x (base:=H.length) ops.toList [] (Array.replicate ops.size false) ρ _ (by simp) (fun j o e hj=>by simp at hj) (fun k hk=>absurd hk (Nat.not_lt_zero _)) (by simpa using hB.2) h
 have hinv':=hinv.reserve (k0w ops)
 have hdrew:Inv F w.drew K D (H++List.replicate (k0w ops) .res) ρ a.tmps:=⟨hinv'.slots.mono fun _ _=>World.drew_rep,hinv'.hinv.drew,hinv'.grow.trans (Grow.drew _ _ _ _)⟩
 exact w0R hQ hb ops.size _ ρ _ a _ ⟨hd,K,D,hdrew⟩ (by simpa using hany)
end
end
end Go.Sy
