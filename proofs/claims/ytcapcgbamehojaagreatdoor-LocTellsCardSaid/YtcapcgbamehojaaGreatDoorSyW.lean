/-
 The second shadow machine, part 11a: what an operation makes is settled at once.
-/
import Derived.Test.YtcapcgbamehojaaGreatDoorSyK
namespace Go.Sy
open Go Go.RowKit
set_option linter.unusedVariables false
set_option linter.unusedSimpArgs false
set_option linter.unusedSectionVars false
variable [Inhabited GT]
theorem Good.freeze {w:World} {K:Nat→Nat} {D:DM} {H H':a0o} {r:Value} {w':World} {i n k e:Nat} {cs:List SV} (hg:Good w K D H r w' (.vc i) H')(hi:H'[i]?=some (.vec n k e cs)):Good w K D H r w' (.lst n k cs) (H'.set i .gone):=by
 obtain⟨K1,D1,g,hv,hr⟩:=hg
 have hil:i<H'.length:=(ab.1 hi).1
 obtain⟨hp,hent⟩:=hv.ent i _ hi
 have hget: ∀j en,(H'.set i .gone)[j]?=some en→(j=i∧en= .gone)∨(j≠i∧H'[j]?=some en):=by
  intro j en hj
  rw[aQ]at hj
  by_cases hji:i=j
  ·subst hji
   rw[if_pos rfl,if_pos hil]at hj
   cases hj
   exact .inl ⟨rfl,rfl⟩
  ·rw[if_neg hji]at hj
   exact .inr ⟨Ne.symm hji,hj⟩
 have key: ∃K':Nat→Nat,(∀b,K1 b≤K' b)∧(∀v,Rep w' K1 D1 v (.vc i)→Rep w' K' D1 v (.lst n k cs))∧(∀b,K' b≠K1 b→Mem D1 H' b)∧(∀j en b c n',j≠i→H'[j]?=some en→g0K en=true→D1 j=some (.at b c n')→K' b=K1 b):=by
  rcases hent with⟨h1,h2,h3⟩|⟨b,c,vs,rest,h1,h2,h3,h4,h5,h6,h7,h8,h9⟩
  ·subst h2;subst h3
   refine⟨K1,fun _=>ak _,fun v hv=> ?_,fun b hb=>absurd rfl hb,fun _ _ _ _ _ _ _ _ _=>rfl⟩
   cases hv with
   |vcn _ ad hd=>exact .emp _ _ _
   |vc _ b c n hd=>rw[h1]at hd;cases hd
  ·have hmono: ∀b',K1 b'≤(if b'=b then n*k else K1 b'):=fun b'=>by
    split
    ·rename_i e1;subst e1;omega
    ·exact ak _
   refine⟨fun b'=>if b'=b then n*k else K1 b',hmono,fun v hv=> ?_,fun b' hb'=> ?_,fun j en b' c' n' hji hj hl hdj=> ?_⟩
   ·cases hv with
    |vcn _ ad hd=>rw[h1]at hd;cases hd
    |vc _ b' c' n' hd=>
     rw[h1]at hd;cases hd
     have hrow:=f0v h6 h9
     have hm: ∀v s,Rep w' K1 D1 v s→Rep w' (fun b'=>if b'=b then n*k else K1 b') D1 v s:=fun v s hr=>hr.mono (fun _ _ _=>rfl) hmono (fun _ _ e=>e)
     exact .lst k b 0 n c vs cs h3 h7 h9.len h4 hrow.mem (by simp[h7]) h9.one hp (fun j v c hv hc=>hm _ _ (h9.rep j v c hv hc))
   ·have:b'=b:=by
     rcases Nat.decEq b' b with hne|he
     ·exact absurd (if_neg hne) hb'
     ·exact he
    subst this
    exact⟨i,_,c,n,hi,rfl,h1⟩
   ·refine if_neg fun e1=> ?_
    subst e1
    exact hji (hv.inj j i en _ b' c' n' c n hj hi hl rfl hdj h1)
 obtain⟨K',k1,k2,k3,k4⟩:=key
 have hm: ∀v s,Rep w' K1 D1 v s→Rep w' K' D1 v s:=fun v s hr=>hr.mono (fun _ _ _=>rfl) k1 (fun _ _ e=>e)
 have hmem: ∀b,Mem D1 (H'.set i .gone) b→Mem D1 H' b:=by
  rintro b ⟨j,en,c,n',q1,q2,q3⟩
  rcases hget j en q1 with⟨_,rfl⟩|⟨_,g1⟩
  ·cases q2
  ·exact⟨j,en,c,n',g1,q2,q3⟩
 refine⟨K',D1,⟨g.os,g.tape,g.output,g.size,g.block,g.cells,fun b=>aV (g.le b) (k1 b),fun b hb hmm=> ?_,g.dd,fun b hmm=>g.new b (hmem b hmm)⟩,
  ⟨fun j hj=>hv.dom j (by simpa using hj),fun j en hj=> ?_,fun j j' en en' b c n1 c' n1' hj hj' hl hl' hdj hdj'=> ?_,fun b hb=> ?_⟩,k2 _ hr⟩
 ·by_cases hbb:K' b=K1 b
  ·rw[hbb];exact g.kk b hb hmm
  ·rcases g.new b (k3 b hbb)with q|q
   ·exact absurd q hmm
   ·omega
 ·rcases hget j en hj with⟨_,rfl⟩|⟨hne,g1⟩
  ·trivial
  ·exact(hv.ent j en g1).keep hm rfl (fun b c n' hl hd=>⟨rfl,k4 j en b c n' hne g1 hl hd⟩)
 ·rcases hget j en hj with⟨_,rfl⟩|⟨_,g1⟩
  ·cases hl
  ·rcases hget j' en' hj' with⟨_,rfl⟩|⟨_,g1'⟩
   ·cases hl'
   ·exact hv.inj j j' en en' b c n1 c' n1' g1 g1' hl hl' hdj hdj'
 ·by_cases hbb:K' b=K1 b
  ·rw[hbb]at hb;exact hv.kw b hb
  ·exact(i0X hv (k3 b hbb)).1
def o0n(ef:Eff)(idx:Nat)(H:a0o):Option Eff:=
 match ef.v,ef.wr.getLast? with
 | .vc j,some (i, .vec n k e cs)=>if i=idx∧j=idx∧idx<H.length then some ⟨.lst n k cs,ef.rd,ef.wr++ [(idx, .gone)]⟩else none
 |_,_=>none
def j0O(P:Program)(o:Oper)(ρ:Env)(H:a0o)(idx:Nat):Option Eff:=
 match a0Z P o ρ H idx with
 |some ef=>o0n ef idx H
 |none=>none
theorem i0S: ∀(a b:List (Nat×Ent)) (H:a0o),b0M H (a++b)=b0M (b0M H a) b
 | [],b,H=>rfl
 |(i,en)::a,b,H=>by simp only[bL,b0M];exact i0S a b _
theorem r0V(H:a0o)(i:Nat)(en:Ent):H.length≤(g0w H i en).length:=by
 unfold g0w;split<;>simp
theorem i0R: ∀(a:List (Nat×Ent)) (H:a0o),H.length≤(b0M H a).length
 | [],H=>ak _
 |(i,en)::a,H=>aV (r0V H i en) (i0R a _)
section
variable {P : Program} {n : Nat} {w : World} {K : Nat → Nat} {D : DM} {H : a0o} {ρ : Env} {a : Act} {o : Oper} {idx : Nat}
theorem v0D(h:HInv w K D H)(hs:Slots n w K D ρ a.tmps)(hb:Op.inB n o.op=true)(hidx:CanNew H idx) {ef:Eff} (he:j0O P o ρ H idx=some ef):n0w P w K D H o a ef.v (b0M H ef.wr):=by
 unfold j0O at he
 split at he
 ·rename_i ef0 h0
  unfold o0n at he
  split at he
  ·rename_i j i m k e cs hv hlast
   split at he
   ·rename_i hc
    obtain⟨e1,e2,hlt⟩:=hc
    cases he
    obtain⟨r,w',hrun,hg⟩:=t0p h hs hb hidx h0
    rw[hv,e2]at hg
    rw[e1]at hlast
    have hwr: ∃q,ef0.wr=q++ [(idx, .vec m k e cs)]:=by
     obtain⟨q,hq⟩:=List.getLast?_eq_some_iff.1 hlast
     exact⟨q,hq⟩
    obtain⟨q,hwr⟩:=hwr
    have hHl:idx<(b0M H ef0.wr).length:=aT hlt (i0R _ _)
    have hget:(b0M H ef0.wr)[idx]?=some (.vec m k e cs):=by
     rw[hwr,i0S]
     have hl2:idx<(b0M H q).length:=aT hlt (i0R _ _)
     simp only[b0M,g0w,if_pos hl2]
     rw[aQ,if_pos rfl,if_pos hl2]
    refine⟨r,w',hrun, ?_⟩
    rw[i0S]
    simp only[b0M,g0w,if_pos hHl]
    exact hg.freeze hget
   ·cases he
  ·cases he
 ·cases he
theorem v0E {ρ':Env} {H':a0o} {ef:Eff} (h: ∀x∈o.op.operands,a0Y ρ x=a0Y ρ' x)(he:j0O P o ρ H idx=some ef)(hl:H'.length=H.length)(hr: ∀i∈ef.rd,H'[i]?=H[i]?):j0O P o ρ' H' idx=some ef:=by
 unfold j0O at he⊢
 split at he
 ·rename_i ef0 h0
  have hrd:ef0.rd=ef.rd:=by
   unfold o0n at he
   split at he
   ·split at he<;>cases he
    rfl
   ·cases he
  rw[j0N h h0 (by rw[hrd];exact hr)]
  simp only
  unfold o0n at he⊢
  rw[hl]
  exact he
 ·cases he
end
section
variable {P : Program} {F : Fr} {w : World} {K : Nat → Nat} {D : DM} {H : a0o} {ρ : Env} {a : Act} {o : Oper} {Q : Exit → Act → World → Prop}
theorem A0w(h:Inv F w K D H ρ a.tmps)(hd:a.defers=F.ds)(hb:Op.inB F.n o.op=true) {idx:Nat} (hidx:CanNew H idx) {ef:Eff} (he:j0O P o ρ H idx=some ef)
  {KR:Act→World→Prop} (hK: ∀a' w',St F (k0U ρ o.dst ef.v) (b0M H ef.wr) a' w'→KR a' w'):o.wp P a w KR Q:=by
 obtain⟨r,w',hrun,g⟩:=v0D h.hinv h.slots hb hidx he
 unfold Oper.wp
 rcases hrun with hrun|⟨hrun,hr⟩
 ·rw[hrun]
  exact hK _ _ ⟨by rw[b0D];exact hd,h.step g o.dst⟩
 ·rw[hrun]
  subst hr
  exact hK _ _ ⟨by rw[b0D];exact hd,h.step g o.dst⟩
end
end Go.Sy
