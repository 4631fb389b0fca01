/-
 The second shadow machine, part 15: entries frozen, made out of nothing, counted anew; lists lent to a call.
-/
import Derived.Test.YtcapcgbamehojaaGreatDoorSyN
namespace Go.Sy
open Go Go.RowKit
set_option linter.unusedSimpArgs false
set_option linter.unusedVariables false
set_option linter.unusedSectionVars false
variable [Inhabited GT]
mutual
def SV.fz(i:Nat)(s0:SV):SV→SV
 | .agg cs=> .agg (SV.fzL i s0 cs)
 | .tup cs=> .tup (SV.fzL i s0 cs)
 | .fn g a b=> .fn g (SV.fzL i s0 a) (SV.fzL i s0 b)
 | .vc j=>bif Nat.beq j i then s0 else .vc j
 | .ptr j off=> .ptr j off
 | .sl j off n k=> .sl j off n k
 | .mp j=> .mp j
 | .undef=> .undef
 | .bool b=> .bool b
 | .int k n=> .int k n
 | .str s=> .str s
 | .nl=> .nl
 | .lst n k cs=> .lst n k cs
 | .ep cs=> .ep cs
 | .nilp=> .nilp
def SV.fzL(i:Nat)(s0:SV):List SV→List SV
 | []=> []
 |c::cs=>SV.fz i s0 c::SV.fzL i s0 cs
end
theorem m0A(i:Nat)(s0:SV): ∀(cs:List SV) (j:Nat),(SV.fzL i s0 cs)[j]?=(cs[j]?).map (SV.fz i s0)
 | [],j=>by simp[SV.fzL]
 |c::cs,j=>by
  cases j with
  |zero=>simp[SV.fzL]
  |succ j=>simpa [SV.fzL]using m0A i s0 cs j
theorem g0L(i:Nat)(s0:SV): ∀(cs:List SV),(SV.fzL i s0 cs).length=cs.length
 | []=>rfl
 |c::cs=>by simp[SV.fzL,g0L i s0 cs]
def Ent.fz(i:Nat)(s0:SV):Ent→Ent
 | .box cs=> .box (SV.fzL i s0 cs)
 |e=>e
section
variable {w : World} {K K' : Nat → Nat} {D : DM}
theorem y0n {i:Nat} {s0:SV} (hm: ∀v s,Rep w K D v s→Rep w K' D v s)(h0: ∀v,Rep w K D v (.vc i)→Rep w K' D v s0) {v:Value} {s:SV} (h:Rep w K D v s):Rep w K' D v (SV.fz i s0 s):=by
 induction h with
 |undef v=>exact .undef _
 |bool b=>exact .bool _
 |int k n=>exact .int _ _
 |str sb=>exact .str _
 |nl a=>exact .nl _
 |emp k a cap=>exact .emp _ _ _
 |lst k b off len cap vs cs hk hl hc hcap hmm hK h1 hp h _=>exact hm _ _ (.lst k b off len cap vs cs hk hl hc hcap hmm hK h1 hp h)
 |ep b off vs cs hc hmm hK h1 hp h _=>exact hm _ _ (.ep b off vs cs hc hmm hK h1 hp h)
 |agg vs cs hc h1 _ ih=>
  refine .agg vs _ (by rw[g0L,hc]) h1 (fun j v c hv hcc=> ?_)
  rw[m0A]at hcc
  cases hx:cs[j]? with
  |none=>rw[hx]at hcc;cases hcc
  |some x=>rw[hx]at hcc;cases hcc;exact ih j v x hv hx
 |tup vs cs hc _ ih=>
  refine .tup vs _ (by rw[g0L,hc]) (fun j v c hv hcc=> ?_)
  rw[m0A]at hcc
  cases hx:cs[j]? with
  |none=>rw[hx]at hcc;cases hcc
  |some x=>rw[hx]at hcc;cases hcc;exact ih j v x hv hx
 |ptr i off b c n hd=>exact .ptr _ _ b c n hd
 |vcn j a hd=>
  simp only[SV.fz]
  cases hb:Nat.beq j i with
  |true=>have:=af hb;subst this;exact h0 _ (.vcn _ a hd)
  |false=>exact .vcn _ a hd
 |vc j b c n hd=>
  simp only[SV.fz]
  cases hb:Nat.beq j i with
  |true=>have:=af hb;subst this;exact h0 _ (.vc _ b c n hd)
  |false=>exact .vc _ b c n hd
 |sl i off n k b c m' cap hd hn=>exact .sl _ _ _ _ b c m' cap hd hn
 |mp i r c n hd=>exact .mp _ r c n hd
 |fn q fs caps gs dcs hc hd _ _ ih ih'=>
  refine .fn q fs caps _ _ (by rw[g0L,hc]) (by rw[g0L,hd]) (fun j v c hv hcc=> ?_) (fun j v c hv hcc=> ?_)
  ·rw[m0A]at hcc
   cases hx:gs[j]? with
   |none=>rw[hx]at hcc;cases hcc
   |some x=>rw[hx]at hcc;cases hcc;exact ih j v x hv hx
  ·rw[m0A]at hcc
   cases hx:dcs[j]? with
   |none=>rw[hx]at hcc;cases hcc
   |some x=>rw[hx]at hcc;cases hcc;exact ih' j v x hv hx
 |nilp=>exact .nilp
theorem y0B {i j:Nat} {s0:SV} {en:Ent} (hr: ∀v s,Rep w K D v s→Rep w K' D v (SV.fz i s0 s))(hp: ∀v s,Rep w K D v s→Rep w K' D v s)(h:EntOk w K D j en)
  (hK: ∀b c n,g0K en=true→D j=some (.at b c n)→K' b=K b):EntOk w K' D j (Ent.fz i s0 en):=by
 cases en with
 |res=>exact h
 |gone=>trivial
 |box cs=>
  obtain⟨b,vs,e,h1,h2,h3,h4⟩:=h
  refine⟨b,vs,e,h1,by rw[hK b 0 0 rfl h1];exact h2,h3,⟨by rw[g0L,h4.len],h4.one,fun j v c hv hc=> ?_⟩⟩
  rw[m0A]at hc
  cases hx:cs[j]? with
  |none=>rw[hx]at hc;cases hc
  |some x=>rw[hx]at hc;cases hc;exact hr _ _ (h4.rep j v x hv hx)
 |vec n k e cs=>exact h.keep (w':=w) hp rfl (fun b c n' hl hd=>⟨rfl,hK b c n' hl hd⟩)
 |map es=>exact h.keep (w':=w) hp rfl (fun b c n' hl hd=>⟨rfl,hK b c n' hl hd⟩)
 |pmap es=>exact h.keep (w':=w) hp rfl (fun b c n' hl hd=>⟨rfl,hK b c n' hl hd⟩)
 |itr m n s=>exact h.keep (w':=w) hp rfl (fun b c n' hl hd=>⟨rfl,hK b c n' hl hd⟩)
theorem m0z {i:Nat} {s0:SV} (en:Ent):g0K (Ent.fz i s0 en)=g0K en:=by cases en<;>rfl
end
def fzE(i:Nat)(s0:SV)(L:LE):LE:=L.map fun p=>(p.1,SV.fz i s0 p.2)
theorem v0T(i:Nat)(s0:SV): ∀(L:LE) (t:Nat),lk (fzE i s0 L) t=SV.fz i s0 (lk L t)
 | [],t=>rfl
 |(j,v)::r,t=>by
  simp only[fzE,ah,lk]
  cases Nat.beq t j with
  |true=>rfl
  |false=>exact v0T i s0 r t
def fzH(i:Nat)(s0:SV)(H:a0o):a0o:=(H.map (Ent.fz i s0)).set i .gone
section
variable {F : Fr} {P : Program} {L : LE} {H : a0o}
theorem Wk.freeze(i:Nat) {n k:Nat} {e:TypeId} {cs:List SV} (hi:H[i]?=some (.vec n k e cs)):Wk F L H (fzE i (.lst n k cs) L) (fzH i (.lst n k cs) H):=by
 intro a w hs
 obtain⟨hd,K,D,h⟩:=hs
 have hil:i<H.length:=(ab.1 hi).1
 obtain⟨hp,hent⟩:=h.hinv.ent i _ hi
 have hget: ∀j en,(fzH i (.lst n k cs) H)[j]?=some en→(j=i∧en= .gone)∨(j≠i∧ ∃en0,H[j]?=some en0∧en=Ent.fz i (.lst n k cs) en0):=by
  intro j en hj
  unfold fzH at hj
  rw[aQ]at hj
  by_cases hji:i=j
  ·subst hji
   rw[if_pos rfl]at hj
   split at hj<;>cases hj
   exact .inl ⟨rfl,rfl⟩
  ·rw[if_neg hji,am]at hj
   cases hx:H[j]? with
   |none=>rw[hx]at hj;cases hj
   |some en0=>rw[hx]at hj;cases hj;exact .inr ⟨Ne.symm hji,en0,rfl,rfl⟩
 -- what is settled from now on
 have key: ∃K':Nat→Nat,(∀b,K b≤K' b)∧(∀v,Rep w K D v (.vc i)→Rep w K' D v (.lst n k cs))∧(∀b,K' b≠K b→Mem D H b)∧(∀j en b c n',j≠i→H[j]?=some en→g0K en=true→D j=some (.at b c n')→K' b=K b):=by
  rcases hent with⟨h1,h2,h3⟩|⟨b,c,vs,rest,h1,h2,h3,h4,h5,h6,h7,h8,h9⟩
  ·subst h2;subst h3
   refine⟨K,fun _=>ak _,fun v hv=> ?_,fun b hb=>absurd rfl hb,fun _ _ _ _ _ _ _ _ _=>rfl⟩
   cases hv with
   |vcn _ ad hd=>exact .emp _ _ _
   |vc _ b c n hd=>rw[h1]at hd;cases hd
  ·have hmono: ∀b',K b'≤(if b'=b then n*k else K b'):=fun b'=>by
    split
    ·rename_i e1;subst e1;omega
    ·exact ak _
   refine⟨fun b'=>if b'=b then n*k else K b',hmono,fun v hv=> ?_,fun b' hb'=> ?_,fun j en b' c' n' hji hj hl hdj=> ?_⟩
   ·cases hv with
    |vcn _ ad hd=>rw[h1]at hd;cases hd
    |vc _ b' c' n' hd=>
     rw[h1]at hd;cases hd
     have hrow:=f0v h6 h9
     have hm: ∀v s,Rep w K D v s→Rep w (fun b'=>if b'=b then n*k else K b') D v s:=fun v s hr=>hr.mono (fun _ _ _=>rfl) hmono (fun _ _ e=>e)
     exact .lst k b 0 n c vs cs h3 h7 h9.len h4 hrow.mem (by simp[h7]) h9.one hp (fun j v c hv hc=>hm _ _ (h9.rep j v c hv hc))
   ·have:b'=b:=by
     rcases Nat.decEq b' b with hne|he
     ·exact absurd (if_neg hne) hb'
     ·exact he
    subst this
    exact⟨i,_,c,n,hi,rfl,h1⟩
   ·refine if_neg fun e1=> ?_
    subst e1
    exact hji (h.hinv.inj j i en _ b' c' n' c n hj hi hl rfl hdj h1)
 obtain⟨K',k1,k2,k3,k4⟩:=key
 have hm: ∀v s,Rep w K D v s→Rep w K' D v s:=fun v s hr=>hr.mono (fun _ _ _=>rfl) k1 (fun _ _ e=>e)
 have hf: ∀v s,Rep w K D v s→Rep w K' D v (SV.fz i (.lst n k cs) s):=fun v s hr=>y0n hm k2 hr
 have hmem: ∀b,Mem D (fzH i (.lst n k cs) H) b→Mem D H b:=by
  rintro b ⟨j,en,c,n',q1,q2,q3⟩
  rcases hget j en q1 with⟨_,rfl⟩|⟨_,en0,g1,rfl⟩
  ·cases q2
  ·rw[m0z]at q2;exact⟨j,en0,c,n',g1,q2,q3⟩
 have g:=h.grow
 refine⟨hd,K',D,⟨⟨h.slots.size,fun t ht=> ?_,fun g cs hg=>(h.slots.glob g cs hg).mono (fun _ _ _=>rfl) k1 (fun _ _ e=>e)⟩,⟨fun j hj=>h.hinv.dom j (by unfold fzH at hj;simpa using hj),fun j en hj=> ?_,fun j j' en en' b c n1 c' n1' hj hj' hl hl' hdj hdj'=> ?_,fun b hb=> ?_⟩,
  ⟨g.os,g.tape,g.output,g.size,g.block,g.cells,fun b=>aV (g.le b) (k1 b),fun b hb hmm=> ?_,g.dd,fun b hmm=>g.new b (hmem b hmm)⟩⟩⟩
 ·show Rep w K' D _ (lk (fzE i (.lst n k cs) L) t)
  rw[v0T]
  exact hf _ _ (h.slots.rep t ht)
 ·rcases hget j en hj with⟨_,rfl⟩|⟨hne,en0,g1,rfl⟩
  ·trivial
  ·exact y0B hf hm (h.hinv.ent j en0 g1) (fun b c n' hl hdj=>k4 j en0 b c n' hne g1 hl hdj)
 ·rcases hget j en hj with⟨_,rfl⟩|⟨_,en0,g1,rfl⟩
  ·cases hl
  ·rcases hget j' en' hj' with⟨_,rfl⟩|⟨_,en0',g1',rfl⟩
   ·cases hl'
   ·rw[m0z]at hl hl'
    exact h.hinv.inj j j' en0 en0' b c n1 c' n1' g1 g1' hl hl' hdj hdj'
 ·by_cases hbb:K' b=K b
  ·rw[hbb]at hb;exact h.hinv.kw b hb
  ·exact(i0X h.hinv (k3 b hbb)).1
 ·by_cases hbb:K' b=K b
  ·rw[hbb];exact g.kk b hb hmm
  ·rcases g.new b (k3 b hbb)with q|q
   ·exact absurd q hmm
   ·omega
theorem j0w(D:DM)(i:Nat)(l:Loc):f0e D i l i=some l:=by simp[f0e]
theorem l0a(D:DM) {i j:Nat} (l:Loc)(h:j≠i):f0e D i l j=D j:=by simp[f0e,h]
theorem Wk.move(i:Nat) {n k:Nat} {e:TypeId} {cs:List SV} (hi:H[i]?=some (.vec n k e cs)):Wk F L H (fzE i (.vc H.length) L) (fzH i (.vc H.length) H++ [.vec n k e cs]):=by
 intro a w hs
 obtain⟨hd,K,D,h⟩:=hs
 have hil:i<H.length:=(ab.1 hi).1
 have hent:=h.hinv.ent i _ hi
 obtain⟨x,hx⟩: ∃x,D i=some x:=by
  rcases hent.2 with⟨h1,_⟩|⟨b,c,_,_,h1,_⟩
  ·exact⟨_,h1⟩
  ·exact⟨_,h1⟩
 have hN:D H.length=none:=h.hinv.dom _ (ak _)
 have hDD: ∀j y,D j=some y→f0e D H.length x j=some y:=fun j y hj=>by
  have:j≠H.length:=fun e1=>by rw[e1,hN]at hj;cases hj
  rw[l0a D x this];exact hj
 have hm: ∀v s,Rep w K D v s→Rep w K (f0e D H.length x) v s:=fun v s hr=>hr.mono (fun _ _ _=>rfl) (fun _=>ak _) hDD
 have h0: ∀v,Rep w K (f0e D H.length x) v (.vc i)→Rep w K (f0e D H.length x) v (.vc H.length):=fun v hv=>by
  have e1:f0e D H.length x i=some x:=hDD i x hx
  cases hv with
  |vcn _ ad hd=>rw[e1]at hd;exact .vcn _ ad (by rw[j0w];exact hd)
  |vc _ b c n hd=>rw[e1]at hd;exact .vc _ b c n (by rw[j0w];exact hd)
 have hf: ∀v s,Rep w K (f0e D H.length x) v s→Rep w K (f0e D H.length x) v (SV.fz i (.vc H.length) s):=fun v s hr=>y0n (fun _ _ h=>h) h0 hr
 have hlen:(fzH i (.vc H.length) H).length=H.length:=by simp[fzH]
 have hget: ∀j en,(fzH i (.vc H.length) H++ [.vec n k e cs])[j]?=some en→(j=i∧en= .gone)∨(j≠i∧j<H.length∧ ∃en0,H[j]?=some en0∧en=Ent.fz i (.vc H.length) en0)∨(j=H.length∧en= .vec n k e cs):=by
  intro j en hj
  rw[aD,hlen]at hj
  by_cases hjl:j<H.length
  ·rw[if_pos hjl]at hj
   unfold fzH at hj
   by_cases hji:i=j
   ·subst hji
    rw[cw (by simpa using hil)]at hj
    cases hj;exact .inl ⟨rfl,rfl⟩
   ·rw[cg hji,am]at hj
    cases hxx:H[j]? with
    |none=>rw[hxx]at hj;cases hj
    |some en0=>rw[hxx]at hj;cases hj;exact .inr (.inl ⟨Ne.symm hji,hjl,en0,rfl,rfl⟩)
  ·rw[if_neg hjl]at hj
   have hj0:j-H.length=0:=by
    have:=(ab.1 hj).1
    simp at this;omega
   rw[hj0]at hj
   simp only[bW,ai]at hj
   exact .inr (.inr ⟨by omega,hj.symm⟩)
 have hmem: ∀b,Mem (f0e D H.length x) (fzH i (.vc H.length) H++ [.vec n k e cs]) b→Mem D H b:=by
  rintro b ⟨j,en,c,n',q1,q2,q3⟩
  rcases hget j en q1 with⟨_,rfl⟩|⟨_,hjl,en0,g1,rfl⟩|⟨rfl,rfl⟩
  ·cases q2
  ·rw[m0z]at q2;rw[l0a D x (by omega)]at q3;exact⟨j,en0,c,n',g1,q2,q3⟩
  ·rw[j0w]at q3;exact⟨i,_,c,n',hi,rfl,by rw[hx];exact q3⟩
 have g:=h.grow
 refine⟨hd,K,f0e D H.length x,⟨⟨h.slots.size,fun t ht=> ?_,g0E h.slots.glob⟩,⟨fun j hj=> ?_,fun j en hj=> ?_,fun j j' en en' b c n1 c' n1' hj hj' hl hl' hdj hdj'=> ?_,fun b hb=>h.hinv.kw b hb⟩,
  ⟨g.os,g.tape,g.output,g.size,g.block,g.cells,g.le,g.kk,fun j y hj=>hDD j y (g.dd j y hj),fun b hmm=>g.new b (hmem b hmm)⟩⟩⟩
 ·show Rep w K _ _ (lk (fzE i (.vc H.length) L) t)
  rw[v0T]
  exact hf _ _ (hm _ _ (h.slots.rep t ht))
 ·rw[ag,hlen]at hj
  simp only[aJ,bX]at hj
  rw[l0a D x (by omega)];exact h.hinv.dom j (by omega)
 ·rcases hget j en hj with⟨_,rfl⟩|⟨hne,hjl,en0,g1,rfl⟩|⟨rfl,rfl⟩
  ·trivial
  ·have he0:EntOk w K (f0e D H.length x) j en0:=(h.hinv.ent j en0 g1).keep hm (l0a D x (by omega)) (fun _ _ _ _ _=>⟨rfl,rfl⟩)
   exact y0B hf (fun _ _ h=>h) he0 (fun _ _ _ _ _=>rfl)
  ·obtain⟨hp,hh⟩:=hent
   refine⟨hp, ?_⟩
   rcases hh with⟨h1,h2,h3⟩|⟨b,c,vs,rest,h1,h2,h3,h4,h5,h6,h7,h8,h9⟩
   ·exact .inl ⟨by rw[j0w,←hx];exact h1,h2,h3⟩
   ·exact .inr ⟨b,c,vs,rest,by rw[j0w,←hx];exact h1,h2,h3,h4,h5,h6,h7,h8,h9.mono hm⟩
 ·rcases hget j en hj with⟨_,rfl⟩|⟨hne,hjl,en0,g1,rfl⟩|⟨rfl,rfl⟩
  ·cases hl
  ·rw[l0a D x (by omega)]at hdj
   rw[m0z]at hl
   rcases hget j' en' hj' with⟨_,rfl⟩|⟨hne',hjl',en0',g1',rfl⟩|⟨rfl,rfl⟩
   ·cases hl'
   ·rw[l0a D x (by omega)]at hdj'
    rw[m0z]at hl'
    exact h.hinv.inj j j' en0 en0' b c n1 c' n1' g1 g1' hl hl' hdj hdj'
   ·rw[j0w,←hx]at hdj'
    exact absurd (h.hinv.inj j i en0 _ b c n1 c' n1' g1 hi hl rfl hdj hdj') hne
  ·rw[j0w,←hx]at hdj
   rcases hget j' en' hj' with⟨_,rfl⟩|⟨hne',hjl',en0',g1',rfl⟩|⟨rfl,rfl⟩
   ·cases hl'
   ·rw[l0a D x (by omega)]at hdj'
    rw[m0z]at hl'
    exact absurd (h.hinv.inj i j' _ en0' b c n1 c' n1' hi g1' rfl hl' hdj hdj').symm hne'
   ·rfl
theorem t0z {w:World} {K:Nat→Nat} {D:DM} (h:HInv w K D H)(k:Nat)(e:TypeId):Grow w K D H w K (f0e D H.length .nil) (H++ [.vec 0 k e []])∧HInv w K (f0e D H.length .nil) (H++ [.vec 0 k e []]):=by
 have:=n0Y h (idx:=H.length) (.inl rfl) none (by simp) k e
 rw[f0a]at this
 have hs:g0w H H.length (.vec 0 k e [])=H++ [.vec 0 k e []]:=by unfold g0w;rw[if_neg (Nat.lt_irrefl _)]
 rw[hs]at this
 exact this
theorem Wk.viv(t k:Nat)(e:TypeId)(ht:lk L t= .nl):Wk F L H ((t, .vc H.length)::L) (H++ [.vec 0 k e []]):=by
 intro a w hs
 obtain⟨hd,K,D,h⟩:=hs
 obtain⟨g,hi⟩:=t0z h.hinv k e
 refine⟨hd,K,_,⟨⟨h.slots.size,fun i hin=> ?_,fun gg cs hg=>g.rep (h.slots.glob gg cs hg)⟩,hi,h.grow.trans g⟩⟩
 have hr:=g.rep (h.slots.rep i hin)
 show Rep w K _ _ (lk _ i)
 simp only[lk]
 cases hb:Nat.beq i t with
 |true=>
  have:=af hb
  subst this
  rw[show b0s L i=lk L i from rfl,ht]at hr
  generalize a.tmps.getD i undef=x at hr⊢
  cases hr
  exact .vcn _ _ (by simp[f0e])
 |false=>exact hr
/-! Entries under other numbers. -/
def b0Z(σ:List Nat):Nat→Nat:=fun j=>σ.getD j 0
theorem Sel.of {H2:a0o} (σ:List Nat)(hl:σ.length=H2.length)(hg:σ.map (fun i=>H[i]?)=H2.map (fun en=>some (Ent.rn (b0Z σ) en)))(hn:σ.Nodup)(hr:H2.all (Ent.refs H2.length)=true):Sel H (b0Z σ) H2:=by
 refine⟨fun j en hj=> ?_,fun i j hi hj e=> ?_,fun j en hj=>List.all_eq_true.1 hr en (aF hj)⟩
 ·have hjl:=(ab.1 hj).1
  have h1:=congrArg (fun l=>l[j]?) hg
  simp only[am,hj,aI]at h1
  have h2:σ[j]?=some (σ[j]'(by omega)):=ae (by omega)
  rw[h2]at h1
  simp only[aI,ai]at h1
  unfold b0Z
  rw[av,h2]
  exact h1
 ·unfold b0Z at e
  rw[av,av,ae (by omega),ae (by omega)]at e
  exact(List.getElem_inj hn).1 (by simpa using e)
theorem Wk.sel {L2:LE} {H2:a0o} (m0:Nat)(hm:F.H0.length=m0)(hdom: ∀i,F.H0.length≤i→F.D0 i=none)(σ:List Nat)(hl:σ.length=H2.length)(hg:σ.map (fun i=>H[i]?)=H2.map (fun en=>some (Ent.rn (b0Z σ) en)))(hn:σ.Nodup)(hr:H2.all (Ent.refs H2.length)=true)
  (hk:σ.take m0=List.range m0) (hv:L2.map (fun p=>lk L p.1)=L2.map (fun p=>SV.rn (b0Z σ) p.2)) (hvr:L2.all (fun p=>SV.refs H2.length p.2)=true):Wk F L H L2 H2:=by
 have hsel:=Sel.of σ hl hg hn hr
 intro a w hs
 obtain⟨hd,K,D,h⟩:=hs
 have hlk: ∀(L3:LE) t,(∀p∈L3,p∈L2)→lk L3 t= .undef∨ ∃p∈L2,p.1=t∧lk L3 t=p.2:=by
  intro L3 t
  induction L3 with
  |nil=>intro _;exact .inl rfl
  |cons q r ih=>
   intro hmem
   obtain⟨j,v⟩:=q
   simp only[lk]
   cases hb:Nat.beq t j with
   |true=>have:=af hb;subst this;exact .inr ⟨(t,v),hmem _ (ar ..),rfl,rfl⟩
   |false=>exact ih fun p hp=>hmem p (ao _ hp)
 have hval: ∀p∈L2,lk L p.1=SV.rn (b0Z σ) p.2:=by
  intro p hp
  obtain⟨j,hj⟩:=be.1 hp
  have:=congrArg (fun l=>l[j]?) hv
  simpa [am,hj]using this
 have hkeep: ∀j,j<m0→b0Z σ j=j:=by
  intro j hj
  have:=congrArg (fun l=>l[j]?) hk
  simp only[aX,if_pos hj,bG hj]at this
  unfold b0Z
  rw[av,this];rfl
 have hmle:m0≤H2.length:=by
  have:=congrArg List.length hk
  simp at this;omega
 have g:=h.grow
 refine⟨hd,K,j0c D (b0Z σ) H2.length,⟨⟨h.slots.size,fun i hin=> ?_,g0E h.slots.glob⟩,hsel.hinv h.hinv,⟨g.os,g.tape,g.output,g.size,g.block,g.cells,g.le,g.kk,fun i x hx=> ?_,fun b hmm=>g.new b (hsel.mem hmm)⟩⟩⟩
 ·have hr1:=h.slots.rep i hin
  show Rep w K _ _ (lk L2 i)
  rcases hlk L2 i (fun p hp=>hp)with e|⟨p,hp,rfl,e⟩
  ·rw[e];exact .undef _
  ·rw[e]
   refine f0L hr1 p.2 (hval p hp) ?_
   exact List.all_eq_true.1 hvr p hp
 ·have hil:i<m0:=by
   rcases bK i m0 with h1|h1
   ·exact h1
   ·rw[hdom i (by omega)]at hx;cases hx
  simp only[j0c,if_pos (aT hil hmle),hkeep i hil]
  exact g.dd i x hx
end
def l0C:SV→Bool
 | .bool _=>true
 | .int _ _=>true
 | .str _=>true
 | .tup cs=>cs.all fun c=>match c with
  | .bool _=>true
  | .int _ _=>true
  | .str _=>true
  |_=>false
 |_=>false
theorem u0n {w w':World} {K K':Nat→Nat} {D D':DM} {v:Value} {s:SV} (hs:l0C s=true)(h:Rep w K D v s):Rep w' K' D' v s:=by
 cases h with
 |bool b=>exact .bool _
 |int k n=>exact .int _ _
 |str sb=>exact .str _
 |tup vs cs hc h=>
  refine .tup vs cs hc (fun j v c hv hcc=> ?_)
  have hr:=h j v c hv hcc
  simp only[l0C,List.all_eq_true]at hs
  have h1:=hs c (aF hcc)
  cases hr<;>first|(cases h1;done)|exact .bool _|exact .int _ _|exact .str _
 |_=>cases hs
mutual
def SV.fzA(H:a0o):SV→SV
 | .agg cs=> .agg (SV.fzAL H cs)
 | .tup cs=> .tup (SV.fzAL H cs)
 | .fn g a b=> .fn g (SV.fzAL H a) (SV.fzAL H b)
 | .vc j=>match H[j]? with
  |some (.vec n k _ cs)=> .lst n k cs
  |_=> .undef
 | .ptr _ _=> .undef
 | .sl _ _ _ _=> .undef
 | .mp _=> .undef
 | .undef=> .undef
 | .bool b=> .bool b
 | .int k n=> .int k n
 | .str s=> .str s
 | .nl=> .nl
 | .lst n k cs=> .lst n k cs
 | .ep cs=> .ep cs
 | .nilp=> .nilp
def SV.fzAL(H:a0o):List SV→List SV
 | []=> []
 |c::cs=>SV.fzA H c::SV.fzAL H cs
end
theorem k0z(H:a0o): ∀(cs:List SV) (j:Nat),(SV.fzAL H cs)[j]?=(cs[j]?).map (SV.fzA H)
 | [],j=>by simp[SV.fzAL]
 |c::cs,j=>by
  cases j with
  |zero=>simp[SV.fzAL]
  |succ j=>simpa [SV.fzAL]using k0z H cs j
theorem f0R(H:a0o): ∀(cs:List SV),(SV.fzAL H cs).length=cs.length
 | []=>rfl
 |c::cs=>by simp[SV.fzAL,f0R H cs]
theorem z0c {w:World} {K K':Nat→Nat} {D:DM} {H:a0o} (hm: ∀v s,s.plain=true→Rep w K D v s→Rep w K' (fun _=>none) v s)(hK: ∀b,K b≤K' b)(h0: ∀j v,Rep w K D v (.vc j)→Rep w K' (fun _=>none) v (SV.fzA H (.vc j))) {v:Value} {s:SV} (h:Rep w K D v s):
  Rep w K' (fun _=>none) v (SV.fzA H s):=by
 induction h with
 |undef v=>exact .undef _
 |bool b=>exact .bool _
 |int k n=>exact .int _ _
 |str sb=>exact .str _
 |nl a=>exact .nl _
 |emp k a cap=>exact .emp _ _ _
 |lst k b off len cap vs cs hk hl hc hcap hmm hK h1 hp h _=>exact hm _ (.lst len k cs) rfl (.lst k b off len cap vs cs hk hl hc hcap hmm hK h1 hp h)
 |ep b off vs cs hc hmm hKb h1 hp h _=>
  exact .ep b off vs cs hc hmm (aV hKb (hK b)) h1 hp (fun j v c hv hcc=>hm v c (d0I hp hcc) (h j v c hv hcc))
 |agg vs cs hc h1 _ ih=>
  refine .agg vs _ (by rw[f0R,hc]) h1 (fun j v c hv hcc=> ?_)
  rw[k0z]at hcc
  cases hx:cs[j]? with
  |none=>rw[hx]at hcc;cases hcc
  |some x=>rw[hx]at hcc;cases hcc;exact ih j v x hv hx
 |tup vs cs hc _ ih=>
  refine .tup vs _ (by rw[f0R,hc]) (fun j v c hv hcc=> ?_)
  rw[k0z]at hcc
  cases hx:cs[j]? with
  |none=>rw[hx]at hcc;cases hcc
  |some x=>rw[hx]at hcc;cases hcc;exact ih j v x hv hx
 |ptr i off b c n hd=>exact .undef _
 |vcn j a hd=>exact h0 _ _ (.vcn _ a hd)
 |vc j b c n hd=>exact h0 _ _ (.vc _ b c n hd)
 |sl i off n k b c m' cap hd hn=>exact .undef _
 |mp i r c n hd=>exact .undef _
 |fn q fs caps gs dcs hc hd _ _ ih ih'=>
  refine .fn q fs caps _ _ (by rw[f0R,hc]) (by rw[f0R,hd]) (fun j v c hv hcc=> ?_) (fun j v c hv hcc=> ?_)
  ·rw[k0z]at hcc
   cases hx:gs[j]? with
   |none=>rw[hx]at hcc;cases hcc
   |some x=>rw[hx]at hcc;cases hcc;exact ih j v x hv hx
  ·rw[k0z]at hcc
   cases hx:dcs[j]? with
   |none=>rw[hx]at hcc;cases hcc
   |some x=>rw[hx]at hcc;cases hcc;exact ih' j v x hv hx
 |nilp=>exact .nilp
open Classical in
theorem SC.lend {P:Program} {f:FuncId} {args0:List SV} {H0:a0o} {v:SV} (hv:l0C v=true)(h:SC P f (SV.fzAL H0 args0) [] v []):SC P f args0 H0 v H0:=by
 refine⟨h.1,fun w K D vals hlen hr hi hG=> ?_⟩
 -- all blocks of lists are settled for as long as the call runs
 have hmem: ∀b,Mem D H0 b→b<w.heap.size∧K b=0:=fun b hm=>i0X hi hm
 let size (b:Nat):Nat:=match w.heap[b]? with
  |some (.cells c _ _)=>c.size
  |_=>0
 let K1:Nat→Nat:=fun b=>if Mem D H0 b then size b else K b
 have hK1: ∀b,K b≤K1 b:=fun b=>by
  show K b≤if Mem D H0 b then size b else K b
  split
  ·rename_i hm;rw[(hmem b hm).2];exact co _
  ·exact ak _
 have hplain: ∀v s,s.plain=true→Rep w K D v s→Rep w K1 (fun _=>none) v s:=fun v s hp hr=>(hr.mono (K':=K1) (D':=D) (fun _ _ _=>rfl) hK1 (fun _ _ e=>e)).plain hp
 have hvec: ∀j x,Rep w K D x (.vc j)→Rep w K1 (fun _=>none) x (SV.fzA H0 (.vc j)):=by
  intro j x hx
  simp only[SV.fzA]
  split
  ·rename_i n k e cs hj
   obtain⟨hp,hent⟩:=hi.ent j _ hj
   rcases hent with⟨h1,h2,h3⟩|⟨b,c,vs,rest,h1,h2,h3,h4,h5,h6,h7,h8,h9⟩
   ·subst h2;subst h3
    cases hx with
    |vcn _ ad hd=>exact .emp _ _ _
    |vc _ b c n hd=>rw[h1]at hd;cases hd
   ·cases hx with
    |vcn _ ad hd=>rw[h1]at hd;cases hd
    |vc _ b' c' n' hd=>
     rw[h1]at hd;cases hd
     have hrow:=f0v h6 h9
     have hKb:K1 b=(vs++rest).length:=by
      show(if Mem D H0 b then size b else K b)=_
      rw[if_pos ⟨j,_,c,n,hj,rfl,h1⟩]
      show(match w.heap[b]? with|some (.cells c _ _)=>c.size|_=>0)=_
      rw[h6];simp
     exact .lst k b 0 n c vs cs h3 h7 h9.len h4 hrow.mem (by rw[hKb,ag];omega) h9.one hp (fun j v c hv hc=>hplain _ _ (d0I hp hc) (h9.rep j v c hv hc))
  ·exact .undef _
 have hi1:HInv w K1 (fun _=>none) []:=⟨fun _ _=>rfl,fun i en hj=>by simp at hj,fun i j en en' b c n c' n' hj=>by simp at hj,fun b hb=>by
  by_cases hm:Mem D H0 b
  ·exact(hmem b hm).1
  ·exact hi.kw b (by simpa [K1,hm]using hb)⟩
 refine(h.2 w K1 (fun _=>none) vals (by rw[hlen,f0R]) (fun j x c hx hc=>by
  rw[k0z]at hc
  cases hy:args0[j]? with
  |none=>rw[hy]at hc;cases hc
  |some y=>rw[hy]at hc;cases hc;exact z0c hplain hK1 hvec (hr j x y hx hy)) hi1 (g0E fun g cs hg=>(hG g cs hg).mono (K':=K1) (D':=D) (fun _ _ _=>rfl) hK1 (fun _ _ e=>e))).mono ?_
 rintro e w' ⟨r,he,K1',D1',g,hi',hrep⟩
 have nomem: ∀b,¬Mem (fun _=>none) [] b:=by rintro b ⟨i,en,c,n,h1,_⟩;simp at h1
 let K':Nat→Nat:=fun b=>if Mem D H0 b then 0 else K1' b
 have hKK: ∀b,K b≤K' b:=fun b=>by
  show K b≤if Mem D H0 b then 0 else K1' b
  split
  ·rename_i hm;rw[(hmem b hm).2];exact ak _
  ·exact aV (hK1 b) (g.le b)
 have hcells: ∀b j,j<K b→w'.cell? ⟨b,j,none⟩=w.cell? ⟨b,j,none⟩:=fun b j hj=>g.cells b j (aT hj (hK1 b))
 have hrr: ∀v s,Rep w K D v s→Rep w' K' D v s:=fun v s hr=>hr.mono hcells hKK (fun _ _ e=>e)
 refine⟨r,he,K',D,⟨g.os,g.tape,g.output,g.size,fun b hb _=>g.block b hb (nomem b),hcells,hKK,fun b hb hm=> ?_,fun _ _ e=>e,fun b hm=> .inl hm⟩,
  ⟨hi.dom,fun i en hie=>(hi.ent i en hie).keep hrr rfl (fun b c n hl hd=> ?_),hi.inj,fun b hb=> ?_⟩,u0n hv hrep⟩
 ·show(if Mem D H0 b then 0 else K1' b)=K b
  rw[if_neg hm,g.kk b hb (nomem b)]
  show(if Mem D H0 b then size b else K b)=K b
  rw[if_neg hm]
 ·have hm:Mem D H0 b:=⟨i,en,c,n,hie,hl,hd⟩
  refine⟨g.block b (hmem b hm).1 (nomem b), ?_⟩
  show(if Mem D H0 b then 0 else K1' b)=K b
  rw[if_pos hm,(hmem b hm).2]
 ·by_cases hm:Mem D H0 b
  ·exact aT (hmem b hm).1 g.size
  ·exact hi'.kw b (by simpa [K',hm]using hb)
end Go.Sy
