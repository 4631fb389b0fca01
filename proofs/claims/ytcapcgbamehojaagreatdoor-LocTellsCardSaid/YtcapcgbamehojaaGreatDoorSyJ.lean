/-
 The second shadow machine, part 10: entries under other numbers; contracts of functions, and their frame.
-/
import Derived.Test.YtcapcgbamehojaaGreatDoorSyI
namespace Go.Sy
open Go Go.RowKit
set_option linter.unusedSimpArgs false
set_option linter.unusedVariables false
set_option linter.unusedSectionVars false
variable [Inhabited GT]
mutual
def SV.rn(f:Nat→Nat):SV→SV
 | .agg cs=> .agg (SV.rnL f cs)
 | .tup cs=> .tup (SV.rnL f cs)
 | .ptr i off=> .ptr (f i) off
 | .vc i=> .vc (f i)
 | .sl i off n k=> .sl (f i) off n k
 | .mp i=> .mp (f i)
 | .fn g a b=> .fn g (SV.rnL f a) (SV.rnL f b)
 | .undef=> .undef
 | .bool b=> .bool b
 | .int k n=> .int k n
 | .str s=> .str s
 | .nl=> .nl
 | .lst n k cs=> .lst n k cs
 | .ep cs=> .ep cs
 | .nilp=> .nilp
def SV.rnL(f:Nat→Nat):List SV→List SV
 | []=> []
 |c::cs=>SV.rn f c::SV.rnL f cs
end
mutual
def SV.refs(m:Nat):SV→Bool
 | .agg cs=>SV.refsL m cs
 | .tup cs=>SV.refsL m cs
 | .ptr i _=>decide (i<m)
 | .vc i=>decide (i<m)
 | .sl i _ _ _=>decide (i<m)
 | .mp i=>decide (i<m)
 | .fn _ a b=>SV.refsL m a&&SV.refsL m b
 | .undef=>true
 | .bool _=>true
 | .int _ _=>true
 | .str _=>true
 | .nl=>true
 | .lst _ _ _=>true
 | .ep _=>true
 | .nilp=>true
def SV.refsL(m:Nat):List SV→Bool
 | []=>true
 |c::cs=>SV.refs m c&&SV.refsL m cs
end
theorem e0R(f:Nat→Nat): ∀(cs:List SV) (j:Nat),(SV.rnL f cs)[j]?=(cs[j]?).map (SV.rn f)
 | [],j=>by simp[SV.rnL]
 |c::cs,j=>by
  cases j with
  |zero=>simp[SV.rnL]
  |succ j=>simpa [SV.rnL]using e0R f cs j
theorem c0f(f:Nat→Nat): ∀(cs:List SV),(SV.rnL f cs).length=cs.length
 | []=>rfl
 |c::cs=>by simp[SV.rnL,c0f f cs]
theorem e0d {m:Nat} : ∀ {cs:List SV},SV.refsL m cs=true→ ∀(j:Nat) (c:SV),cs[j]?=some c→SV.refs m c=true
 | [],_,j,c,h=>by simp at h
 |x::cs,h,j,c,hc=>by
  simp only[SV.refsL,ac]at h
  cases j with
  |zero=>simp at hc;subst hc;exact h.1
  |succ j=>exact e0d h.2 j c (by simpa using hc)
def Ent.rn(f:Nat→Nat):Ent→Ent
 | .box cs=> .box (SV.rnL f cs)
 | .map es=> .map (es.map fun p=>(SV.rn f p.1,SV.rn f p.2))
 | .itr m n s=> .itr (f m) n s
 | .pmap es=> .pmap (es.map fun p=>(SV.rn f p.1,SV.rn f p.2))
 |e=>e
def Ent.refs(m:Nat):Ent→Bool
 | .box cs=>SV.refsL m cs
 | .map es=>es.all fun p=>SV.refs m p.1&&SV.refs m p.2
 | .itr i _ _=>SV.refs m (.mp i)
 | .pmap es=>es.all fun p=>SV.refs m p.1&&SV.refs m p.2
 |_=>true
def j0c(D:DM)(f:Nat→Nat)(m:Nat):DM:=fun j=>if j<m then D (f j)else none
section
variable {w : World} {K : Nat → Nat} {D : DM}
theorem f0L {f:Nat→Nat} {m:Nat} {v:Value} {s':SV} (h:Rep w K D v s'): ∀s,s'=SV.rn f s→SV.refs m s=true→Rep w K (j0c D f m) v s:=by
 have hsub: ∀ {i:Nat} {x:Loc},i<m→D (f i)=some x→j0c D f m i=some x:=fun {i x} hi hd=>by simp[j0c,hi,hd]
 induction h with
 |undef v=>intro s hs hb;cases s<;>simp only[SV.rn]at hs<;>first|(cases hs;done)|exact .undef _
 |bool b=>intro s hs hb;cases s<;>simp only[SV.rn]at hs<;>cases hs;exact .bool _
 |int k n=>intro s hs hb;cases s<;>simp only[SV.rn]at hs<;>cases hs;exact .int _ _
 |str sb=>intro s hs hb;cases s<;>simp only[SV.rn]at hs<;>cases hs;exact .str _
 |nl a=>intro s hs hb;cases s<;>simp only[SV.rn]at hs<;>first|(cases hs;done)|exact .nl _
 |emp k a cap=>intro s hs hb;cases s<;>simp only[SV.rn]at hs<;>cases hs;exact .emp _ _ _
 |lst k b off len cap vs cs hk hl hc hcap hm hK h1 hp h _=>
  intro s hs hb
  cases s<;>simp only[SV.rn]at hs<;>cases hs
  exact .lst k b off len cap vs _ hk hl hc hcap hm hK h1 hp (fun j v c hv hcc=>(h j v c hv hcc).plain (d0I hp hcc))
 |ep b off vs cs hc hm hK h1 hp h _=>
  intro s hs hb
  cases s<;>simp only[SV.rn]at hs<;>cases hs
  exact .ep b off vs _ hc hm hK h1 hp (fun j v c hv hcc=>(h j v c hv hcc).plain (d0I hp hcc))
 |agg vs cs hc h1 _ ih=>
  intro s hs hb
  cases s<;>simp only[SV.rn]at hs<;>cases hs
  rename_i cs0 _
  refine .agg vs cs0 (by rw[←hc,c0f]) h1 (fun j v c hv hcc=>ih j v (SV.rn f c) hv (by rw[e0R,hcc];rfl) c rfl ?_)
  simp only[SV.refs]at hb
  exact e0d hb j c hcc
 |tup vs cs hc _ ih=>
  intro s hs hb
  cases s<;>simp only[SV.rn]at hs<;>cases hs
  rename_i cs0 _
  refine .tup vs cs0 (by rw[←hc,c0f]) (fun j v c hv hcc=>ih j v (SV.rn f c) hv (by rw[e0R,hcc];rfl) c rfl ?_)
  simp only[SV.refs]at hb
  exact e0d hb j c hcc
 |ptr i off b c n hd=>
  intro s hs hb
  cases s<;>simp only[SV.rn]at hs<;>cases hs
  simp only[SV.refs,decide_eq_true_eq]at hb
  exact .ptr _ _ b c n (hsub hb hd)
 |vcn i a hd=>
  intro s hs hb
  cases s<;>simp only[SV.rn]at hs<;>cases hs
  simp only[SV.refs,decide_eq_true_eq]at hb
  exact .vcn _ a (hsub hb hd)
 |vc i b c n hd=>
  intro s hs hb
  cases s<;>simp only[SV.rn]at hs<;>cases hs
  simp only[SV.refs,decide_eq_true_eq]at hb
  exact .vc _ b c n (hsub hb hd)
 |sl i off n k b c m' cap hd hn=>
  intro s hs hb
  cases s<;>simp only[SV.rn]at hs<;>cases hs
  simp only[SV.refs,decide_eq_true_eq]at hb
  exact .sl _ _ _ _ b c m' cap (hsub hb hd) hn
 |mp i r c n hd=>
  intro s hs hb
  cases s<;>simp only[SV.rn]at hs<;>cases hs
  simp only[SV.refs,decide_eq_true_eq]at hb
  exact .mp _ r c n (hsub hb hd)
 |fn g fs caps gs dcs hc hd _ _ ih ih'=>
  intro s hs hb
  cases s<;>simp only[SV.rn]at hs<;>cases hs
  rename_i a0 b0 _ _
  simp only[SV.refs,ac]at hb
  exact .fn g fs caps a0 b0 (by rw[←hc,c0f]) (by rw[←hd,c0f])
   (fun j v c hv hcc=>ih j v (SV.rn f c) hv (by rw[e0R,hcc];rfl) c rfl (e0d hb.1 j c hcc))
   (fun j v c hv hcc=>ih' j v (SV.rn f c) hv (by rw[e0R,hcc];rfl) c rfl (e0d hb.2 j c hcc))
 |nilp=>intro s hs hb;cases s<;>simp only[SV.rn]at hs<;>first|(cases hs;done)|exact .nilp
theorem k0T {D':DM} {g:Nat→Nat} {v:Value} {s:SV} (h:Rep w K D v s)(hg: ∀j x,D j=some x→D' (g j)=some x):Rep w K D' v (SV.rn g s):=by
 induction h with
 |undef v=>exact .undef _
 |bool b=>exact .bool _
 |int k n=>exact .int _ _
 |str sb=>exact .str _
 |nl a=>exact .nl _
 |emp k a cap=>exact .emp _ _ _
 |lst k b off len cap vs cs hk hl hc hcap hm hK h1 hp h _=>
  exact .lst k b off len cap vs _ hk hl hc hcap hm hK h1 hp (fun j v c hv hcc=>(h j v c hv hcc).plain (d0I hp hcc))
 |ep b off vs cs hc hm hK h1 hp h _=>
  exact .ep b off vs _ hc hm hK h1 hp (fun j v c hv hcc=>(h j v c hv hcc).plain (d0I hp hcc))
 |agg vs cs hc h1 _ ih=>
  refine .agg vs _ (by rw[c0f,hc]) h1 (fun j v c hv hcc=> ?_)
  rw[e0R]at hcc
  cases hx:cs[j]? with
  |none=>rw[hx]at hcc;cases hcc
  |some x=>rw[hx]at hcc;cases hcc;exact ih j v x hv hx
 |tup vs cs hc _ ih=>
  refine .tup vs _ (by rw[c0f,hc]) (fun j v c hv hcc=> ?_)
  rw[e0R]at hcc
  cases hx:cs[j]? with
  |none=>rw[hx]at hcc;cases hcc
  |some x=>rw[hx]at hcc;cases hcc;exact ih j v x hv hx
 |ptr i off b c n hd=>exact .ptr _ _ b c n (hg _ _ hd)
 |vcn i a hd=>exact .vcn _ a (hg _ _ hd)
 |vc i b c n hd=>exact .vc _ b c n (hg _ _ hd)
 |sl i off n k b c m' cap hd hn=>exact .sl _ _ _ _ b c m' cap (hg _ _ hd) hn
 |mp i r c n hd=>exact .mp _ r c n (hg _ _ hd)
 |fn q fs caps gs dcs hc hd _ _ ih ih'=>
  refine .fn q fs caps _ _ (by rw[c0f,hc]) (by rw[c0f,hd]) (fun j v c hv hcc=> ?_) (fun j v c hv hcc=> ?_)
  ·rw[e0R]at hcc
   cases hx:gs[j]? with
   |none=>rw[hx]at hcc;cases hcc
   |some x=>rw[hx]at hcc;cases hcc;exact ih j v x hv hx
  ·rw[e0R]at hcc
   cases hx:dcs[j]? with
   |none=>rw[hx]at hcc;cases hcc
   |some x=>rw[hx]at hcc;cases hcc;exact ih' j v x hv hx
 |nilp=>exact .nilp
theorem A0S {f:Nat→Nat} {m:Nat} {vs:List Value} {cs:List SV} (h:CR w K D vs (SV.rnL f cs))(hb:SV.refsL m cs=true):CR w K (j0c D f m) vs cs:=
 ⟨by rw[←h.len,c0f],h.one,fun j v c hv hc=>f0L (h.rep j v (SV.rn f c) hv (by rw[e0R,hc];rfl)) c rfl (e0d hb j c hc)⟩
theorem B0s {D':DM} {g:Nat→Nat} {vs:List Value} {cs:List SV} (h:CR w K D vs cs)(hg: ∀j x,D j=some x→D' (g j)=some x):CR w K D' vs (SV.rnL g cs):=by
 refine⟨by rw[c0f,h.len],h.one,fun j v c hv hc=> ?_⟩
 rw[e0R]at hc
 cases hx:cs[j]? with
 |none=>rw[hx]at hc;cases hc
 |some x=>rw[hx]at hc;cases hc;exact k0T (h.rep j v x hv hx) hg
theorem z0J {f:Nat→Nat} {m j:Nat} {en:Ent} (hj:j<m)(h:EntOk w K D (f j) (Ent.rn f en))(hb:Ent.refs m en=true):EntOk w K (j0c D f m) j en:=by
 have hd:j0c D f m j=D (f j):=by simp[j0c,hj]
 cases en with
 |res=>show j0c D f m j=none;rw[hd];exact h
 |gone=>trivial
 |box cs=>
  obtain⟨b,vs,e,h1,h2,h3,h4⟩:=h
  exact⟨b,vs,e,by rw[hd];exact h1,h2,h3,A0S h4 hb⟩
 |vec n k e cs=>
  obtain⟨hp,h⟩:=h
  refine⟨hp, ?_⟩
  rcases h with⟨h1,h2,h3⟩|⟨b,c,vs,rest,h1,h2,h3,h4,h5,h6,h7,h8,h9⟩
  ·exact .inl ⟨by rw[hd];exact h1,h2,h3⟩
  ·exact .inr ⟨b,c,vs,rest,by rw[hd];exact h1,h2,h3,h4,h5,h6,h7,h8,⟨h9.len,h9.one,fun j v c hv hc=>(h9.rep j v c hv hc).plain (d0I hp hc)⟩⟩
 |map es=>
  obtain⟨r,mes,clock,h1,h2,h3,h4,hB,h5⟩:=h
  refine⟨r,mes,clock,by rw[hd];exact h1,h2,h3,by simpa using h4,hB,fun q me kv hm hk=> ?_⟩
  have hrf:=List.all_eq_true.1 hb kv (aF hk)
  simp only[ac]at hrf
  obtain⟨p1,p2⟩:=h5 q me (SV.rn f kv.1,SV.rn f kv.2) hm (by rw[am,hk];rfl)
  exact⟨f0L p1 kv.1 rfl hrf.1,f0L p2 kv.2 rfl hrf.2⟩
 |pmap es=>
  obtain⟨es',r,mes,clock,hp,h1,h2,h3,h4,hB,h5⟩:=h
  obtain⟨e2,hp2,rfl⟩:=j0I es es' hp
  refine⟨e2,r,mes,clock,hp2,by rw[hd];exact h1,h2,h3,by simpa using h4,hB,fun q me kv hm hk=> ?_⟩
  have hrf:=List.all_eq_true.1 hb kv (hp2.mem_iff.1 (aF hk))
  simp only[ac]at hrf
  obtain⟨p1,p2⟩:=h5 q me (SV.rn f kv.1,SV.rn f kv.2) hm (by rw[am,hk];rfl)
  exact⟨f0L p1 kv.1 rfl hrf.1,f0L p2 kv.2 rfl hrf.2⟩
 |itr i n' seen=>
  obtain⟨r,bm,c0,h1,h2,h3,h4,h5⟩:=h
  exact⟨r,bm,c0,by rw[hd];exact h1,h2,h3,h4,f0L h5 (.mp i) rfl hb⟩
theorem w0z {D':DM} {g:Nat→Nat} {j:Nat} {en:Ent} (h:EntOk w K D j en)(hg: ∀j x,D j=some x→D' (g j)=some x)(hn:D j=none→D' (g j)=none):EntOk w K D' (g j) (Ent.rn g en):=by
 cases en with
 |res=>exact hn h
 |gone=>trivial
 |box cs=>
  obtain⟨b,vs,e,h1,h2,h3,h4⟩:=h
  exact⟨b,vs,e,hg _ _ h1,h2,h3,B0s h4 hg⟩
 |vec n k e cs=>
  obtain⟨hp,h⟩:=h
  refine⟨hp, ?_⟩
  rcases h with⟨h1,h2,h3⟩|⟨b,c,vs,rest,h1,h2,h3,h4,h5,h6,h7,h8,h9⟩
  ·exact .inl ⟨hg _ _ h1,h2,h3⟩
  ·exact .inr ⟨b,c,vs,rest,hg _ _ h1,h2,h3,h4,h5,h6,h7,h8,⟨h9.len,h9.one,fun j v c hv hc=>(h9.rep j v c hv hc).plain (d0I hp hc)⟩⟩
 |map es=>
  obtain⟨r,mes,clock,h1,h2,h3,h4,hB,h5⟩:=h
  refine⟨r,mes,clock,hg _ _ h1,h2,h3,by simpa using h4,hB,fun q me kv hm hk=> ?_⟩
  rw[am]at hk
  cases hx:es[q]? with
  |none=>rw[hx]at hk;cases hk
  |some x=>
   rw[hx]at hk;cases hk
   obtain⟨p1,p2⟩:=h5 q me x hm hx
   exact⟨k0T p1 hg,k0T p2 hg⟩
 |pmap es=>
  obtain⟨es',r,mes,clock,hp,h1,h2,h3,h4,hB,h5⟩:=h
  refine⟨es'.map fun p=>(SV.rn g p.1,SV.rn g p.2),r,mes,clock,hp.map _,hg _ _ h1,h2,h3,by simpa using h4,hB,fun q me kv hm hk=> ?_⟩
  rw[am]at hk
  cases hx:es'[q]? with
  |none=>rw[hx]at hk;cases hk
  |some x=>
   rw[hx]at hk;cases hk
   obtain⟨p1,p2⟩:=h5 q me x hm hx
   exact⟨k0T p1 hg,k0T p2 hg⟩
 |itr i n' seen=>
  obtain⟨r,bm,c0,h1,h2,h3,h4,h5⟩:=h
  exact⟨r,bm,c0,hg _ _ h1,h2,h3,h4,k0T h5 hg⟩
theorem f0p {f:Nat→Nat} (en:Ent):g0K (Ent.rn f en)=g0K en:=by cases en<;>rfl
structure Sel (H:a0o) (f:Nat→Nat) (H0:a0o):Prop where
 get: ∀(j:Nat) (en:Ent),H0[j]?=some en→H[f j]?=some (Ent.rn f en)
 inj: ∀i j,i<H0.length→j<H0.length→f i=f j→i=j
 refs: ∀(j:Nat) (en:Ent),H0[j]?=some en→Ent.refs H0.length en=true
theorem Sel.hinv {H H0:a0o} {f:Nat→Nat} (hs:Sel H f H0)(h:HInv w K D H):HInv w K (j0c D f H0.length) H0:=by
 refine⟨fun i hi=>by simp[j0c,Nat.not_lt.2 hi],fun j en hj=> ?_,fun i j en en' b c n c' n' hi hj hl hl' hd hd'=> ?_,h.kw⟩
 ·have hjl:=(ab.1 hj).1
  exact z0J hjl (h.ent _ _ (hs.get j en hj)) (hs.refs j en hj)
 ·have hil:=(ab.1 hi).1
  have hjl:=(ab.1 hj).1
  simp only[j0c,hil,if_true]at hd
  simp only[j0c,hjl,if_true]at hd'
  exact hs.inj i j hil hjl (h.inj _ _ _ _ b c n c' n' (hs.get i en hi) (hs.get j en' hj) (by rw[f0p];exact hl) (by rw[f0p];exact hl') hd hd')
theorem Sel.mem {H H0:a0o} {f:Nat→Nat} (hs:Sel H f H0) {b:Nat} (hm:Mem (j0c D f H0.length) H0 b):Mem D H b:=by
 obtain⟨i,en,c,n,hi,hl,hd⟩:=hm
 have hil:=(ab.1 hi).1
 simp only[j0c,hil,if_true]at hd
 exact⟨f i,Ent.rn f en,c,n,hs.get i en hi,by rw[f0p];exact hl,hd⟩
end
theorem g0E {w:World} {K:Nat→Nat} {D D':DM} (h:k0Y w K D):k0Y w K D':=fun g cs hg=>by
 have hr:=h g cs hg
 cases hr with
 |ep b off vs _ hc hm hK h1 hp h=>exact .ep _ _ vs cs hc hm hK h1 hp (fun j v c hv hcc=>(h j v c hv hcc).plain (d0I hp hcc))
def c0N(P:Program)(f:FuncId):Bool:=
 match P.funcs[f]? with
 | some fn => fn.body.isSome && !(fn.name == "runtime.NumGoroutine")
 |none=>false
def SC(P:Program)(f:FuncId)(args:List SV)(H:a0o)(v:SV)(H':a0o):Prop:=
 c0N P f=true∧
 ∀(w:World) (K:Nat→Nat) (D:DM) (vals:List Value),vals.length=args.length→(∀(j:Nat) (x:Value) (c:SV),vals[j]?=some x→args[j]?=some c→Rep w K D x c)→HInv w K D H→k0Y w K D→
  Calls P f vals.toArray w fun e w'=> ∃r,e= .returned r∧Good w K D H r w' v H'
def Le(s s':SV):Prop:= ∀(w:World) (K:Nat→Nat) (D:DM) (v:Value),Rep w K D v s→Rep w K D v s'
theorem Le.refl(s:SV):Le s s:=fun _ _ _ _ h=>h
theorem Le.nl(k:Nat):Le .nl (.lst 0 k []):=fun _ _ _ _ h=>by cases h;exact .emp _ _ _
theorem Le.undef(s:SV):Le s .undef:=fun _ _ _ _ _=> .undef _
inductive LeL:List SV→List SV→Prop
 |nil:LeL [] []
 |cons {a b:SV} {l m:List SV} (h:Le a b) (t:LeL l m):LeL (a::l) (b::m)
theorem LeL.refl: ∀l,LeL l l
 | []=> .nil
 |a::l=> .cons (Le.refl a) (LeL.refl l)
theorem LeL.length {l m:List SV} (h:LeL l m):l.length=m.length:=by
 induction h with
 |nil=>rfl
 |cons _ _ ih=>simp[ih]
theorem LeL.get {l m:List SV} (h:LeL l m): ∀(j:Nat) (c:SV),m[j]?=some c→ ∃b,l[j]?=some b∧Le b c:=by
 induction h with
 |nil=>intro j c hc;simp at hc
 |cons h _ ih=>
  intro j c hc
  cases j with
  |zero=>simp at hc;subst hc;exact⟨_,rfl,h⟩
  |succ j=>simpa using ih j c (by simpa using hc)
theorem Le.agg {l m:List SV} (h:LeL l m):Le (.agg l) (.agg m):=fun w K D v hr=>by
 cases hr with
 |agg vs _ hc h1 hh=>
  refine .agg vs m (by rw[←h.length];exact hc) h1 (fun j v c hv hcc=> ?_)
  obtain⟨b,hb,hle⟩:=h.get j c hcc
  exact hle _ _ _ _ (hh j v b hv hb)
theorem Le.tup {l m:List SV} (h:LeL l m):Le (.tup l) (.tup m):=fun w K D v hr=>by
 cases hr with
 |tup vs _ hc hh=>
  refine .tup vs m (by rw[←h.length];exact hc) (fun j v c hv hcc=> ?_)
  obtain⟨b,hb,hle⟩:=h.get j c hcc
  exact hle _ _ _ _ (hh j v b hv hb)
theorem SC.weak {P:Program} {f:FuncId} {args args':List SV} {H:a0o} {v:SV} {H':a0o} (h:SC P f args' H v H')(hl:LeL args args'):SC P f args H v H':=
 ⟨h.1,fun w K D vals hlen hr hi hG=>h.2 w K D vals (by rw[hlen,hl.length]) (fun j x c hx hc=>by
  obtain⟨b,hb,hle⟩:=hl.get j c hc
  exact hle _ _ _ _ (hr j x b hx hb)) hi hG⟩
theorem SC.res {P:Program} {f:FuncId} {args:List SV} {H:a0o} {v v':SV} {H':a0o} (h:SC P f args H v H')(hl:Le v v'):SC P f args H v' H':=
 ⟨h.1,fun w K D vals hlen hr hi hG=>(h.2 w K D vals hlen hr hi hG).mono fun e w' ⟨r,he,K',D',g,hi',hrep⟩=>⟨r,he,K',D',g,hi',hl _ _ _ _ hrep⟩⟩
mutual
theorem g0y {f g:Nat→Nat} {m:Nat} (hfg: ∀i,i<m→f i=g i): ∀(s:SV),SV.refs m s=true→SV.rn f s=SV.rn g s
 | .agg cs,h=>by simp only[SV.rn];rw[g0P hfg cs h]
 | .tup cs,h=>by simp only[SV.rn];rw[g0P hfg cs h]
 | .ptr i off,h=>by simp only[SV.rn];rw[hfg i (by simpa [SV.refs]using h)]
 | .vc i,h=>by simp only[SV.rn];rw[hfg i (by simpa [SV.refs]using h)]
 | .sl i off n k,h=>by simp only[SV.rn];rw[hfg i (by simpa [SV.refs]using h)]
 | .mp i,h=>by simp only[SV.rn];rw[hfg i (by simpa [SV.refs]using h)]
 | .fn q a b,h=>by
  simp only[SV.refs,ac]at h
  simp only[SV.rn];rw[g0P hfg a h.1,g0P hfg b h.2]
 | .undef,_=>rfl
 | .bool _,_=>rfl
 | .int _ _,_=>rfl
 | .str _,_=>rfl
 | .nl,_=>rfl
 | .lst _ _ _,_=>rfl
 | .ep _,_=>rfl
 | .nilp,_=>rfl
theorem g0P {f g:Nat→Nat} {m:Nat} (hfg: ∀i,i<m→f i=g i): ∀(cs:List SV),SV.refsL m cs=true→SV.rnL f cs=SV.rnL g cs
 | [],_=>rfl
 |c::cs,h=>by
  simp only[SV.refsL,ac]at h
  simp only[SV.rnL];rw[g0y hfg c h.1,g0P hfg cs h.2]
end
theorem r0u {f g:Nat→Nat} {m:Nat} (hfg: ∀i,i<m→f i=g i)(en:Ent)(h:Ent.refs m en=true):Ent.rn f en=Ent.rn g en:=by
 cases en with
 |box cs=>simp only[Ent.rn];rw[g0P hfg cs h]
 |map es=>
  simp only[Ent.rn]
  congr 1
  refine bV fun p hp=> ?_
  have hrf:=List.all_eq_true.1 h p hp
  simp only[ac]at hrf
  rw[g0y hfg p.1 hrf.1,g0y hfg p.2 hrf.2]
 |pmap es=>
  simp only[Ent.rn]
  congr 1
  refine bV fun p hp=> ?_
  have hrf:=List.all_eq_true.1 h p hp
  simp only[ac]at hrf
  rw[g0y hfg p.1 hrf.1,g0y hfg p.2 hrf.2]
 |itr i n s=>show Ent.itr (f i) n s=Ent.itr (g i) n s;rw[hfg i (by simpa [Ent.refs,SV.refs]using h)]
 |_=>rfl
def gOf(f:Nat→Nat)(m N:Nat):Nat→Nat:=fun j=>if j<m then f j else N+(j-m)
def s0a(g:Nat→Nat)(H0':a0o)(H:a0o):Nat→a0o
 |0=>H
 |j+1=>match H0'[j]? with
  |some en=>g0w (s0a g H0' H j) (g j) (Ent.rn g en)
  |none=>s0a g H0' H j
def d0Q(f:Nat→Nat)(m:Nat)(H H0':a0o):a0o:=s0a (gOf f m H.length) H0' H H0'.length
theorem r0U {H:a0o} {i:Nat} {en:Ent} :(g0w H i en).length=if i<H.length then H.length else H.length+1:=by
 unfold g0w;split<;>simp
theorem Sel.lt {H H0:a0o} {f:Nat→Nat} (hs:Sel H f H0) {j:Nat} (hj:j<H0.length):f j<H.length:=by
 have:=hs.get j _ (ae hj)
 exact(ab.1 this).1
theorem w0l {f:Nat→Nat} {H H0:a0o} (hs:Sel H f H0) {i j:Nat} (h:gOf f H0.length H.length i=gOf f H0.length H.length j):i=j:=by
 unfold gOf at h
 by_cases hi:i<H0.length<;>by_cases hj:j<H0.length
 ·rw[if_pos hi,if_pos hj]at h;exact hs.inj i j hi hj h
 ·rw[if_pos hi,if_neg hj]at h;have:=hs.lt hi;omega
 ·rw[if_neg hi,if_pos hj]at h;have:=hs.lt hj;omega
 ·rw[if_neg hi,if_neg hj]at h;omega
theorem q0J {f:Nat→Nat} {H H0 H0':a0o} (hs:Sel H f H0): ∀q,q≤H0'.length→
  (s0a (gOf f H0.length H.length) H0' H q).length=H.length+(q-H0.length)∧
  (∀j en,j<q→H0'[j]?=some en→(s0a (gOf f H0.length H.length) H0' H q)[gOf f H0.length H.length j]?=some (Ent.rn (gOf f H0.length H.length) en))∧
  ∀i,(∀j,j<q→gOf f H0.length H.length j≠i)→(s0a (gOf f H0.length H.length) H0' H q)[i]?=H[i]?:=by
 intro q
 induction q with
 |zero=>intro _;exact⟨by simp[s0a],fun j en h=>absurd h (Nat.not_lt_zero _),fun i _=>rfl⟩
 |succ q ih=>
  intro hq
  obtain⟨h1,h2,h3⟩:=ih (by omega)
  have hen:H0'[q]?=some (H0'[q]'(by omega)):=ae (by omega)
  have hle:gOf f H0.length H.length q≤(s0a (gOf f H0.length H.length) H0' H q).length:=by
   rw[h1]
   unfold gOf
   split
   ·rename_i hlt;have:=hs.lt hlt;omega
   ·omega
  have hget:=p0A (H:=s0a (gOf f H0.length H.length) H0' H q) (en:=Ent.rn (gOf f H0.length H.length) (H0'[q]'(by omega))) hle
  refine⟨?_,fun j en hj hej=> ?_,fun i hi=> ?_⟩
  ·simp only[s0a,hen]
   rw[r0U,h1]
   unfold gOf
   by_cases hlt:q<H0.length
   ·rw[if_pos hlt]
    have:=hs.lt hlt
    rw[if_pos (by omega)];omega
   ·rw[if_neg hlt,if_neg (by omega)];omega
  ·simp only[s0a,hen]
   rw[hget]
   by_cases hjq:j=q
   ·subst hjq
    rw[if_pos rfl]
    rw[hen]at hej;cases hej;rfl
   ·rw[if_neg (fun e=>hjq (w0l hs e))]
    exact h2 j en (by omega) hej
  ·simp only[s0a,hen]
   rw[hget,if_neg (fun e=>hi q (by omega) e.symm)]
   exact h3 i fun j hj=>hi j (by omega)
theorem p0g {f:Nat→Nat} {H H0:a0o} (hs:Sel H f H0):d0Q f H0.length H H0=H:=by
 obtain⟨h1,h2,h3⟩:=q0J (H0':=H0) hs H0.length (ak _)
 have hg: ∀i,i<H0.length→f i=gOf f H0.length H.length i:=fun i hi=>by simp[gOf,hi]
 unfold d0Q
 apply bC
 intro i
 by_cases hex: ∃j,j<H0.length∧gOf f H0.length H.length j=i
 ·obtain⟨j,hj,rfl⟩:=hex
  have hen:=ae hj
  rw[h2 j _ hj hen,←hg j hj,hs.get j _ hen,←r0u hg _ (hs.refs j _ hen)]
 ·exact h3 i fun j hj e=>hex ⟨j,hj,e⟩
theorem Good.frame {H0 H0':a0o} {v0:SV} {H:a0o} {f:Nat→Nat} {w w':World} {K:Nat→Nat} {D:DM} {r:Value} (hg0:Good w K (j0c D f H0.length) H0 r w' v0 H0')(hs:Sel H f H0)(hi:HInv w K D H)
  (hlive: ∀en∈H0,g0K en=true) (hl:H0.length≤H0'.length):Good w K D H r w' (SV.rn (gOf f H0.length H.length) v0) (d0Q f H0.length H H0'):=by
 obtain⟨K',Ds',g,hi',hrep⟩:=hg0
 obtain⟨p1,p2,p3⟩:=q0J (H0':=H0') hs H0'.length (ak _)
 generalize hg:gOf f H0.length H.length=gg at p1 p2 p3
 have hgl: ∀j,j<H0.length→gg j=f j:=fun j hj=>by rw[←hg];simp[gOf,hj]
 have hgr: ∀j,H0.length≤j→gg j=H.length+(j-H0.length):=fun j hj=>by rw[←hg];simp[gOf,Nat.not_lt.2 hj]
 have hginj: ∀i j,gg i=gg j→i=j:=fun i j e=>by rw[←hg]at e;exact w0l hs e
 -- entries that were handed v0B are somewhere
 have hsome: ∀j,j<H0.length→ ∃x,D (f j)=some x:=by
  intro j hj
  have hen:=ae hj
  have hlv:=hlive _ (bk hj)
  have he:=hi.ent _ _ (hs.get j _ hen)
  generalize H0[j]=en at hlv he
  cases en with
  |res=>cases hlv
  |gone=>cases hlv
  |box cs=>obtain⟨b,vs,e,h1,_⟩:=he;exact⟨_,h1⟩
  |vec n k e cs=>rcases he.2 with⟨h1,_⟩|⟨b,c,vs,rest,h1,_⟩<;>exact⟨_,h1⟩
  |map es=>obtain⟨r,mes,clock,h1,_⟩:=he;exact⟨_,h1⟩
  |itr i n' s=>obtain⟨r,bm,c0,h1,_⟩:=he;exact⟨_,h1⟩
  |pmap es=>obtain⟨es',r,mes,clock,_,h1,_⟩:=he;exact⟨_,h1⟩
 let D':DM:=fun i=>if i<H.length then D i else Ds' (H0.length+(i-H.length))
 have hDold: ∀i,i<H.length→D' i=D i:=fun i hi=>by simp[D',hi]
 have hDs: ∀j,j<H0.length→Ds' j=D (f j):=by
  intro j hj
  obtain⟨x,hx⟩:=hsome j hj
  have:j0c D f H0.length j=some x:=by simp[j0c,hj,hx]
  rw[g.dd j x this,hx]
 have hup: ∀j,D' (gg j)=Ds' j:=by
  intro j
  by_cases hj:j<H0.length
  ·rw[hgl j hj,hDold _ (hs.lt hj),hDs j hj]
  ·rw[hgr j (by omega)]
   simp only[D']
   rw[if_neg (by omega)]
   congr 1;omega
 have hdd: ∀i x,D i=some x→D' i=some x:=by
  intro i x hx
  have:i<H.length:=by
   rcases bK i H.length with h1|h1
   ·exact h1
   ·rw[hi.dom i h1]at hx;cases hx
  rw[hDold i this];exact hx
 have hrep': ∀v s,Rep w K D v s→Rep w' K' D' v s:=fun v s h1=>h1.mono g.cells g.le hdd
 -- an entry: an old one that was not handed v0B, or one of the call's
 have hcase: ∀i en,(d0Q f H0.length H H0')[i]?=some en→(∃j en0,H0'[j]?=some en0∧i=gg j∧en=Ent.rn gg en0)∨((∀j,j<H0'.length→gg j≠i)∧H[i]?=some en∧i<H.length):=by
  intro i en hi2
  unfold d0Q at hi2
  rw[hg]at hi2
  by_cases hex: ∃j,j<H0'.length∧gg j=i
  ·obtain⟨j,hj,rfl⟩:=hex
   have hen:=ae hj
   rw[p2 j _ hj hen]at hi2
   cases hi2
   exact .inl ⟨j,_,hen,rfl,rfl⟩
  ·have hno: ∀j,j<H0'.length→gg j≠i:=fun j hj e=>hex ⟨j,hj,e⟩
   rw[p3 i hno]at hi2
   exact .inr ⟨hno,hi2,(ab.1 hi2).1⟩
 -- a block of the call's is old and handed v0B, or new
 have hblk: ∀j en0 b c n,H0'[j]?=some en0→g0K en0=true→Ds' j=some (.at b c n)→Mem (j0c D f H0.length) H0 b∨w.heap.size≤b:=fun j en0 b c n h1 h2 h3=>g.new b ⟨j,en0,c,n,h1,h2,h3⟩
 have hapart: ∀i en b c n,(∀j,j<H0'.length→gg j≠i)→H[i]?=some en→g0K en=true→D i=some (.at b c n)→ ¬Mem (j0c D f H0.length) H0 b∧b<w.heap.size:=by
  intro i en b c n hno hie hli hdi
  refine⟨fun⟨j,en0,c0,n0,h1,h2,h3⟩=> ?_,(i0X hi ⟨i,en,c,n,hie,hli,hdi⟩).1⟩
  have hjl:=(ab.1 h1).1
  simp only[j0c,hjl,if_true]at h3
  have:=hi.inj i (f j) en _ b c n c0 n0 hie (hs.get j en0 h1) hli (by rw[f0p];exact h2) hdi h3
  exact hno j (by omega) (by rw[hgl j hjl];exact this.symm)
 refine⟨K',D',⟨g.os,g.tape,g.output,g.size,fun b hb hm=>g.block b hb (fun h1=>hm (hs.mem h1)),g.cells,g.le,fun b hb hm=>g.kk b hb (fun h1=>hm (hs.mem h1)),hdd,fun b hm=> ?_⟩,
  ⟨fun i hil=> ?_,fun i en hie=> ?_,fun i j en en' b c n c' n' hie hje hli hlj hdi hdj=> ?_,hi'.kw⟩, ?_⟩
 ·obtain⟨i,en,c,n,h1,h2,h3⟩:=hm
  rcases hcase i en h1 with⟨j,en0,q1,q2,q3⟩|⟨_,q2,q3⟩
  ·subst q2;subst q3
   rw[hup]at h3
   rw[f0p]at h2
   rcases hblk j en0 b c n q1 h2 h3 with h4|h4
   ·exact .inl (hs.mem h4)
   ·exact .inr h4
  ·rw[hDold i q3]at h3
   exact .inl ⟨i,en,c,n,q2,h2,h3⟩
 ·unfold d0Q at hil
  rw[hg,p1]at hil
  simp only[D']
  rw[if_neg (by omega)]
  exact hi'.dom _ (by omega)
 ·rcases hcase i en hie with⟨j,en0,q1,q2,q3⟩|⟨q1,q2,q3⟩
  ·subst q2;subst q3
   exact w0z (hi'.ent j en0 q1) (fun j x hx=>by rw[hup];exact hx) (fun hn=>by rw[hup];exact hn)
  ·refine(hi.ent i en q2).keep hrep' (hDold i q3) (fun b c n hlv hd=> ?_)
   obtain⟨a1,a2⟩:=hapart i en b c n q1 q2 hlv hd
   exact⟨g.block b a2 a1,g.kk b a2 a1⟩
 ·rcases hcase i en hie with⟨ji,e1,q1,q2,q3⟩|⟨q1,q2,q3⟩<;>rcases hcase j en' hje with⟨jj,e2,r1,r2,r3⟩|⟨r1,r2,r3⟩
  ·subst q2;subst q3;subst r2;subst r3
   rw[hup]at hdi hdj
   rw[f0p]at hli hlj
   rw[hi'.inj ji jj e1 e2 b c n c' n' q1 r1 hli hlj hdi hdj]
  ·exfalso
   subst q2;subst q3
   rw[hup]at hdi
   rw[f0p]at hli
   rw[hDold j r3]at hdj
   obtain⟨a1,a2⟩:=hapart j en' b c' n' r1 r2 hlj hdj
   rcases hblk ji e1 b c n q1 hli hdi with h4|h4
   ·exact a1 h4
   ·omega
  ·exfalso
   subst r2;subst r3
   rw[hup]at hdj
   rw[f0p]at hlj
   rw[hDold i q3]at hdi
   obtain⟨a1,a2⟩:=hapart i en b c n q1 q2 hli hdi
   rcases hblk jj e2 b c' n' r1 hlj hdj with h4|h4
   ·exact a1 h4
   ·omega
  ·rw[hDold i q3]at hdi
   rw[hDold j r3]at hdj
   exact hi.inj i j en en' b c n c' n' q2 r2 hli hlj hdi hdj
 ·exact k0T hrep (fun j x hx=>by rw[hup];exact hx)
theorem SC.frame {P:Program} {fid:FuncId} {args0:List SV} {H0:a0o} {v0:SV} {H0':a0o} (h:SC P fid args0 H0 v0 H0') {H:a0o} {f:Nat→Nat} (hs:Sel H f H0)
  (hlive: ∀en∈H0,g0K en=true) (ha:SV.refsL H0.length args0=true) (hl:H0.length≤H0'.length):
  SC P fid (SV.rnL f args0) H (SV.rn (gOf f H0.length H.length) v0) (d0Q f H0.length H H0'):=by
 refine⟨h.1,fun w K D vals hlen hr hi hG=> ?_⟩
 refine(h.2 w K (j0c D f H0.length) vals (by rw[hlen,c0f]) (fun j x c hx hc=>f0L (hr j x (SV.rn f c) hx (by rw[e0R,hc];rfl)) c rfl (e0d ha j c hc)) (hs.hinv hi) (g0E hG)).mono ?_
 rintro e w' ⟨r,he,hg⟩
 exact⟨r,he,hg.frame hs hi hlive hl⟩
end Go.Sy
