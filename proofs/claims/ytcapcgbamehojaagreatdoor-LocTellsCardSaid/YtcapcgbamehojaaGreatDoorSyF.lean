/-
 The second shadow machine, part 6: operations on entries: what they do.
-/
import Derived.Test.YtcapcgbamehojaaGreatDoorSyE
namespace Go.Sy
open Go Go.RowKit
set_option linter.unusedSimpArgs false
set_option linter.unusedVariables false
set_option linter.unusedSectionVars false
variable [Inhabited GT]
structure Eff where
 v:SV
 rd:List Nat
 wr:List (Nat×Ent)
def b0M(H:a0o):List (Nat×Ent)→a0o
 | []=>H
 |(i,en)::r=>b0M (g0w H i en) r
def i0l(P:Program)(e k:Nat):Bool:=
 match P.info? e with
 |some i=>(i.size==k)&&decide (0<k)&&decide (i.bytes≤4096)&&(match i.zero with
  |some z=>z.cells.size==i.size
  |none=>false)
 |none=>false
def h0c(b:UInt8):SV:= .int .u8 b.toNat
def t0e(k:Nat)(s:SV)(H:a0o):Option (Nat×List SV×List Nat):=
 match s with
 | .lst n k' cs=>if k'=k∨n=0 then some (n,cs,[])else none
 | .nl=>some (0,[],[])
 | .str bs=>if k=1 then some (bs.length,bs.map h0c,[])else none
 | .vc j=>match H[j]? with
  |some (.vec n k' _ cs)=>if k'=k∨n=0 then some (n,cs,[j])else none
  |_=>none
 | .sl j off n k'=>match H[j]? with
  |some (.box cs)=>if k'=k∧off+n*k≤cs.length∧b0x ((cs.drop off).take (n*k))=true then some (n,(cs.drop off).take (n*k),[j])else none
  |_=>none
 |_=>none
def j0d(P:Program)(tx:TypeId)(s:SV):Bool:=
 match s,P.underlying tx with
 | .str _,some .string=>true
 | .str _,_=>false
 |_,some (.slice _)=>true
 |_,_=>false
def k0C(P:Program)(e:TypeId):Bool:=
 match P.info? e with
 |some i=>i.bytes==1
 |none=>false
def RoomE(P:Program)(e:TypeId)(n:Nat):Prop:=u0O n∨(k0C P e=true∧n≤140737488400000)
instance {P:Program} {e n:Nat} :Decidable (RoomE P e n):=inferInstanceAs (Decidable (u0O n∨(k0C P e=true∧n≤140737488400000)))
def x0m(P:Program)(e k:Nat)(tx:TypeId)(sy:SV)(H:a0o):Option (Nat×List SV×List Nat):=
 match sy with
 | .int _ l=>match P.underlying tx,m0V P e with
  |some (.int _),some zs=>if b0x zs=true∧P.cellsOf e=k then some (l.toNat,(List.replicate l.toNat zs).flatten,[])else none
  |_,_=>none
 |_=>if j0d P tx sy=true then t0e k sy H else none
def A0r(sy:SV):Bool:=
 match sy with
 | .int _ l=>decide (0≤l)
 |_=>true
def m0F(P:Program)(c:Call)(ρ:Env)(H:a0o)(idx:Nat):Option Eff:=
 match c.args.toList,c.argTypes.toList with
 | [x,y],[t,tx]=>match P.underlying t,a0Y ρ x,a0Y ρ y with
  |some (.slice e),some .nl,some sy=>match x0m P e (P.cellsOf e) tx sy H with
   |some (m,cs2,rd)=>if i0l P e (P.cellsOf e)=true∧A0r sy=true∧RoomE P e m then some ⟨.vc idx,rd,[(idx, .vec m (P.cellsOf e) e cs2)]⟩else none
   |none=>none
  |some (.slice e),some (.vc i),some sy=>match H[i]? with
   |some (.vec n k e' cs)=>match x0m P e k tx sy H with
    |some (m,cs2,rd)=>if e=e'∧i0l P e k=true∧A0r sy=true∧RoomE P e (n+m)then some ⟨.vc idx,i::rd,[(i, .gone),(idx, .vec (n+m) k e (cs++cs2))]⟩else none
    |none=>none
   |_=>none
  |_,_,_=>none
 |_,_=>none
def w0E(P:Program)(c:Call)(ρ:Env)(H:a0o):Option Eff:=
 match c.args.toList,c.argTypes.toList with
 | [x,y],[t,tx]=>match P.underlying t,a0Y ρ x,a0Y ρ y with
  |some (.slice e),some (.vc i),some sy=>match H[i]? with
   |some (.vec n k e' cs)=>match t0e k sy H with
    |some (m,cs2,rd)=>if k=P.cellsOf e∧i0l P e k=true∧j0d P tx sy=true then some ⟨.int .i64 ((min m n:Nat):Int),i::rd,[(i, .vec n k e' (splice cs 0 (cs2.take (min m n*k))))]⟩else none
    |none=>none
   |_=>none
  |some (.slice e),some (.sl i off n k),some sy=>match H[i]? with
   |some (.box cs)=>match t0e k sy H with
    |some (m,cs2,rd)=>if k=P.cellsOf e∧i0l P e k=true∧j0d P tx sy=true∧off+n*k≤cs.length then some ⟨.int .i64 ((min m n:Nat):Int),i::rd,[(i, .box (splice cs off (cs2.take (min m n*k))))]⟩else none
    |none=>none
   |_=>none
  |_,_,_=>none
 |_,_=>none
section
variable {P : Program} {n : Nat} {w : World} {K : Nat → Nat} {D : DM} {H : a0o} {ρ : Env} {a : Act} {o : Oper}
theorem e0U {e k:Nat} (h:i0l P e k=true): ∃i z,P.info? e=some i∧i.zero=some z∧z.cells.size=i.size∧i.size=k∧0<k∧i.bytes≤4096:=by
 unfold i0l at h
 split at h
 ·rename_i i hi
  simp only[ac,beq_iff_eq,decide_eq_true_eq]at h
  obtain⟨⟨⟨h1,h2⟩,h3⟩,h4⟩:=h
  split at h4
  ·rename_i z hz
   exact⟨i,z,hi,hz,by simpa using h4,h1,h2,h3⟩
  ·cases h4
 ·cases h
theorem v0d {tx:TypeId} {bs:List UInt8} (h:j0d P tx (.str bs)=true):P.underlying tx=some .string:=by
 cases hu:P.underlying tx with
 |none=>simp[j0d,hu]at h
 |some d=>cases d<;>first|rfl|simp[j0d,hu]at h
theorem l0A {tx:TypeId} {s:SV} (hs: ∀bs,s≠ .str bs)(h:j0d P tx s=true): ∃e,P.underlying tx=some (.slice e):=by
 cases hu:P.underlying tx with
 |none=>cases s<;>simp[j0d,hu]at h
 |some d=>
  cases d<;>first|exact⟨_,rfl⟩|(cases s<;>first|exact absurd rfl (hs _)|simp[j0d,hu]at h)
structure SrcAt (P:Program) (w:World) (K:Nat→Nat) (D:DM) (k:Nat) (tx:TypeId) (x:Value) (m:Nat) (news:List Value) (cs:List SV):Prop where
 src:Src P k tx x m news w
 cr:CR w K D news cs
 plain:b0x cs=true
 first: ∀q,q≤m→(Builtin.firstCells k q x).run P w= .ok (news.take (q*k)).toArray w
theorem n0I {k:Nat} {tx e:TypeId} {b off len cap:Nat} {vs:List Value} {cs:List SV} (he:P.underlying tx=some (.slice e))(hrow:RowAt w K D b off vs cs)(hl:vs.length=len*k)(hp:b0x cs=true):
  SrcAt P w K D k tx (.slice (some ⟨b,off,none⟩) len cap) len vs cs:=
 ⟨Src.ofSlice w he ⟨b,off,none⟩ len cap vs hl (fun j u hu=>by rw[add_lit];exact hrow.mem j u hu) hrow.one,⟨hrow.len,hrow.one,hrow.rep⟩,hp,fun q hq=>by
  have hle:q*k≤len*k:=aR _ hq
  exact run_firstCells_some w k q ⟨b,off,none⟩ len cap (vs.take (q*k)) (by rw[aH];omega) (fun j u hu=>by rw[add_lit];exact(hrow.take _).mem j u hu)⟩
theorem k0k {k:Nat} {tx e:TypeId} {ad:Option Addr} {cap:Nat} (he:P.underlying tx=some (.slice e)):SrcAt P w K D k tx (.slice ad 0 cap) 0 [] []:=by
 refine⟨?_,CR.nil,rfl,fun q hq=> ?_⟩
 ·cases ad with
  |none=>exact Src.ofNil w he cap
  |some ea=>exact Src.ofSlice w he ea 0 cap [] (by simp) (fun j u hu=>by simp at hu) (fun u hu=>(by cases hu))
 ·have:q=0:=by omega
  subst this
  cases ad with
  |none=>simpa using run_firstCells_none w k 0 0 cap
  |some ea=>simpa using run_firstCells_some w k 0 ea 0 cap [] (by simp) (fun j u hu=>by simp at hu)
theorem r0r(sb:ByteArray)(q:Nat)(hq:q≤sb.size):(Builtin.firstCells 1 q (.string sb)).run P w= .ok ((byteCells sb).take (q*1)).toArray w:=by
 simp only[Builtin.firstCells,Sem.run_pure,Nat.mul_one]
 congr 1
 apply Array.ext'
 simp[byteCells,ByteArray.data_extract,bP,List.map_take]
theorem q0A(hi:HInv w K D H) {k m:Nat} {tx:TypeId} {x:Value} {s:SV} {cs:List SV} {rd:List Nat} (hk:0<k)(hr:Rep w K D x s)
  (hs:t0e k s H=some (m,cs,rd)) (hty:j0d P tx s=true): ∃news,SrcAt P w K D k tx x m news cs:=by
 unfold t0e at hs
 split at hs
 ·rename_i n k' cs'
  obtain⟨e,he⟩:=l0A (fun bs=>by simp) hty
  split at hs<;>cases hs
  rename_i hc
  rcases i0z hr with⟨ea,ecap,hv,hcs,hn0⟩|⟨b,off,cap,vs,hv,hrow,hK,hk0,hl,hcap,hp⟩
  ·subst hcs;subst hv;subst hn0
   exact⟨[],k0k he⟩
  ·subst hv
   rcases hc with hc|hc
   ·subst hc;exact⟨vs,n0I he hrow hl hp⟩
   ·subst hc
    have hv0:vs=[]:=al (by simpa using hl)
    subst hv0
    have hc0:cs=[]:=al hrow.len
    subst hc0
    exact⟨[],k0k he⟩
 ·cases hs
  obtain⟨e,he⟩:=l0A (fun bs=>by simp) hty
  cases hr
  exact⟨[],k0k he⟩
 ·rename_i bs
  split at hs<;>cases hs
  rename_i e1;subst e1
  cases hr with
  |str sb=>
   have hu:=v0d hty
   have hsrc:=Src.ofString (P:=P) w hu sb
   have hlen:sb.data.toList.length=sb.size:=by simp
   rw[←hlen]at hsrc
   refine⟨byteCells sb,hsrc,⟨by simp[byteCells],hsrc.one,fun j v c hv hc=> ?_⟩, ?_, ?_⟩
   ·unfold byteCells at hv
    rw[am]at hv hc
    cases hb:sb.data.toList[j]? with
    |none=>rw[hb]at hv;cases hv
    |some y=>rw[hb]at hv hc;cases hv;cases hc;exact .int _ _
   ·simp only[b0x,List.all_map,List.all_eq_true]
    intro b _;rfl
   ·intro q hq
    exact r0r sb q (by rw[hlen]at hq;exact hq)
 ·rename_i j
  obtain⟨e,he⟩:=l0A (fun bs=>by simp) hty
  split at hs
  ·rename_i n k' e' cs' hj
   split at hs<;>cases hs
   rename_i hc
   obtain⟨hp,hent⟩:=hi.ent j _ hj
   rcases hent with⟨h1,h2,h3⟩|⟨b,c,vs,rest,h1,h2,h3,h4,h5,h6,h7,h8,h9⟩
   ·subst h2;subst h3
    cases hr with
    |vcn _ ad hd=>exact⟨[],k0k he⟩
    |vc _ b c n hd=>rw[h1]at hd;cases hd
   ·cases hr with
    |vcn _ ad hd=>rw[h1]at hd;cases hd
    |vc _ b' c' n' hd=>
     rw[h1]at hd;cases hd
     have hrow:=f0v h6 h9
     rcases hc with hc|hc
     ·subst hc;exact⟨vs,n0I he hrow h7 hp⟩
     ·subst hc
      have hv0:vs=[]:=al (by simpa using h7)
      subst hv0
      have hc0:cs=[]:=al h9.len
      subst hc0
      exact⟨[],k0k he⟩
  ·cases hs
 ·rename_i j off n k'
  obtain⟨e,he⟩:=l0A (fun bs=>by simp) hty
  split at hs
  ·rename_i cs' hj
   split at hs<;>cases hs
   rename_i hc
   obtain⟨hk',hle,hp⟩:=hc
   subst hk'
   obtain⟨b,vs,e',h1,h2,h3,h4⟩:=hi.ent j _ hj
   cases hr with
   |sl _ _ _ _ b' c' m' cap hd hcap=>
    rw[h1]at hd;cases hd
    have hrow:=(f0v (rest:=[]) (by simpa using h3) h4)
    have hrow':=(hrow.drop off).take (m*k')
    rw[aU]at hrow'
    have hvl:=h4.len
    exact⟨_,n0I he hrow' (by simp only[aH,aO];omega) hp⟩
  ·cases hs
 ·cases hs
theorem m0p(t tx ty e:TypeId)(i:TypeInfo)(ht:P.underlying t=some (.slice e))(hi:P.info? e=some i)
  (g sLen sCap:Nat) (cur:Array Value) (e':TypeId) (hg:w.heap[g]?=some (.cells cur e' (0,0))) (x:Value) (m:Nat) (news:List Value) (hs:Src P i.size tx x m news w)
  (hroom:sLen+m≤sCap) (hfit:sLen*i.size+news.length≤cur.size):
  (Builtin.append_ #[t,tx] ty #[.slice (some ⟨g,0,none⟩) sLen sCap,x]).run P w=
   .ok (.slice (some ⟨g,0,none⟩) (sLen+m) sCap) (w.setRow g (cur.toList.take (sLen*i.size)++news++cur.toList.drop (sLen*i.size+news.length)).toArray):=by
 have hst:=run_storeCells_at P g (sLen*i.size) e' news 0 cur w hg (by simpa using hfit) hs.one
 simp only[Nat.add_zero]at hst
 rcases hs.kind with⟨e2,hk⟩|hk<;>simp[Builtin.append_,run_underlying ht,run_underlying hk,sizeOf,typeInfo,hi,hs.len,hroom,hs.cells,Addr.add_lit,hst]
theorem s0D {α:Type} (zs:List α): ∀(n j:Nat),j<n*zs.length→(List.replicate n zs).flatten[j]?=zs[j%zs.length]?:=by
 intro n
 induction n with
 |zero=>intro j hj;omega
 |succ n ih=>
  intro j hj
  rw[List.replicate_succ,List.flatten_cons,aD]
  split
  ·rename_i hlt;rw[Nat.mod_eq_of_lt hlt]
  ·rename_i hge
   rw[ih (j-zs.length) (by rw[bH]at hj;omega)]
   conv=>rhs;rw[Nat.mod_eq_sub_mod (show j≥zs.length by omega)]
theorem s0C {α:Type} (zs:List α)(n:Nat):(List.replicate n zs).flatten.length=n*zs.length:=by
 simp
theorem n0x {zs:List SV} (h:b0x zs=true)(m:Nat):b0x (List.replicate m zs).flatten=true:=by
 refine List.all_eq_true.2 fun c hc=> ?_
 obtain⟨l,hl,hcl⟩:=List.mem_flatten.1 hc
 obtain⟨_,rfl⟩:=List.mem_replicate.1 hl
 exact List.all_eq_true.1 h c hcl
theorem p0r {z:Array Value} {zs:List SV} (hcr:CR w K D z.toList zs)(hk:0<zs.length)(m:Nat):
  CR w K D ((Array.range (m*zs.length)).map (z[· %z.size]!)).toList (List.replicate m zs).flatten:=by
 have hzl:z.size=zs.length:=by simpa using hcr.len.symm
 have hget: ∀j v,((Array.range (m*zs.length)).map (z[· %z.size]!)).toList[j]?=some v→j<m*zs.length∧z.toList[j%z.size]?=some v:=by
  intro j v hv
  rw[bZ,Array.getElem?_map,Array.getElem?_range]at hv
  split at hv
  ·rename_i hj
   cases hv
   have hmz:j%z.size<z.size:=by rw[hzl];exact Nat.mod_lt _ hk
   exact⟨hj,by rw[bZ,aW hmz];exact congrArg some (getElem!_pos z _ hmz).symm⟩
  ·cases hv
 refine⟨by simp,fun v hv=> ?_,fun j v c hv hc=> ?_⟩
 ·obtain⟨j,hj⟩:=be.1 hv
  exact hcr.one v (aF (hget j v hj).2)
 ·obtain⟨h1,h2⟩:=hget j v hv
  rw[s0D zs m j h1,←hzl]at hc
  exact hcr.rep _ v c h2 hc
theorem m0o(t tx ty e:TypeId)(i:TypeInfo)(z:Value)(ik:IntKind)(ht:P.underlying t=some (.slice e))(hi:P.info? e=some i)(hz:i.zero=some z)(hk:P.underlying tx=some (.int ik))(hs0:0<i.size)
  (g sLen sCap:Nat) (cur:Array Value) (e':TypeId) (hg:w.heap[g]?=some (.cells cur e' (0,0))) (kk:IntKind) (m:Nat) (news:List Value) (hn:(Builtin.zeroCells z.cells m).toList=news) (h1: ∀u∈news,u.oneCell'=true)
  (hw:IntKind.i64.wrap (m:Int)=m) (hby: ¬(281474976710656<(m:Int)*i.bytes))
  (hroom:sLen+m≤sCap) (hfit:sLen*i.size+news.length≤cur.size):
  (Builtin.append_ #[t,tx] ty #[.slice (some ⟨g,0,none⟩) sLen sCap, .int kk m]).run P w=
   .ok (.slice (some ⟨g,0,none⟩) (sLen+m) sCap) (w.setRow g (cur.toList.take (sLen*i.size)++news++cur.toList.drop (sLen*i.size+news.length)).toArray):=by
 have hst:=run_storeCells_at P g (sLen*i.size) e' news 0 cur w hg (by simpa using hfit) h1
 simp only[Nat.add_zero]at hst
 have hneg: ¬((m:Int)<0):=by omega
 by_cases hm:m=0
 ·subst hm
  have hn0:news=[]:=by rw[←hn];apply al;simp[Builtin.zeroCells]
  subst hn0
  have hw0:IntKind.i64.wrap 0=0:=by decide
  have hr0:sLen≤sCap:=hroom
  simp[Builtin.append_,run_underlying ht,run_underlying hk,sizeOf,typeInfo,hi,asInt,asIntOf,hw0,hr0,storeCells,Addr.add_lit]at hst⊢
  exact hst
 ·have hmm: ¬(m*i.size=0):=by intro h0;rcases Nat.mul_eq_zero.1 h0 with h0|h0<;>omega
  have hm2: ¬(m=0∨i.size=0):=by omega
  simp[Builtin.append_,run_underlying ht,run_underlying hk,sizeOf,typeInfo,zeroValue,hi,hz,asInt,asIntOf,hw,hneg,hby,hroom,hmm,hn,Addr.add_lit,hst]
theorem m0q(t tx ty e:TypeId)(i:TypeInfo)(z:Value)(ik:IntKind)(ht:P.underlying t=some (.slice e))(hi:P.info? e=some i)(hz:i.zero=some z)(hk:P.underlying tx=some (.int ik))(hs0:0<i.size)(base:Option Addr)(sLen sCap:Nat)(olds:List Value)
  (hold:(Builtin.firstCells i.size sLen (.slice base sLen sCap)).run P w.drew= .ok olds.toArray w.drew) (kk:IntKind) (m:Nat) (news:List Value) (hn:(Builtin.zeroCells z.cells m).toList=news)
  (hw:IntKind.i64.wrap (m:Int)=m) (hby: ¬(281474976710656<(m:Int)*i.bytes))
  (hg:sCap<sLen+m) (h63:((sLen+m:Nat):Int)≤9223372036854775807) (hfit:Builtin.nextslicecap (sLen+m) sCap*i.bytes≤281474976710656):
  (Builtin.append_ #[t,tx] ty #[.slice base sLen sCap, .int kk m]).run P w=
   .ok (.slice (some ⟨w.heap.size,0,none⟩) (sLen+m) (grownCap w (sLen+m) sCap e))
    (w.drew.alloc (.cells ((olds++news).toArray++Builtin.zeroCells z.cells (grownCap w (sLen+m) sCap e-(sLen+m))) e)):=by
 have hnr: ¬(sLen+m≤sCap):=by omega
 have h63': ¬(9223372036854775807<((sLen:Int)+(m:Int))):=by omega
 have h48': ¬(281474976710656<Builtin.nextslicecap (sLen+m) sCap*i.bytes):=by omega
 have hneg: ¬((m:Int)<0):=by omega
 by_cases hm:m=0
 ·subst hm
  have hn0:news=[]:=by rw[←hn];apply al;simp[Builtin.zeroCells]
  subst hn0
  have hw0:IntKind.i64.wrap 0=0:=by decide
  have hnr': ¬(sLen≤sCap):=hnr
  have h63'': ¬(9223372036854775807<(sLen:Int)):=by omega
  simp[Builtin.append_,run_underlying ht,run_underlying hk,sizeOf,typeInfo,zeroValue,hi,hz,asInt,asIntOf,hw0,hnr',h63'',h48',Question.forced,hold,newRow,grownCap]
  intro hbad;exact absurd hbad h48'
 ·have hmm: ¬(m*i.size=0):=by intro h0;rcases Nat.mul_eq_zero.1 h0 with h0|h0<;>omega
  have hm2: ¬(m=0∨i.size=0):=by omega
  simp[Builtin.append_,run_underlying ht,run_underlying hk,sizeOf,typeInfo,zeroValue,hi,hz,asInt,asIntOf,hw,hneg,hby,hnr,hmm,h63',h48',Question.forced,hold,newRow,grownCap]
  congr 2
  apply Array.ext'
  simp[aL,hn]
theorem RoomE.le {e m n:Nat} (h:RoomE P e n)(hm:m≤n):RoomE P e m:=by
 rcases h with h|⟨h1,h2⟩
 ·exact .inl (by unfold u0O at*;omega)
 ·exact .inr ⟨h1,by omega⟩
structure y0j (P:Program) (w:World) (K:Nat→Nat) (D:DM) (t tx ty e:TypeId) (i:TypeInfo) (z:Value) (y:Value) (m:Nat) (news:List Value) (cs:List SV):Prop where
 newsLen:news.length=m*i.size
 cr:CR w K D news cs
 plain:b0x cs=true
 nil0:m=0→ ∀ad,(Builtin.append_ #[t,tx] ty #[.slice ad 0 0,y]).run P w= .ok (.slice ad 0 0) w
 room: ∀(g sLen sCap:Nat) (cur:Array Value) (e':TypeId),w.heap[g]?=some (.cells cur e' (0,0))→sLen+m≤sCap→sLen*i.size+news.length≤cur.size→
  (Builtin.append_ #[t,tx] ty #[.slice (some ⟨g,0,none⟩) sLen sCap,y]).run P w=
   .ok (.slice (some ⟨g,0,none⟩) (sLen+m) sCap) (w.setRow g (cur.toList.take (sLen*i.size)++news++cur.toList.drop (sLen*i.size+news.length)).toArray)
 grow: ∀(base:Option Addr) (sLen sCap:Nat) (olds:List Value),(Builtin.firstCells i.size sLen (.slice base sLen sCap)).run P w.drew= .ok olds.toArray w.drew→sCap<sLen+m→
  ((sLen+m:Nat):Int)≤9223372036854775807→Builtin.nextslicecap (sLen+m) sCap*i.bytes≤281474976710656→
  (Builtin.append_ #[t,tx] ty #[.slice base sLen sCap,y]).run P w=
   .ok (.slice (some ⟨w.heap.size,0,none⟩) (sLen+m) (grownCap w (sLen+m) sCap e))
    (w.drew.alloc (.cells ((olds++news).toArray++Builtin.zeroCells z.cells (grownCap w (sLen+m) sCap e-(sLen+m))) e))
theorem SrcAt.app {k m:Nat} {t tx ty e:TypeId} {i:TypeInfo} {z y:Value} {news:List Value} {cs:List SV} (hs:SrcAt P w K D k tx y m news cs)(ht:P.underlying t=some (.slice e))(hi:P.info? e=some i)(hz:i.zero=some z)(hk:i.size=k):
  y0j P w K D t tx ty e i z y m news cs:=by
 subst hk
 refine⟨hs.src.newsLen,hs.cr,hs.plain,fun hm ad=> ?_,fun g sLen sCap cur e' hg hr hf=>m0p t tx ty e i ht hi g sLen sCap cur e' hg y m news hs.src hr hf,
  fun base sLen sCap olds hold hg h63 hfit=>run_append_grow_src w t tx ty e i z ht hi hz base sLen sCap olds hold y m news hs.src hg h63 hfit⟩
 subst hm
 have hn:news=[]:=al (by have:=hs.src.newsLen;simpa using this)
 subst hn
 have hc':=hs.src.cells
 cases ad<;>rcases hs.src.kind with⟨e2,hk2⟩|hk2<;>
  simp[Builtin.append_,run_underlying ht,run_underlying hk2,sizeOf,typeInfo,hi,hs.src.len,hc',storeCells]
theorem x0c {m:Nat} (h:m≤140737488400000):IntKind.i64.wrap (m:Int)=m:=by
 unfold IntKind.wrap
 simp only[IntKind.signed,IntKind.bits,bI,Bool.false_and,aE,if_false,decide_eq_true_eq]
 first|omega|(split<;>rename_i hc<;>simp at hc<;>omega)
theorem z0D {t tx ty e:TypeId} {i:TypeInfo} {z:Value} {ik kk:IntKind} {m:Nat} {zs:List SV} (ht:P.underlying t=some (.slice e))(hi:P.info? e=some i)(hz:i.zero=some z)(hx:P.underlying tx=some (.int ik))(hk0:0<i.size)(hzs:z.cells.size=i.size)
  (hs:m0V P e=some zs) (hp:b0x zs=true) (hrm:RoomE P e m) (hby:i.bytes≤4096):
  y0j P w K D t tx ty e i z (.int kk m) m (Builtin.zeroCells z.cells m).toList (List.replicate m zs).flatten:=by
 obtain⟨i',z',hi',hz',hl,hc,_,hcr⟩:=k0s hs
 rw[hi]at hi';cases hi'
 rw[hz]at hz';cases hz'
 have hm63:m≤140737488400000:=by
  rcases hrm with hr|hr
  ·unfold u0O at hr;omega
  ·exact hr.2
 have hmb: ¬(281474976710656<(m:Int)*i.bytes):=by
  rcases hrm with hr|⟨hr,hr2⟩
  ·unfold u0O at hr
   have:m*i.bytes≤4294967296*4096:=Nat.mul_le_mul hr hby
   rw[←Int.natCast_mul];omega
  ·unfold k0C at hr
   rw[hi]at hr
   have hr:=eq_of_beq hr
   rw[hr];omega
 have hw:=x0c hm63
 have hcrm:=p0r (hcr w K D) (by omega) m
 have hzz:z.cells.size=zs.length:=by omega
 have hnews:(Builtin.zeroCells z.cells m).toList=((Array.range (m*zs.length)).map (z.cells[· %z.cells.size]!)).toList:=by
  unfold Builtin.zeroCells;rw[hzz]
 rw[←hnews]at hcrm
 refine⟨by rw[bU,size_zeroCells,hzs],hcrm,n0x hp m,fun hm ad=> ?_,fun g sLen sCap cur e' hg hr hf=>m0o t tx ty e i z ik ht hi hz hx hk0 g sLen sCap cur e' hg kk m _ rfl hcrm.one hw hmb hr hf,
  fun base sLen sCap olds hold hg h63 hfit=>m0q t tx ty e i z ik ht hi hz hx hk0 base sLen sCap olds hold kk m _ rfl hw hmb hg h63 hfit⟩
 subst hm
 have hw0:IntKind.i64.wrap 0=0:=by decide
 cases ad<;>simp[Builtin.append_,run_underlying ht,run_underlying hx,sizeOf,typeInfo,hi,asInt,asIntOf,hw0,storeCells]
theorem v0e(h:HInv w K D H) {k m:Nat} {t tx ty e:TypeId} {i:TypeInfo} {z y:Value} {sy:SV} {cs:List SV} {rd:List Nat} (ht:P.underlying t=some (.slice e))(hi:P.info? e=some i)(hz:i.zero=some z)(hzs:z.cells.size=i.size)(hk:i.size=k)(hk0:0<k)(hby:i.bytes≤4096)
  (hr:Rep w K D y sy) (hs:x0m P e k tx sy H=some (m,cs,rd)) (hp:A0r sy=true) (hrm:RoomE P e m): ∃news,y0j P w K D t tx ty e i z y m news cs:=by
 unfold x0m at hs
 split at hs
 ·rename_i kk l
  split at hs
  ·rename_i ik zs hx hzz
   split at hs<;>cases hs
   rename_i hc
   cases hr
   have hl:(0:Int)≤l:=of_decide_eq_true hp
   have hl2:l=(l.toNat:Int):=by omega
   rw[show Value.int kk l=Value.int kk (l.toNat:Int) by rw[←hl2]]
   exact⟨_,z0D ht hi hz hx (by omega) hzs hzz hc.1 hrm hby⟩
  ·cases hs
 ·split at hs
  ·rename_i hst
   obtain⟨news,hsrc⟩:=q0A (P:=P) (tx:=tx) h hk0 hr hs hst
   exact⟨news,hsrc.app ht hi hz hk⟩
  ·cases hs
theorem l0r(h:HInv w K D H) {idx:Nat} (hidx:CanNew H idx)(x:Option Nat)(hx:x≠some idx) {e k m sLen sCap:Nat} {base:Option Addr} {y:Value} {olds news:List Value} {cs cs2:List SV} {t tx ty:TypeId} {i:TypeInfo} {z:Value}
  (ht:P.underlying t=some (.slice e)) (hi:P.info? e=some i) (hz:i.zero=some z) (hzs:z.cells.size=i.size) (hk:i.size=k) (hk0:0<k) (hby:i.bytes≤4096)
  (hold:(Builtin.firstCells i.size sLen (.slice base sLen sCap)).run P w.drew= .ok olds.toArray w.drew) (hol:olds.length=sLen*k) (hco:CR w K D olds cs) (hpo:b0x cs=true)
  (hsrc:y0j P w K D t tx ty e i z y m news cs2) (hrm:RoomE P e (sLen+m)) (hlt:sCap<sLen+m):
  ∃v' w',(Builtin.append_ #[t,tx] ty #[.slice base sLen sCap,y]).run P w= .ok v' w'∧Good w K D H v' w' (.vc idx) (g0w (h0N H x) idx (.vec (sLen+m) k e (cs++cs2))):=by
 subst hk
 have hnl:news.length=m*i.size:=hsrc.newsLen
 have hsz:sLen+m≤140737488400000:=by
  rcases hrm with hr|hr
  ·unfold u0O at hr;omega
  ·exact hr.2
 have hb:((sLen+m)+(sLen+m)/4+192)*i.bytes≤281474976710656:=by
  rcases hrm with hr|⟨hr,hr2⟩
  ·unfold u0O at hr
   exact aV (Nat.mul_le_mul (show(sLen+m)+(sLen+m)/4+192≤5368709312 by omega) hby) (by decide)
  ·unfold k0C at hr
   rw[hi]at hr
   have hr:=eq_of_beq hr
   rw[hr];omega
 have hrun:=hsrc.grow base sLen sCap olds hold hlt (by omega) (growslice_fits_wide (by omega) hb)
 have hge:=grownCap_ge w (sLen+m) sCap e
 have hcm:=grownCap_le_maxLen w (sLen+m) sCap e (by unfold maxLen;omega)
 have hzl:(Builtin.zeroCells z.cells (grownCap w (sLen+m) sCap e-(sLen+m))).toList.length=(grownCap w (sLen+m) sCap e-(sLen+m))*i.size:=by
  rw[bU,size_zeroCells,hzs]
 have hpl:b0x (cs++cs2)=true:=by simp only[b0x,aN,ac];exact⟨hpo,hsrc.plain⟩
 refine⟨_,_,hrun,s0k (L:=(olds++news).toArray++Builtin.zeroCells z.cells (grownCap w (sLen+m) sCap e-(sLen+m))) (vs:=olds++news) (rest:=(Builtin.zeroCells z.cells (grownCap w (sLen+m) sCap e-(sLen+m))).toList) h hidx x hx (hco.append hsrc.cr) hpl
  (Array.ext' (by simp)) rfl rfl rfl rfl hk0 (by rw[ag,hol,hnl,Nat.add_mul]) hge ?_ hcm⟩
 rw[ag,ag,hzl,hol,hnl,←Nat.add_mul,←Nat.add_mul]
 congr 1;omega
theorem w0Q(h:HInv w K D H)(hs:Slots n w K D ρ a.tmps) {c:Call} (ho:o.op= .call c)(hcal:c.callee= .builtin .append)(hb: ∀x∈c.args,Operand.inB n x=true) {idx:Nat} (hidx:CanNew H idx) {ef:Eff}
  (he:m0F P c ρ H idx=some ef):n0w P w K D H o a ef.v (b0M H ef.wr):=by
 unfold m0F at he
 split at he
 ·rename_i x y t tx hargs htys
  have ha:c.args= #[x,y]:=by rw[←bg];exact hargs
  have hty:c.argTypes= #[t,tx]:=by rw[←bg];exact htys
  have hxb:=hb x (by rw[ha];simp)
  have hyb:=hb y (by rw[ha];simp)
  have hrun: ∀r w',(Builtin.append_ #[t,tx] o.type #[a.eval x,a.eval y]).run P w= .ok r w'→(execOp a.eval o).run P w= .ok (.value r) w':=fun r w' hr=>by
   unfold execOp
   simp only[ho,resolve,hcal,ha,hty,invoke,builtin,Sem.run_bind,Sem.run_pure,Result.andThen_ok,bR,ah,ay,hr]
  split at he
  ·rename_i e sy hu hxe hye
   split at he
   ·rename_i m cs2 rd hsc
    split at he<;>cases he
    rename_i hc
    obtain⟨hok,hst,hrm⟩:=hc
    obtain⟨i,z,hi,hz,hzs,hk,hk0,hby⟩:=e0U hok
    obtain⟨news,hsrc⟩:=v0e (P:=P) (ty:=o.type) h hu hi hz hzs hk hk0 hby (a0j hs hyb hye) hsc hst (RoomE.le hrm (by omega))
    have hrx:=a0j hs hxb hxe
    generalize hvx:a.eval x=vx at hrx
    cases hrx with
    |nl ad=>
     simp only[b0M]
     by_cases hm:m=0
     ·subst hm
      have hn:news=[]:=al (by have:=hsrc.newsLen;simpa using this)
      subst hn
      have hc2:cs2=[]:=al hsrc.cr.len
      subst hc2
      obtain⟨g,hiv⟩:=n0Y h hidx none (by simp) (P.cellsOf e) e
      rw[f0a]at g hiv
      refine⟨.slice ad 0 0,w, .inl (hrun _ _ ?_),⟨K,_,g,hiv, ?_⟩⟩
      ·rw[hvx];exact hsrc.nil0 rfl ad
      ·exact .vcn idx ad (by simp[f0e])
     ·have hold:(Builtin.firstCells i.size 0 (.slice ad 0 0)).run P w.drew= .ok ([]:List Value).toArray w.drew:=by
       cases ad with
       |none=>exact run_firstCells_none w.drew i.size 0 0 0
       |some b=>exact run_firstCells_some w.drew i.size 0 b 0 0 [] (by simp) (fun j u hu=>by simp at hu)
      obtain⟨v',w',h1,h2⟩:=l0r (P:=P) (ty:=o.type) h hidx none (by simp) hu hi hz hzs hk hk0 hby hold (by simp) CR.nil rfl hsrc (by rw[aU];exact hrm) (by omega)
      rw[aU,bu,f0a]at h2
      exact⟨v',w', .inl (hrun _ _ (by rw[hvx];exact h1)),h2⟩
   ·cases he
  ·rename_i e i0 sy hu hxe hye
   split at he
   ·rename_i nn k e' cs hH
    split at he
    ·rename_i m cs2 rd hsc
     split at he<;>cases he
     rename_i hc
     obtain⟨rfl,hok,hst,hrm⟩:=hc
     obtain⟨i,z,hi,hz,hzs,hk,hk0,hby⟩:=e0U hok
     obtain⟨news,hsrc⟩:=v0e (P:=P) (ty:=o.type) h hu hi hz hzs hk hk0 hby (a0j hs hyb hye) hsc hst (RoomE.le hrm (by omega))
     have hrx:=a0j hs hxb hxe
     generalize hvx:a.eval x=vx at hrx
     have hne:i0≠idx:=by
      rintro rfl
      rcases hidx with hq|hq
      ·rw[hq,aw (ak _)]at hH;cases hH
      ·rw[hq]at hH;cases hH
     have hil:i0<H.length:=(ab.1 hH).1
     have hkill:b0M H [(i0,Ent.gone),(idx, .vec (nn+m) k e (cs++cs2))]=g0w (h0N H (some i0)) idx (.vec (nn+m) k e (cs++cs2)):=by
      simp only[b0M,h0N]
      rw[show g0w H i0 .gone=H.set i0 .gone from by unfold g0w;rw[if_pos hil]]
     simp only[hkill]
     obtain⟨hpo,hent⟩:=h.ent i0 _ hH
     rcases hent with⟨h1,h2,h3⟩|⟨b,cp,vs,rest,h1,h2,h3,h4,h5,h6,h7,h8,h9⟩
     ·subst h2;subst h3
      cases hrx with
      |vc _ b c n hd=>rw[h1]at hd;cases hd
      |vcn _ ad hd=>
       by_cases hm:m=0
       ·subst hm
        have hn:news=[]:=al (by have:=hsrc.newsLen;simpa using this)
        subst hn
        have hc2:cs2=[]:=al hsrc.cr.len
        subst hc2
        obtain⟨g,hiv⟩:=n0Y h hidx (some i0) (by simpa using hne) k e
        refine⟨.slice ad 0 0,w, .inl (hrun _ _ ?_),⟨K,_,g,hiv, .vcn idx ad (by simp[f0e])⟩⟩
        rw[hvx];exact hsrc.nil0 rfl ad
       ·have hold:(Builtin.firstCells i.size 0 (.slice ad 0 0)).run P w.drew= .ok ([]:List Value).toArray w.drew:=by
         cases ad with
         |none=>exact run_firstCells_none w.drew i.size 0 0 0
         |some b=>exact run_firstCells_some w.drew i.size 0 b 0 0 [] (by simp) (fun j u hu=>by simp at hu)
        obtain⟨v',w',g1,g2⟩:=l0r (P:=P) (ty:=o.type) h hidx (some i0) (by simpa using hne) hu hi hz hzs hk hk0 hby hold (by simp) CR.nil rfl hsrc hrm (by omega)
        exact⟨v',w', .inl (hrun _ _ (by rw[hvx];exact g1)),g2⟩
     ·cases hrx with
      |vcn _ ad hd=>rw[h1]at hd;cases hd
      |vc _ b' c' n' hd=>
       rw[h1]at hd;cases hd
       have hrow:=f0v h6 h9
       by_cases hroom:nn+m≤cp
       ·subst hk
        have hnl:news.length=m*i.size:=hsrc.newsLen
        have hnm:(nn+m)*i.size≤cp*i.size:=aR _ hroom
        rw[Nat.add_mul]at hnm
        have hrl:rest.length=cp*i.size-nn*i.size:=by rw[←h8,ag,h7];omega
        have hfit:nn*i.size+news.length≤(vs++rest).toArray.size:=by rw[hnl];simp only[List.size_toArray,h8];omega
        have hrun1:=hsrc.room b nn cp (vs++rest).toArray e h6 hroom hfit
        have hnew:=setRow_heap w b (vs++rest).toArray ((vs++rest).toArray.toList.take (nn*i.size)++news++(vs++rest).toArray.toList.drop (nn*i.size+news.length)).toArray e _ h6
        have hrw:((vs++rest).toArray.toList.take (nn*i.size)++news++(vs++rest).toArray.toList.drop (nn*i.size+news.length)).toArray=((vs++news)++rest.drop news.length).toArray:=by
         congr 1
         simp only[]
         rw[←h7,List.take_left,cz,aY (by omega),bu]
         congr 2;omega
        rw[hrw]at hrun1 hnew
        generalize hw':w.setRow b ((vs++news)++rest.drop news.length).toArray=w' at hrun1 hnew
        have hother: ∀c,c≠b→w'.heap[c]?=w.heap[c]?:=fun c hcb=>by rw[←hw'];exact setRow_other w b c _ hcb
        obtain⟨g,hiv⟩:=place (w':=w') (en:= .vec (nn+m) i.size e (cs++cs2)) (b:=b) (c:=cp) (m:=nn+m) h hidx (x:=some i0) (by simpa using hne) (.inr ⟨i0,_,cp,nn,rfl,hH,rfl,h1⟩)
         (by rw[←hw'];rfl) (by rw[←hw'];rfl) (by rw[←hw'];rfl) (by rw[←hw'];simp) (fun b' hb' _=>hother b' hb')
         (fun hr=>⟨by simp only[b0x,aN,ac];exact⟨hpo,hsrc.plain⟩, .inr ⟨b,cp,vs++news,rest.drop news.length,by simp[f0e],h2,hk0,hroom,h5,hnew,
          by rw[ag,h7,hnl,Nat.add_mul],by simp only[ag,aO,h7,hnl,hrl];omega,(h9.append hsrc.cr).mono hr⟩⟩)
        exact⟨_,w', .inl (hrun _ _ (by rw[hvx];exact hrun1)),⟨K,_,g,hiv, .vc idx b cp (nn+m) (by simp[f0e])⟩⟩
       ·obtain⟨v',w',g1,g2⟩:=l0r (P:=P) (ty:=o.type) h hidx (some i0) (by simpa using hne) hu hi hz hzs hk hk0 hby
         (run_firstCells_some w.drew i.size nn ⟨b,0,none⟩ nn cp vs (by rw[hk];exact h7) (fun j u hu=>by rw[add_lit];exact hrow.mem j u hu)) h7 h9 hpo hsrc hrm (by omega)
        exact⟨v',w', .inl (hrun _ _ (by rw[hvx];exact g1)),g2⟩
    ·cases he
   ·cases he
  ·cases he
 ·cases he
end
end Go.Sy
