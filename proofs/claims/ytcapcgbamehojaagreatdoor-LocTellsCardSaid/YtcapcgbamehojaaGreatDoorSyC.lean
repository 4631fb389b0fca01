/-
 The second shadow machine, part 3: operations that touch no entry.
-/
import Derived.Test.YtcapcgbamehojaaGreatDoorSyB
namespace Go.Sy
open Go Go.RowKit
set_option linter.unusedSimpArgs false
set_option linter.unusedVariables false
set_option linter.unusedSectionVars false
variable [Inhabited GT]
abbrev Env:=Nat→SV
def upd(ρ:Env)(d:Nat)(v:SV):Env:=fun i=>if i=d then v else ρ i
def k0U(ρ:Env)(d:Option Nat)(s:SV):Env:=match d with
 |some d=>upd ρ d s
 |none=>ρ
def Operand.inB(n:Nat):Operand→Bool
 | .tmp t=>decide (t<n)
 |_=>true
def k0Y(w:World)(K:Nat→Nat)(D:DM):Prop:= ∀g cs,B0h g=some cs→Rep w K D (.pointer (some ⟨g,0,none⟩)) (.ep cs)
structure Slots (n:Nat) (w:World) (K:Nat→Nat) (D:DM) (ρ:Env) (tm:Array Value):Prop where
 size:tm.size=n
 rep: ∀i,i<n→Rep w K D (tm.getD i undef) (ρ i)
 glob:k0Y w K D
theorem Slots.mono {n:Nat} {w w':World} {K K':Nat→Nat} {D D':DM} {ρ:Env} {tm:Array Value} (h:Slots n w K D ρ tm)(hr: ∀v s,Rep w K D v s→Rep w' K' D' v s):Slots n w' K' D' ρ tm:=
 ⟨h.size,fun i hi=>hr _ _ (h.rep i hi),fun g cs hg=>hr _ _ (h.glob g cs hg)⟩
theorem Slots.put {n:Nat} {w:World} {K:Nat→Nat} {D:DM} {ρ:Env} {a:Act} (h:Slots n w K D ρ a.tmps)(d:Option Nat) {r:Value} {s:SV} (hr:Rep w K D r s):Slots n w K D (k0U ρ d s) (a.put d r).tmps:=by
 cases d with
 |none=>exact h
 |some d=>
  refine⟨by simpa [Act.put]using h.size,fun i hi=> ?_,h.glob⟩
  simp only[k0U,upd,Act.put]
  by_cases hd:i=d
  ·subst hd
   have:i<a.tmps.size:=by rw[h.size];exact hi
   simpa [Array.getD,this]using hr
  ·rw[if_neg hd]
   have:=h.rep i hi
   simpa [bD,Ne.symm hd]using this
theorem i0N {w:World} {K:Nat→Nat} {D:DM} {v:Value} {s:SV} (h:k0n v=some s):Rep w K D v s:=by
 unfold k0n at h
 split at h<;>cases h
 ·exact .bool _
 ·exact .int _ _
 ·exact .str _
 ·exact .nl _
 ·exact .nilp
theorem a0j {n:Nat} {w:World} {K:Nat→Nat} {D:DM} {ρ:Env} {a:Act} (h:Slots n w K D ρ a.tmps) {x:Operand} (hx:Operand.inB n x=true) {s:SV}
  (hv:a0Y ρ x=some s):Rep w K D (a.eval x) s:=by
 cases x with
 |tmp t=>
  cases hv
  exact h.rep t (by simpa [Operand.inB]using hx)
 |const v=>
  cases hc:k0n v with
  |none=>simp only[a0Y,hc,Option.getD_none,ai]at hv;subst hv;exact .undef _
  |some c=>simp only[a0Y,hc,bJ,ai]at hv;subst hv;exact i0N hc
 |global g=>
  cases hg:B0h g with
  |none=>simp only[a0Y,hg,Option.map_none]at hv;cases hv
  |some cs=>
   simp only[a0Y,hg,aI,ai]at hv
   subst hv
   exact h.glob g cs hg
 |func f=>
  cases hv
  exact .fn _ [] [] [] [] rfl rfl (fun j v c e=>by simp at e) (fun j v c e=>by simp at e)
def b0T(P:Program)(t:TypeId)(cs:List SV):Option SV:=
 match P.underlying t with
 |some (.struct _)=>if P.cellsOf t≤cs.length then some (.agg (cs.take (P.cellsOf t)))else none
 |some (.array _ _)=>if P.cellsOf t≤cs.length then some (.agg (cs.take (P.cellsOf t)))else none
 |some _=>match cs with
  |c::_=>some c
  | []=>none
 |none=>none
def B0C(op:UnOp)(a:SV):Option SV:=
 match op,a with
 | .neg, .int k n=>some (.int k (k.wrap (0-n)))
 | .xor, .int k n=>some (.int k (bits .xor k (if k.signed then-1 else k.max) n))
 | .not, .bool b=>some (.bool !b)
 |_,_=>none
def r0y(P:Program)(dst:TypeId)(a:SV):Option SV:=
 match P.underlying dst,a with
 |some (.int k), .int _ n=>some (.int k (k.wrap n))
 |_,_=>none
def B0I(P:Program)(t:TypeId)(s:SV):Option SV:=
 match P.underlying t,s with
 |some (.slice _), .lst n _ _=>some (.int .i64 n)
 |some (.slice _), .nl=>some (.int .i64 0)
 |some (.slice _), .sl _ _ n _=>some (.int .i64 n)
 |some .string, .str s=>some (.int .i64 s.length)
 |some (.array n _),_=>some (.int .i64 n)
 |_,_=>none
def g0t(ρ:Env)(lo:Option Operand)(d:Int):Option Int:=
 match lo with
 |none=>some d
 |some l=>match a0Y ρ l with
  |some (.int _ n)=>some n
  |_=>none
def B0q(n k:Nat)(cs:List SV)(i:Int):Option SV:=if 0<k∧0≤i∧i<n then some (.ep ((cs.drop (i.toNat*k)).take k))else none
def v0h(n k:Nat)(cs:List SV)(l h:Int):Option SV:=if 0<k∧0≤l∧l≤h∧h≤n then some (.lst (h.toNat-l.toNat) k ((cs.take (h.toNat*k)).drop (l.toNat*k)))else none
def w0I(P:Program)(c:Call)(ρ:Env):Option SV:=
 match c.callee with
 | .builtin .len=>match c.args.toList,c.argTypes.toList with
  | [x],[t]=>(a0Y ρ x).bind (B0I P t)
  |_,_=>none
 |_=>none
def SV.cells?:SV→Option (List SV)
 | .undef=>none
 | .agg cs=>some cs
 | .tup _=>none
 | .ep _=>none
 |s=>some [s]
def u0P(v:Value):Option SV:=match k0n v with
 |some s=>some s
 |none=>if v.oneCell'=true then some .undef else none
def m0D(v:Value):Option (List SV):=v.cells.toList.mapM u0P
def m0V(P:Program)(t:TypeId):Option (List SV):=
 match P.info? t with
 |some i=>match i.zero with
  |some z=>match m0D z with
   |some cs=>if cs.length=i.size then some cs else none
   |none=>none
  |none=>none
 |none=>none
def splice(cs:List SV)(off:Nat)(ps:List SV):List SV:=cs.take off++(ps++cs.drop (off+ps.length))
def l0Z(ρ:Env)(place:Nat→Option (Nat×Nat))(cs:List SV):List (Nat×Operand)→Option (List SV)
 | []=>some cs
 |(i,x)::rest=>match place i,(a0Y ρ x).bind SV.cells? with
  |some (off,size),some ps=>if ps.length=size∧off+ps.length≤cs.length then l0Z ρ place (splice cs off ps) rest else none
  |_,_=>none
def t0o(P:Program)(t:TypeId):Option (List (Nat×Nat)):=
 match P.underlying t with
 |some (.struct fs)=>fs.toList.mapM fun f=>(P.info? f.type).map fun i=>(f.offset,i.size)
 |_=>none
def r0x(P:Program)(t:TypeId):Option Nat:=
 match P.underlying t with
 |some (.array _ e)=>(P.info? e).map fun i=>i.size
 |_=>none
def a0k(P:Program)(o:Oper)(ρ:Env):Option SV:=
 match o.op with
 | .move x=>a0Y ρ x
 | .assign x=>a0Y ρ x
 | .pick c a b=>match a0Y ρ c with
  |some (.bool true)=>a0Y ρ a
  |some (.bool false)=>a0Y ρ b
  |_=>none
 | .binOp op t x y _=>match a0Y ρ x,a0Y ρ y with
  |some a,some b=>h0n (p0W P t) op a b
  |_,_=>none
 | .unOp op _ x=>match a0Y ρ x with
  |some a=>B0C op a
  |none=>none
 | .convert src dst x=>match P.underlying src,a0Y ρ x with
  |some _,some a=>r0y P dst a
  |_,_=>none
 | .extract t i=>match a0Y ρ t with
  |some (.tup vs)=>vs[i]?
  |_=>none
 | .nilCheck x=>match a0Y ρ x with
  |some (.ptr i off)=>some (.ptr i off)
  |some (.ep cs)=>some (.ep cs)
  |some (.fn (.func f) a b)=>some (.fn (.func f) a b)
  |_=>none
 | .indexAddr t x i=>match P.underlying t,a0Y ρ x,a0Y ρ i with
  |some (.slice e),some (.lst n k cs),some (.int _ j)=>if k=P.cellsOf e then B0q n k cs j else none
  |some (.slice e),some (.sl b off n k),some (.int _ j)=>if k=P.cellsOf e∧0<k∧0≤j∧j<n then some (.ptr b (off+j.toNat*k))else none
  |some (.array len e),some (.ep cs),some (.int _ n)=>if 0≤n∧n<len∧(n.toNat+1)*P.cellsOf e≤cs.length∧0<P.cellsOf e then some (.ep ((cs.drop (n.toNat*P.cellsOf e)).take (P.cellsOf e)))else none
  |some (.array len e),some (.ptr b off),some (.int _ n)=>if 0≤n∧n<len∧0<P.cellsOf e then some (.ptr b (off+n.toNat*P.cellsOf e))else none
  |_,_,_=>none
 | .fieldAddr s x f=>match P.underlying s with
  |some (.struct fs)=>match fs[f]?,a0Y ρ x with
   |some fd,some (.ep cs)=>if 0<P.cellsOf fd.type∧fd.offset≤cs.length then some (.ep (cs.drop fd.offset))else none
   |some fd,some (.ptr b off)=>if 0<P.cellsOf fd.type then some (.ptr b (off+fd.offset))else none
   |_,_=>none
  |_=>none
 | .field t x f=>match P.underlying t with
  |some (.struct fs)=>match fs[f]?,a0Y ρ x with
   |some fd,some (.agg cs)=>b0T P fd.type (cs.drop fd.offset)
   |_,_=>none
  |_=>none
 | .load t x=>match a0Y ρ x with
  |some (.ep cs)=>b0T P t cs
  |_=>none
 | .slice t x lo hi mx=>match P.underlying t,a0Y ρ x,mx with
  |some (.slice e),some (.lst n k cs),none=>
   match g0t ρ lo 0,g0t ρ hi (n:Int)with
   |some l,some h=>if k=P.cellsOf e then v0h n k cs l h else none
   |_,_=>none
  |some .string,some (.str s),none=>
   match g0t ρ lo 0,g0t ρ hi (s.length:Int)with
   |some l,some h=>if 0≤l∧l≤h∧h.toNat≤s.length then some (.str ((s.take h.toNat).drop l.toNat))else none
   |_,_=>none
  |_,_,_=>none
 | .index t x i=>match P.underlying t,a0Y ρ x,a0Y ρ i with
  |some .string,some (.str s),some (.int _ n)=>if 0≤n then(match s[n.toNat]? with|some b=>some (.int .u8 b.toNat)|none=>none)else none
  |some (.array len e),some (.agg cs),some (.int _ n)=>if 0≤n∧n<len then b0T P e (cs.drop (n.toNat*P.cellsOf e))else none
  |_,_,_=>none
 | .call c=>w0I P c ρ
 | .makeFunc fn first captured=>match first.toList.mapM (a0Y ρ),captured.toList.mapM (a0Y ρ)with
  |some a,some b=>some (.fn fn a b)
  |_,_=>none
 | .build t parts=>match m0V P t,t0o P t,r0x P t with
  |some zs,some pl,_=>(l0Z ρ (fun i=>pl[i]?) zs parts.toList).map .agg
  |some zs,none,some k=>(l0Z ρ (fun i=>some (i*k,k)) zs parts.toList).map .agg
  |_,_,_=>none
 |_=>none
section
variable {P : Program} {n : Nat} {w : World} {K : Nat → Nat} {D : DM} {ρ : Env} {a : Act} {o : Oper}
def f0y(P:Program)(w:World)(K:Nat→Nat)(D:DM)(o:Oper)(a:Act)(s:SV):Prop:=
 ∃r,(execOp a.eval o).run P w= .ok (.value r) w∧Rep w K D r s
theorem b0E {s:Sem Value} {r:Value} {w w':World} (h:s.run P w= .ok r w'):(do pure (Next.value (←s)):Sem Next).run P w= .ok (.value r) w':=by
 simp[h]
theorem add_lit(b off n:Nat):(⟨b,off,none⟩:Addr).add n=⟨b,off+n,none⟩:=by
 unfold Addr.add;split<;>simp_all
structure RowAt (w:World) (K:Nat→Nat) (D:DM) (b off:Nat) (vs:List Value) (cs:List SV):Prop where
 len:cs.length=vs.length
 mem: ∀j v,vs[j]?=some v→w.cell? ⟨b,off+j,none⟩=some v
 one: ∀v∈vs,v.oneCell'=true
 rep: ∀(j:Nat) (v:Value) (c:SV),vs[j]?=some v→cs[j]?=some c→Rep w K D v c
theorem RowAt.drop {b off:Nat} {vs:List Value} {cs:List SV} (h:RowAt w K D b off vs cs)(n:Nat):RowAt w K D b (off+n) (vs.drop n) (cs.drop n):=
 ⟨by simp[h.len],fun j v hj=>by rw[Nat.add_assoc];exact h.mem (n+j) v (by simpa using hj),fun c hc=>h.one c (bO hc),fun j v c hv hc=>h.rep (n+j) v c (by simpa using hv) (by simpa using hc)⟩
theorem RowAt.take {b off:Nat} {vs:List Value} {cs:List SV} (h:RowAt w K D b off vs cs)(n:Nat):RowAt w K D b off (vs.take n) (cs.take n):=
 ⟨by simp[h.len],fun j v hj=>h.mem j v (by rw[aX]at hj;split at hj<;>first|exact hj|cases hj),fun c hc=>h.one c (cf hc),fun j v c hv hc=>
  h.rep j v c (by rw[aX]at hv;split at hv<;>first|exact hv|cases hv) (by rw[aX]at hc;split at hc<;>first|exact hc|cases hc)⟩
theorem i0B {cs:List SV} (h:b0x cs=true)(n:Nat):b0x (cs.drop n)=true:=
 List.all_eq_true.2 fun c hc=>List.all_eq_true.1 h c (bO hc)
theorem i0A {cs:List SV} (h:b0x cs=true)(n:Nat):b0x (cs.take n)=true:=
 List.all_eq_true.2 fun c hc=>List.all_eq_true.1 h c (cf hc)
theorem i0O {t:TypeId} {b off:Nat} {vs:List Value} {cs:List SV} {s:SV} (h:RowAt w K D b off vs cs)(hv:b0T P t cs=some s):
  ∃r,(loadVar t ⟨b,off,none⟩).run P w= .ok r w∧Rep w K D r s:=by
 have hagg:(if P.cellsOf t≤cs.length then some (SV.agg (cs.take (P.cellsOf t)))else none)=some s→(isAgg t).run P w= .ok true w→P.underlying t≠none→
   ∃r,(loadVar t ⟨b,off,none⟩).run P w= .ok r w∧Rep w K D r s:=by
  intro h1 h2 h3
  split at h1<;>cases h1
  rename_i hle
  obtain⟨i,hi⟩: ∃i,P.info? t=some i:=by
   cases hi:P.info? t with
   |none=>exact absurd (by simp[Program.underlying,hi]) h3
   |some i=>exact⟨i,rfl⟩
  have hsz:P.cellsOf t=i.size:=by simp[Program.cellsOf,hi]
  have ht:=h.take (P.cellsOf t)
  refine⟨.agg (vs.take (P.cellsOf t)).toArray, ?_, .agg _ _ (by simp[h.len]) ht.one ht.rep⟩
  have hl:(vs.take (P.cellsOf t)).length=P.cellsOf t:=by simp;rw[←h.len];omega
  have:=run_loadCells_list (P:=P) (w:=w) ⟨b,off,none⟩ (vs.take (P.cellsOf t)) (fun j v hj=>by rw[add_lit];exact ht.mem j v hj)
  rw[hl]at this
  simp[loadVar,h2,sizeOf,typeInfo,hi,←hsz,this]
 unfold b0T at hv
 split at hv
 ·rename_i fs hu
  exact hagg hv (by simp[isAgg,run_underlying hu]) (by simp[hu])
 ·rename_i n e hu
  exact hagg hv (by simp[isAgg,run_underlying hu]) (by simp[hu])
 ·rename_i d hns hna hu
  split at hv<;>cases hv
  rename_i cs'
  cases vs with
  |nil=>have:=h.len;simp at this
  |cons v vs'=>
   refine⟨v, ?_,h.rep 0 v s rfl rfl⟩
   have hm:=h.mem 0 v rfl
   simp only[Nat.add_zero]at hm
   have hia:(isAgg t).run P w= .ok false w:=by
    simp only[isAgg,Sem.run_bind,run_underlying hu,Result.andThen_ok]
    cases d<;>first|rfl|exact(hns _ rfl).elim|exact(hna _ _ rfl).elim
   simp[loadVar,hia,run_load,hm]
 ·cases hv
theorem a0O {s:Sem Value} {r:Value} {c:SV} (he:execOp a.eval o=(do pure (Next.value (←s))))(hr:s.run P w= .ok r w)(h:Rep w K D r c):f0y P w K D o a c:=
 ⟨r,by rw[he];exact b0E hr,h⟩
theorem q0K {s:Sem Value} {c:SV} (he:execOp a.eval o=(do pure (Next.value (←s))))(h:PureV P w K D s c):f0y P w K D o a c:=
 let⟨_,hr,hrep⟩:=h;a0O he hr hrep
theorem m0u {v:Value} {cs:List SV} (h:Rep w K D v (.ep cs)): ∃b off vs,v= .pointer (some ⟨b,off,none⟩)∧RowAt w K D b off vs cs∧off+vs.length≤K b∧b0x cs=true:=by
 cases h with
 |ep b off vs _ hc hm hK h1 hp h=>exact⟨b,off,vs,rfl,⟨hc,hm,h1,h⟩,hK,hp⟩
theorem RowAt.ep {b off:Nat} {vs:List Value} {cs:List SV} (h:RowAt w K D b off vs cs)(hK:off+vs.length≤K b)(hp:b0x cs=true):Rep w K D (.pointer (some ⟨b,off,none⟩)) (.ep cs):=
 .ep b off vs cs h.len h.mem hK h.one hp h.rep
theorem i0z {v:Value} {n k:Nat} {cs:List SV} (h:Rep w K D v (.lst n k cs)):
  (∃a cap,v= .slice a 0 cap∧cs=[]∧n=0)∨ ∃b off cap vs,v= .slice (some ⟨b,off,none⟩) n cap∧RowAt w K D b off vs cs∧off+vs.length≤K b∧0<k∧vs.length=n*k∧n≤cap∧b0x cs=true:=by
 cases h with
 |emp _ a cap=>exact .inl ⟨a,cap,rfl,rfl,rfl⟩
 |lst _ b off len cap vs _ hk hl hc hcap hm hK h1 hp h=>exact .inr ⟨b,off,cap,vs,rfl,⟨hc,hm,h1,h⟩,hK,hk,hl,hcap,hp⟩
theorem RowAt.lst {b off len cap k:Nat} {vs:List Value} {cs:List SV} (h:RowAt w K D b off vs cs)(hK:off+vs.length≤K b)(hk:0<k)(hl:vs.length=len*k)(hcap:len≤cap)(hp:b0x cs=true):
  Rep w K D (.slice (some ⟨b,off,none⟩) len cap) (.lst len k cs):=
 .lst k b off len cap vs cs hk hl h.len hcap h.mem hK h.one hp h.rep
theorem m0R {t:TypeId} (h:0<P.cellsOf t): ∃i,P.info? t=some i∧i.size=P.cellsOf t:=by
 cases hi:P.info? t with
 |none=>simp[Program.cellsOf,hi]at h
 |some i=>exact⟨i,rfl,by simp[Program.cellsOf,hi]⟩
theorem c0D {t:TypeId} (h:0<P.cellsOf t):(sizeOf t).run P w= .ok (P.cellsOf t) w:=by
 obtain⟨i,hi,hs⟩:=m0R h
 simp[sizeOf,typeInfo,hi,hs]
theorem RowAt.part {b off n k:Nat} {vs:List Value} {cs:List SV} (h:RowAt w K D b off vs cs)(hK:off+vs.length≤K b)(hp:b0x cs=true)(hle:n+k≤cs.length):
  Rep w K D (.pointer (some ⟨b,off+n,none⟩)) (.ep ((cs.drop n).take k)):=
 ((h.drop n).take k).ep (by
  have:=h.len
  simp only[aH,aO]
  omega) (i0A (i0B hp n) k)
theorem r0p(h:Slots n w K D ρ a.tmps) {t:TypeId} {x i:Operand} (ho:o.op= .indexAddr t x i)(hx:Operand.inB n x=true)(hi:Operand.inB n i=true) {s:SV}
  (hs:a0k P o ρ=some s):f0y P w K D o a s:=by
 have he:execOp a.eval o=(do pure (Next.value (←Instr.indexAt t (a.eval x) (a.eval i)))):=by unfold execOp;rw[ho]
 simp only[a0k,ho]at hs
 split at hs
 ·rename_i e q k cs kk j hu hxe hie
  split at hs<;>try cases hs
  rename_i hk
  unfold B0q at hs
  split at hs<;>cases hs
  rename_i hc
  obtain⟨hk1,hn,hlt⟩:=hc
  have hrx:=a0j h hx hxe
  have hri:=a0j h hi hie
  generalize hvi:a.eval i=vi at hri
  cases hri
  rcases i0z hrx with⟨ea,ecap,hv,hcs,hn0⟩|⟨b,off,cap,vs,hv,hrow,hK,hk0,hl,hcap,hp⟩
  ·omega
  ·have hle:j.toNat*k+k≤cs.length:=by
    rw[hrow.len,hl,←bH]
    exact aR _ (by omega)
   subst hk
   refine a0O he (r:= .pointer (some ⟨b,off+j.toNat*P.cellsOf e,none⟩)) ?_ (hrow.part hK hp hle)
   rw[hv,hvi]
   simp[Instr.indexAt,asIntOf,run_underlying hu,c0D hk0,hn,hlt,add_lit]
 ·rename_i e bi off m k kk j hu hxe hie
  split at hs<;>cases hs
  rename_i hc
  obtain⟨hk,hk0,hn,hlt⟩:=hc
  have hrx:=a0j h hx hxe
  have hri:=a0j h hi hie
  generalize hvi:a.eval i=vi at hri
  cases hri
  generalize hvx:a.eval x=vx at hrx
  subst hk
  cases hrx with
  |sl _ _ _ _ b c m' cap hd hcap=>
   refine a0O he (r:= .pointer (some ⟨b,off+j.toNat*P.cellsOf e,none⟩)) ?_ (.ptr _ _ _ _ _ hd)
   rw[hvx,hvi]
   simp[Instr.indexAt,asIntOf,run_underlying hu,c0D hk0,hn,hlt,add_lit]
 ·rename_i len e cs kk j hu hxe hie
  split at hs<;>cases hs
  rename_i hc
  obtain⟨hn,hlen,hle,hk0⟩:=hc
  have hrx:=a0j h hx hxe
  have hri:=a0j h hi hie
  generalize hvi:a.eval i=vi at hri
  cases hri
  rw[bH]at hle
  obtain⟨b,off,vs,hv,hrow,hK,hp⟩:=m0u hrx
  refine a0O he (r:= .pointer (some ⟨b,off+j.toNat*P.cellsOf e,none⟩)) ?_ (hrow.part hK hp hle)
  rw[hv,hvi]
  simp[Instr.indexAt,Instr.sureAddr,asIntOf,run_underlying hu,c0D hk0,hn,hlen,add_lit]
 ·rename_i len e bx off kk j hu hxe hie
  split at hs<;>cases hs
  rename_i hc
  obtain⟨hn,hlen,hk0⟩:=hc
  have hrx:=a0j h hx hxe
  have hri:=a0j h hi hie
  generalize hvi:a.eval i=vi at hri
  cases hri
  generalize hvx:a.eval x=vx at hrx
  cases hrx with
  |ptr _ _ b c m hb=>
   refine a0O he (r:= .pointer (some ⟨b,off+j.toNat*P.cellsOf e,none⟩)) ?_ (.ptr _ _ _ _ _ hb)
   rw[hvx,hvi]
   simp[Instr.indexAt,Instr.sureAddr,asIntOf,run_underlying hu,c0D hk0,hn,hlen,add_lit]
 ·cases hs
theorem r0t(h:Slots n w K D ρ a.tmps) {t:TypeId} {x:Operand} {f:Nat} (ho:o.op= .fieldAddr t x f)(hx:Operand.inB n x=true) {s:SV}
  (hs:a0k P o ρ=some s):f0y P w K D o a s:=by
 have he:execOp a.eval o=(do pure (Next.value (←Instr.fieldAt t (a.eval x) f))):=by unfold execOp;rw[ho]
 simp only[a0k,ho]at hs
 split at hs
 ·rename_i fs hu
  split at hs
  ·rename_i fd cs hf hxe
   split at hs<;>cases hs
   rename_i hc
   obtain⟨hk0,hle⟩:=hc
   obtain⟨b,off,vs,hv,hrow,hK,hp⟩:=m0u (a0j h hx hxe)
   have hne:P.cellsOf fd.type≠0:=by omega
   refine a0O he (r:= .pointer (some ⟨b,off+fd.offset,none⟩)) ?_ ((hrow.drop fd.offset).ep (by have:=hrow.len;simp only[aO];omega) (i0B hp _))
   rw[hv]
   simp[Instr.fieldAt,Instr.sureAddr,run_underlying hu,hf,fieldPlace,c0D hk0,hne,add_lit]
  ·rename_i fd bx off hf hxe
   split at hs<;>cases hs
   rename_i hk0
   have hrx:=a0j h hx hxe
   generalize hvx:a.eval x=vx at hrx
   have hne:P.cellsOf fd.type≠0:=by omega
   cases hrx with
   |ptr _ _ b c m hb=>
    refine a0O he (r:= .pointer (some ⟨b,off+fd.offset,none⟩)) ?_ (.ptr _ _ _ _ _ hb)
    rw[hvx]
    simp[Instr.fieldAt,Instr.sureAddr,run_underlying hu,hf,fieldPlace,c0D hk0,hne,add_lit]
  ·cases hs
 ·cases hs
theorem z0x(h:Slots n w K D ρ a.tmps) {t:TypeId} {x:Operand} (ho:o.op= .load t x)(hx:Operand.inB n x=true) {s:SV}
  (hs:a0k P o ρ=some s):f0y P w K D o a s:=by
 have he:execOp a.eval o=(do pure (Next.value (←Instr.loadAt t (a.eval x)))):=by unfold execOp;rw[ho]
 simp only[a0k,ho]at hs
 split at hs
 ·rename_i cs hxe
  obtain⟨b,off,vs,hv,hrow,hK,hp⟩:=m0u (a0j h hx hxe)
  obtain⟨r,hr,hrep⟩:=i0O (P:=P) hrow hs
  exact a0O he (by rw[hv];simp[Instr.loadAt,Instr.sureAddr,hr]) hrep
 ·cases hs
theorem u0B(h:Slots n w K D ρ a.tmps) {x:Operand} {i:Nat} (ho:o.op= .extract x i)(hx:Operand.inB n x=true) {s:SV}
  (hs:a0k P o ρ=some s):f0y P w K D o a s:=by
 have he:execOp a.eval o=(do pure (Next.value (←Instr.extract (a.eval x) i))):=by unfold execOp;rw[ho]
 simp only[a0k,ho]at hs
 split at hs
 ·rename_i vs hxe
  have hrx:=a0j h hx hxe
  generalize hvx:a.eval x=vx at hrx
  cases hrx with
  |tup ws _ hl hrep=>
   have hi:i<ws.length:=by rw[←hl];exact(ab.1 hs).1
   have hg:ws[i]?=some ws[i]:=ae hi
   exact a0O he (r:=ws[i]) (by rw[hvx];simp[Instr.extract,hg]) (hrep i _ s hg hs)
 ·cases hs
theorem d0f {t:TypeId} {off:Nat} {vs:List Value} {cs:List SV} {s:SV} (hl:cs.length=vs.length)(h1: ∀v∈vs,v.oneCell'=true)
  (h: ∀(j:Nat) (v:Value) (c:SV),vs[j]?=some v→cs[j]?=some c→Rep w K D v c) (hv:b0T P t (cs.drop off)=some s):
  ∃r,(part t vs.toArray off).run P w= .ok r w∧Rep w K D r s:=by
 have hagg:(if P.cellsOf t≤(cs.drop off).length then some (SV.agg ((cs.drop off).take (P.cellsOf t)))else none)=some s→(isAgg t).run P w= .ok true w→P.underlying t≠none→
   ∃r,(part t vs.toArray off).run P w= .ok r w∧Rep w K D r s:=by
  intro h1' h2 h3
  split at h1'<;>cases h1'
  rename_i hle
  obtain⟨i,hi⟩: ∃i,P.info? t=some i:=by
   cases hi:P.info? t with
   |none=>exact absurd (by simp[Program.underlying,hi]) h3
   |some i=>exact⟨i,rfl⟩
  have hsz:P.cellsOf t=i.size:=by simp[Program.cellsOf,hi]
  refine⟨.agg ((vs.drop off).take (P.cellsOf t)).toArray, ?_, .agg _ _ (by simp[hl]) (fun c hc=>h1 c (bO (cf hc))) (fun j v c hv hc=> ?_)⟩
  ·simp only[part,Sem.run_bind,h2,Result.andThen_ok,if_true,sizeOf,typeInfo,run_program,hi,Sem.run_pure,←hsz]
   congr 2
   apply Array.ext'
   simp[bP]
  ·rw[aX]at hv hc
   by_cases hj:j<P.cellsOf t
   ·rw[if_pos hj]at hv hc
    exact h (off+j) v c (by simpa using hv) (by simpa using hc)
   ·rw[if_neg hj]at hv;cases hv
 unfold b0T at hv
 split at hv
 ·rename_i fs hu
  exact hagg hv (by simp[isAgg,run_underlying hu]) (by simp[hu])
 ·rename_i n e hu
  exact hagg hv (by simp[isAgg,run_underlying hu]) (by simp[hu])
 ·rename_i d hns hna hu
  split at hv<;>cases hv
  rename_i cs' hcs
  have hc:cs[off]?=some s:=by
   have:(cs.drop off)[0]?=some s:=by rw[hcs];rfl
   simpa using this
  have hi:off<vs.length:=by rw[←hl];exact(ab.1 hc).1
  have hg:vs[off]?=some vs[off]:=ae hi
  refine⟨vs[off], ?_,h off _ s hg hc⟩
  have hia:(isAgg t).run P w= .ok false w:=by
   simp only[isAgg,Sem.run_bind,run_underlying hu,Result.andThen_ok]
   cases d<;>first|rfl|exact(hns _ rfl).elim|exact(hna _ _ rfl).elim
  simp[part,hia,hg]
 ·cases hv
theorem x0X(h:Slots n w K D ρ a.tmps) {t:TypeId} {x:Operand} {f:Nat} (ho:o.op= .field t x f)(hx:Operand.inB n x=true) {s:SV}
  (hs:a0k P o ρ=some s):f0y P w K D o a s:=by
 have he:execOp a.eval o=(do pure (Next.value (←Instr.field t (a.eval x) f))):=by unfold execOp;rw[ho]
 simp only[a0k,ho]at hs
 split at hs
 ·rename_i fs hu
  split at hs
  ·rename_i fd cs hf hxe
   have hrx:=a0j h hx hxe
   generalize hvx:a.eval x=vx at hrx
   cases hrx with
   |agg vs _ hl h1 hrep=>
    obtain⟨r,hr,hrep⟩:=d0f (P:=P) hl h1 hrep hs
    exact a0O he (by rw[hvx];simp[Instr.field,run_underlying hu,hf,asAgg,hr]) hrep
  ·cases hs
 ·cases hs
theorem x0R(h:Slots n w K D ρ a.tmps) {t:TypeId} {x i:Operand} (ho:o.op= .index t x i)(hx:Operand.inB n x=true)(hi:Operand.inB n i=true) {s:SV}
  (hs:a0k P o ρ=some s):f0y P w K D o a s:=by
 have he:execOp a.eval o=(do pure (Next.value (←Instr.index t (a.eval x) (a.eval i)))):=by unfold execOp;rw[ho]
 simp only[a0k,ho]at hs
 split at hs
 ·rename_i l k m hu hxe hie
  have hrx:=a0j h hx hxe
  have hri:=a0j h hi hie
  generalize hvi:a.eval i=vi at hri
  cases hri
  generalize hvx:a.eval x=vx at hrx
  cases hrx with
  |str sb=>
   split at hs
   ·rename_i hn
    split at hs<;>cases hs
    rename_i b hb
    refine a0O he (r:= .int .u8 b.toNat) ?_ (.int _ _)
    rw[hvx,hvi]
    have hb':sb[m.toNat]?=some b:=by
     have hb2:sb.data[m.toNat]?=some b:=by simpa using hb
     obtain⟨h1,h2⟩:=aj.1 hb2
     rw[getElem?_pos sb m.toNat h1]
     exact congrArg some h2
    simp[Instr.index,asIntOf,run_underlying hu,hn,hb']
   ·cases hs
 ·rename_i len e cs k m hu hxe hie
  split at hs
  ·rename_i hc
   obtain⟨hn,hlen⟩:=hc
   have hrx:=a0j h hx hxe
   have hri:=a0j h hi hie
   generalize hvi:a.eval i=vi at hri
   cases hri
   generalize hvx:a.eval x=vx at hrx
   cases hrx with
   |agg vs _ hl h1 hrep=>
    obtain⟨r,hr,hrep'⟩:=d0f (P:=P) hl h1 hrep hs
    have hsz:(sizeOf e).run P w= .ok (P.cellsOf e) w:=by
     cases hi:P.info? e with
     |none=>
      have:P.underlying e=none:=by simp[Program.underlying,hi]
      simp[b0T,this]at hs
     |some i=>simp[sizeOf,typeInfo,hi,Program.cellsOf]
    exact a0O he (by rw[hvx,hvi];simp[Instr.index,asIntOf,run_underlying hu,hn,hlen,hsz,hr]) hrep'
  ·cases hs
 ·cases hs
theorem A0E(h:Slots n w K D ρ a.tmps) {c:Call} (ho:o.op= .call c)(hx: ∀x∈c.args,Operand.inB n x=true) {s:SV}
  (hs:a0k P o ρ=some s):f0y P w K D o a s:=by
 simp only[a0k,ho,w0I]at hs
 split at hs
 ·rename_i hcal
  split at hs
  ·rename_i x t hargs htys
   have ha:c.args= #[x]:=by rw[←bg];exact hargs
   have ht:c.argTypes= #[t]:=by rw[←bg];exact htys
   have hrun: ∀r,(Builtin.len_ #[t] o.type #[a.eval x]).run P w= .ok r w→(execOp a.eval o).run P w= .ok (.value r) w:=fun r hr=>by
    unfold execOp
    simp only[ho,resolve,hcal,ha,ht,invoke,builtin,Sem.run_bind,Sem.run_pure,Result.andThen_ok,bR,ah,ay,hr]
   have hxb:=hx x (by rw[ha];simp)
   cases hxe:a0Y ρ x with
   |none=>rw[hxe]at hs;cases hs
   |some s0=>
    rw[hxe]at hs
    simp only[aa,B0I]at hs
    have hrx:=a0j h hxb hxe
    split at hs
    ·rename_i e m k cs hu
     cases hs
     have hv: ∃ad cap,a.eval x= .slice ad m cap:=by
      rcases i0z hrx with⟨ea,ecap,hv,hcs,hn0⟩|⟨b,off,cap,vs,hv,_⟩
      ·exact⟨_,_,by rw[hv,hn0]⟩
      ·exact⟨_,_,hv⟩
     obtain⟨ad,cap,hv⟩:=hv
     exact⟨.int .i64 m,hrun _ (by rw[hv];simp[Builtin.len_,run_underlying hu,goInt]), .int _ _⟩
    ·rename_i e hu
     cases hs
     generalize hvx:a.eval x=vx at hrx
     cases hrx
     exact⟨.int .i64 0,hrun _ (by rw[hvx];simp[Builtin.len_,run_underlying hu,goInt]), .int _ _⟩
    ·rename_i e i off m k hu
     cases hs
     generalize hvx:a.eval x=vx at hrx
     cases hrx
     exact⟨.int .i64 m,hrun _ (by rw[hvx];simp[Builtin.len_,run_underlying hu,goInt]), .int _ _⟩
    ·rename_i l hu
     cases hs
     generalize hvx:a.eval x=vx at hrx
     cases hrx with
     |str sb=>exact⟨.int .i64 sb.size,hrun _ (by rw[hvx];simp[Builtin.len_,run_underlying hu,goInt]),by simpa using Rep.int .i64 sb.size⟩
    ·rename_i m e hu
     cases hs
     refine⟨.int .i64 m,hrun _ ?_, .int _ _⟩
     cases a.eval x<;>simp[Builtin.len_,run_underlying hu,goInt]
    ·cases hs
  ·cases hs
 ·cases hs
end
end Go.Sy
