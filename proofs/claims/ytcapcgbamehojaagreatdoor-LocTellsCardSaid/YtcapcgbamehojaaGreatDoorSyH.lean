/-
 The second shadow machine, part 8: the rest of the operations, and all of them together.
-/
import Derived.Test.YtcapcgbamehojaaGreatDoorSyG
import Derived.Laws.Cover4
import Derived.Laws.IdiomStrings
namespace Go.Sy
open Go Go.RowKit
set_option linter.unusedVariables false
set_option linter.unusedSimpArgs false
set_option linter.unusedSectionVars false
variable [Inhabited GT]
section
variable {P : Program} {n : Nat} {w : World} {K : Nat → Nat} {D : DM} {H : a0o} {ρ : Env} {a : Act} {o : Oper} {idx : Nat}
theorem r0l {k m:Nat} {tx:TypeId} {x:Value} {news:List Value} {cs:List SV} (h:SrcAt P w K D k tx x m news cs):(Builtin.lenOf x).run P w= .ok m w:=h.src.len w
theorem t0L {t tx e ty k m nn b off cap:Nat} {y:Value} {news us:List Value} {cs2:List SV} {w':World} (hu:P.underlying t=some (.slice e))(hk:k=P.cellsOf e)(hk0:0<k)(hsrc:SrcAt P w K D k tx y m news cs2)
  (hus:us=news.take (min m nn*k)) (hst:(storeCells ⟨b,off,none⟩ us).run P w= .ok () w'):
  (Builtin.copy_ #[t,tx] ty #[.slice (some ⟨b,off,none⟩) nn cap,y]).run P w= .ok (.int .i64 ((min m nn:Nat):Int)) w':=by
 have hf:=hsrc.first (min m nn) (Nat.min_le_left _ _)
 have hsz:(sizeOf e).run P w= .ok k w:=by rw[hk];exact c0D (by rw[←hk];exact hk0)
 rw[←hus]at hf
 simp[Builtin.copy_,run_underlying hu,r0l hsrc,hsz,hf,hst,goInt]
theorem z0R(h:HInv w K D H)(hs:Slots n w K D ρ a.tmps) {c:Call} (ho:o.op= .call c)(hcal:c.callee= .builtin .copy)(hb: ∀x∈c.args,Operand.inB n x=true) {ef:Eff}
  (he:w0E P c ρ H=some ef):n0w P w K D H o a ef.v (b0M H ef.wr):=by
 unfold w0E at he
 split at he
 ·rename_i x y t tx hargs htys
  have ha:c.args= #[x,y]:=by rw[←bg];exact hargs
  have hty:c.argTypes= #[t,tx]:=by rw[←bg];exact htys
  have hxb:=hb x (by rw[ha];simp)
  have hyb:=hb y (by rw[ha];simp)
  have hrun: ∀r w',(Builtin.copy_ #[t,tx] o.type #[a.eval x,a.eval y]).run P w= .ok r w'→(execOp a.eval o).run P w= .ok (.value r) w':=fun r w' hr=>by
   unfold execOp
   simp only[ho,resolve,hcal,ha,hty,invoke,builtin,Sem.run_bind,Sem.run_pure,Result.andThen_ok,bR,ah,ay,hr]
  split at he
  ·rename_i e i0 sy hu hxe hye
   split at he
   ·rename_i nn k e' cs hH
    split at he
    ·rename_i m cs2 rd hsc
     split at he<;>cases he
     rename_i hc
     obtain⟨hk,hok,hst⟩:=hc
     obtain⟨i,z,hi,hz,hzs,hki,hk0,hby⟩:=e0U hok
     obtain⟨news,hsrc⟩:=q0A (P:=P) (tx:=tx) h hk0 (a0j hs hyb hye) hsc hst
     have hil:i0<H.length:=(ab.1 hH).1
     have hset: ∀en,g0w H i0 en=H.set i0 en:=fun en=>by unfold g0w;rw[if_pos hil]
     simp only[b0M,hset]
     rcases(n0z h (a0j hs hxb hxe) hH).2 with⟨h1,h2,ad,hv⟩|⟨b,cp,vs,rest,hv,hd,_,hcap,hvl,hcr,hheap⟩
     ·subst h1;subst h2
      have hf:=hsrc.first 0 (co _)
      have hsz:(sizeOf e).run P w= .ok k w:=by rw[hk];exact c0D (by rw[←hk];exact hk0)
      have hsame:H.set i0 (.vec 0 k e' (splice [] 0 (cs2.take (min m 0*k))))=H:=by
       have:splice [] 0 (cs2.take (min m 0*k))=[]:=by simp[Sy.splice]
       rw[this]
       apply bC
       intro j
       rw[aQ]
       by_cases hj:i0=j
       ·subst hj;rw[if_pos rfl,if_pos hil,hH]
       ·rw[if_neg hj]
      rw[hsame]
      refine f0m h (v:= .int .i64 ((min m 0:Nat):Int)) (hrun _ _ ?_) (.int _ _)
      rw[hv]
      cases ad<;>simp[Builtin.copy_,run_underlying hu,r0l hsrc,hsz,hf,goInt,storeCells,←hk]
     ·have hcx:CR w K D (news.take (min m nn*k)) (cs2.take (min m nn*k)):=hsrc.cr.take _
      have hnl:cs2.length=m*k:=by rw[hsrc.cr.len,hsrc.src.newsLen]
      have hmk:min m nn*k≤m*k:=aR _ (Nat.min_le_left _ _)
      have hmk2:min m nn*k≤nn*k:=aR _ (Nat.min_le_right _ _)
      obtain⟨w',hst,hg,hiv⟩:=k0Z (P:=P) (off:=0) h hH hd rfl (by rw[aH,hcr.len];omega) hcx (fun _=>i0A hsrc.plain _)
      exact⟨_,w', .inl (hrun _ _ (by rw[hv];exact t0L hu hk hk0 hsrc rfl hst)),⟨K,D,hg,hiv, .int _ _⟩⟩
    ·cases he
   ·cases he
  ·rename_i e i0 off nn k sy hu hxe hye
   split at he
   ·rename_i cs hH
    split at he
    ·rename_i m cs2 rd hsc
     split at he<;>cases he
     rename_i hc
     obtain⟨hk,hok,hst,hle⟩:=hc
     obtain⟨i,z,hi,hz,hzs,hki,hk0,hby⟩:=e0U hok
     obtain⟨news,hsrc⟩:=q0A (P:=P) (tx:=tx) h hk0 (a0j hs hyb hye) hsc hst
     have hil:i0<H.length:=(ab.1 hH).1
     have hset: ∀en,g0w H i0 en=H.set i0 en:=fun en=>by unfold g0w;rw[if_pos hil]
     simp only[b0M,hset]
     have hrx:=a0j hs hxb hxe
     generalize hvx:a.eval x=vx at hrx
     cases hrx with
     |sl _ _ _ _ b c m' cap hd hcap=>
      have hcx:CR w K D (news.take (min m nn*k)) (cs2.take (min m nn*k)):=hsrc.cr.take _
      have hmk2:min m nn*k≤nn*k:=aR _ (Nat.min_le_right _ _)
      obtain⟨w',hst,hg,hiv⟩:=k0Z (P:=P) (off:=off) h hH hd rfl (by rw[aH];omega) hcx (fun e=>by cases e)
      exact⟨_,w', .inl (hrun _ _ (by rw[hvx];exact t0L hu hk hk0 hsrc rfl hst)),⟨K,D,hg,hiv, .int _ _⟩⟩
    ·cases he
   ·cases he
  ·cases he
 ·cases he
theorem t0X(h:HInv w K D H)(hs:Slots n w K D ρ a.tmps) {src dst e:TypeId} {x:Operand} (ho:o.op= .convert src dst x)(hx:Operand.inB n x=true)(hsrc:P.underlying src=some .string)(hdst:P.underlying dst=some (.slice e))
  (he:P.underlying e=some (.int .u8)) {s:List UInt8} (hxe:a0Y ρ x=some (.str s)):n0w P w K D H o a (.lst s.length 1 (s.map h0c)) H:=by
 have hex:execOp a.eval o=(do pure (Next.value (←convert src dst (a.eval x)))):=by unfold execOp;rw[ho]
 have hrx:=a0j hs hx hxe
 generalize hvx:a.eval x=vx at hrx
 cases hrx with
 |str sb=>
  have hrun:=run_bytes_of_string (P:=P) w src dst e sb hsrc hdst he
  generalize hcp:grownCap w sb.size 0 e=cap at hrun
  have hcap:sb.size≤cap:=by rw[←hcp];exact grownCap_ge w sb.size 0 e
  generalize hw':w.drew.alloc (.cells (bytesRow sb cap) e ((bytesRow sb cap).size,(bytesRow sb cap).size+1))=w' at hrun
  have hheap:w'.heap=w.heap.push (.cells (bytesRow sb cap) e ((bytesRow sb cap).size,(bytesRow sb cap).size+1)):=by rw[←hw'];rfl
  have hlen:sb.data.toList.length=sb.size:=by simp
  have hK0:K w.heap.size=0:=by
   rcases bv (K w.heap.size)with h0|h0
   ·exact h0
   ·have:=h.kw w.heap.size (by omega);omega
  obtain⟨g,hiv⟩:=HInv.push (K':=fun b=>if b=w.heap.size then sb.size else K b) h hheap (by rw[←hw'];rfl) (by rw[←hw'];rfl) (by rw[←hw'];rfl) (fun b hb=>if_neg hb)
  refine⟨_,w', .inl (by rw[hex];exact b0E (by rw[hvx];exact hrun)),⟨_,D,g,hiv, ?_⟩⟩
  have hbl:(byteCells sb).length=sb.size:=byteCells_length sb
  rw[hlen]
  refine .lst 1 w.heap.size 0 sb.size cap (byteCells sb) _ (by omega) (by rw[hbl,Nat.mul_one]) (by simp[hbl]) hcap (fun j v hj=> ?_) (by rw[hbl];simp) (fun u hu=>by
    obtain⟨_,_,rfl⟩:=aK.1 hu;rfl) ?_ (fun j v c hv hc=> ?_)
  ·have hjl:j<sb.size:=by rw[←hbl];exact(ab.1 hj).1
   have hget:w'.heap[w.heap.size]?=some (.cells (bytesRow sb cap) e ((bytesRow sb cap).size,(bytesRow sb cap).size+1)):=by rw[hheap];simp
   unfold World.cell?
   simp only[aU,hget]
   unfold byteCells at hj
   rw[am]at hj
   simp only[bytesRow,Option.isSome_none,aE,if_false]
   rw[ck (by simpa using hjl),Array.getElem?_map]
   simpa using hj
  ·simp only[b0x,List.all_map,List.all_eq_true]
   intro b _;rfl
  ·unfold byteCells at hv
   rw[am]at hv hc
   cases hb:sb.data.toList[j]? with
   |none=>rw[hb]at hv;cases hv
   |some y=>rw[hb]at hv hc;cases hv;cases hc;exact .int _ _
theorem z0C {news:List Value} {cs:List SV} (h:CR w K D news cs)(hb:cs.all l0U=true): ∃ns:List Int,news=ns.map (Value.int .u8)∧cs.map byteOf=ns.map fun n=>UInt8.ofNat n.toNat:=by
 have key: ∀(cs:List SV) (news:List Value),cs.length=news.length→(∀(j:Nat) (v:Value) (c:SV),news[j]?=some v→cs[j]?=some c→Rep w K D v c)→cs.all l0U=true→
   ∃ns:List Int,news=ns.map (Value.int .u8)∧cs.map byteOf=ns.map fun n=>UInt8.ofNat n.toNat:=by
  intro cs
  induction cs with
  |nil=>intro news hl _ _;cases news with
   |nil=>exact⟨[],rfl,rfl⟩
   |cons v vs=>simp at hl
  |cons c cs ih=>
   intro news hl hr hb
   cases news with
   |nil=>simp at hl
   |cons v vs=>
    simp only[az,ac]at hb
    obtain⟨ns,e1,e2⟩:=ih vs (by simpa using hl) (fun j v c hv hc=>hr (j+1) v c (by simpa using hv) (by simpa using hc)) hb.2
    have h0:=hr 0 v c rfl rfl
    have hc:=hb.1
    unfold l0U at hc
    split at hc
    ·rename_i z
     cases h0
     exact⟨z::ns,by rw[e1];rfl,by rw[ah,e2];rfl⟩
    ·cases hc
 exact key cs news h.len h.rep hb
theorem x0i(h:HInv w K D H)(hs:Slots n w K D ρ a.tmps) {src dst e:TypeId} {x:Operand} (ho:o.op= .convert src dst x)(hx:Operand.inB n x=true)(hsrc:P.underlying src=some (.slice e))(hdst:P.underlying dst=some .string)
  (he:P.underlying e=some (.int .u8)) {s:SV} (hxe:a0Y ρ x=some s) {m:Nat} {cs:List SV} {rd:List Nat} (hsc:t0e 1 s H=some (m,cs,rd)) (hty:j0d P src s=true) (hb:cs.all l0U=true):n0w P w K D H o a (.str (cs.map byteOf)) H:=by
 have hex:execOp a.eval o=(do pure (Next.value (←convert src dst (a.eval x)))):=by unfold execOp;rw[ho]
 obtain⟨news,hsa⟩:=q0A (P:=P) (tx:=src) h (by omega) (a0j hs hx hxe) hsc hty
 obtain⟨ns,e1,e2⟩:=z0C hsa.cr hb
 have hcells:=hsa.src.cells
 have hlen:=hsa.src.len w
 generalize hvx:a.eval x=vx at hcells hlen
 have hsv: ∃r,(convert src dst vx).run P w= .ok (.string r) w∧cs.map byteOf=r.data.toList:=by
  cases vx with
  |slice ad len cap=>
   have hm:len=m:=by simp[Builtin.lenOf]at hlen;exact hlen
   subst hm
   rw[run_convert_bytes_string w src dst e ad len cap hsrc he hdst]
   cases ad with
   |none=>
    have hn:news=[]:=by
     simp[Builtin.firstCells]at hcells;exact hcells
    rw[hn]at e1
    have:ns=[]:=by cases ns with
     |nil=>rfl
     |cons _ _=>cases e1
    subst this
    exact⟨.empty,by simp[Conv.bytesToString],by rw[e2];rfl⟩
   |some ad=>
    have hl:(loadCells ad len).run P w= .ok (ns.map (Value.int .u8)).toArray w:=by
     have:=hcells
     simp only[Builtin.firstCells,Nat.mul_one]at this
     rw[this,e1]
    refine⟨_,run_bytesToString w ad len cap ns hl, ?_⟩
    rw[e2]
    have: ∀(ns:List Int) (r:ByteArray),(ns.foldl (fun r n=>r.push (UInt8.ofNat n.toNat)) r).data.toList=r.data.toList++ns.map fun n=>UInt8.ofNat n.toNat:=by
     intro ns
     induction ns with
     |nil=>intro r;simp
     |cons x ns ih=>intro r;simp only[List.foldl_cons];rw[ih];simp[ByteArray.push]
    rw[this]
    rfl
  |string sb=>
   exfalso
   have hr:=a0j hs hx hxe
   rw[hvx]at hr
   cases hr with
   |str _=>simp[j0d,hsrc]at hty
   |undef _=>simp[t0e]at hsc
  |_=>simp[Builtin.lenOf,stuck,Sem.run]at hlen
 obtain⟨r,h1,h2⟩:=hsv
 refine f0m h (v:= .string r) (by rw[hex];exact b0E (by rw[hvx];exact h1)) ?_
 rw[h2]
 exact .str r
theorem x0v {news:List Value} {cs:List SV} (h:CR w K D news cs)(hb:cs.all j0U=true): ∃ns:List Int,news=ns.map (Value.int .i32)∧cs=ns.map (SV.int .i32):=by
 have key: ∀(cs:List SV) (news:List Value),cs.length=news.length→(∀(j:Nat) (v:Value) (c:SV),news[j]?=some v→cs[j]?=some c→Rep w K D v c)→cs.all j0U=true→
   ∃ns:List Int,news=ns.map (Value.int .i32)∧cs=ns.map (SV.int .i32):=by
  intro cs
  induction cs with
  |nil=>intro news hl _ _;cases news with
   |nil=>exact⟨[],rfl,rfl⟩
   |cons v vs=>simp at hl
  |cons c cs ih=>
   intro news hl hr hb
   cases news with
   |nil=>simp at hl
   |cons v vs=>
    simp only[az,ac]at hb
    obtain⟨ns,e1,e2⟩:=ih vs (by simpa using hl) (fun j v c hv hc=>hr (j+1) v c (by simpa using hv) (by simpa using hc)) hb.2
    have h0:=hr 0 v c rfl rfl
    have hc:=hb.1
    unfold j0U at hc
    split at hc
    ·rename_i z
     cases h0
     exact⟨z::ns,by rw[e1];rfl,by rw[ah,e2]⟩
    ·cases hc
 exact key cs news h.len h.rep hb
theorem n0M(ns:List Int):(runesBytes ns).data.toList=ns.flatMap fun n=>(Utf8.encode n).data.toList:=by
 have: ∀(ns:List Int) (r:ByteArray),(ns.foldl (fun r n=>r++Utf8.encode n) r).data.toList=r.data.toList++ns.flatMap fun n=>(Utf8.encode n).data.toList:=by
  intro ns
  induction ns with
  |nil=>intro r;simp
  |cons x ns ih=>intro r;simp only[List.foldl_cons];rw[ih];simp[ByteArray.data_append]
 unfold runesBytes
 rw[this];rfl
theorem u0T(h:HInv w K D H)(hs:Slots n w K D ρ a.tmps) {src dst e:TypeId} {x:Operand} (ho:o.op= .convert src dst x)(hx:Operand.inB n x=true)(hsrc:P.underlying src=some (.slice e))(hdst:P.underlying dst=some .string)
  (he:P.underlying e=some (.int .i32)) {s:SV} (hxe:a0Y ρ x=some s) {m:Nat} {cs:List SV} {rd:List Nat} (hsc:t0e 1 s H=some (m,cs,rd)) (hty:j0d P src s=true) (hb:cs.all j0U=true):n0w P w K D H o a (.str (cs.flatMap runeB)) H:=by
 have hex:execOp a.eval o=(do pure (Next.value (←convert src dst (a.eval x)))):=by unfold execOp;rw[ho]
 obtain⟨news,hsa⟩:=q0A (P:=P) (tx:=src) h (by omega) (a0j hs hx hxe) hsc hty
 obtain⟨ns,e1,e2⟩:=x0v hsa.cr hb
 have hcells:=hsa.src.cells
 have hlen:=hsa.src.len w
 have hfl:cs.flatMap runeB=ns.flatMap fun n=>(Utf8.encode n).data.toList:=by
  rw[e2,List.flatMap_map];rfl
 generalize hvx:a.eval x=vx at hcells hlen
 have hsv: ∃r,(convert src dst vx).run P w= .ok (.string r) w∧cs.flatMap runeB=r.data.toList:=by
  cases vx with
  |slice ad len cap=>
   have hm:len=m:=by simp[Builtin.lenOf]at hlen;exact hlen
   subst hm
   rw[run_convert_runes_string w src dst e ad len cap hsrc he hdst]
   cases ad with
   |none=>
    have hn:news=[]:=by
     simp[Builtin.firstCells]at hcells;exact hcells
    rw[hn]at e1
    have:ns=[]:=by cases ns with
     |nil=>rfl
     |cons _ _=>cases e1
    subst this
    exact⟨.empty,by simp[Conv.runesToString],by rw[hfl];rfl⟩
   |some ad=>
    have hl:(loadCells ad len).run P w= .ok (ns.map (Value.int .i32)).toArray w:=by
     have:=hcells
     simp only[Builtin.firstCells,Nat.mul_one]at this
     rw[this,e1]
    exact⟨_,run_runesToString w ad len cap ns hl,by rw[hfl,n0M]⟩
  |string sb=>
   exfalso
   have hr:=a0j hs hx hxe
   rw[hvx]at hr
   cases hr with
   |str _=>simp[j0d,hsrc]at hty
   |undef _=>simp[t0e]at hsc
  |_=>simp[Builtin.lenOf,stuck,Sem.run]at hlen
 obtain⟨r,h1,h2⟩:=hsv
 refine f0m h (v:= .string r) (by rw[hex];exact b0E (by rw[hvx];exact h1)) ?_
 rw[h2]
 exact .str r
theorem x0l(h:HInv w K D H)(hs:Slots n w K D ρ a.tmps) {src dst:TypeId} {x:Operand} (ho:o.op= .convert src dst x)(hx:Operand.inB n x=true)(hsrc:P.underlying src=some .string)(hdst:P.underlying dst=some .string)
  {s:List UInt8} (hxe:a0Y ρ x=some (.str s)):n0w P w K D H o a (.str s) H:=by
 have hex:execOp a.eval o=(do pure (Next.value (←convert src dst (a.eval x)))):=by unfold execOp;rw[ho]
 have hrx:=a0j hs hx hxe
 generalize hvx:a.eval x=vx at hrx
 cases hrx with
 |str sb=>
  exact f0m h (v:= .string sb) (by rw[hex];exact b0E (by rw[hvx];simp[convert,run_underlying hsrc,run_underlying hdst])) (.str sb)
theorem z0u(hs:Slots n w K D ρ a.tmps) {big:Bool} {k:IntKind} : ∀(l:List Operand) (acc:Int) (v:SV),(∀x∈l,Operand.inB n x=true)→v0I big k acc ρ l=some v→
  ∃r,v= .int k r∧((l.map a.eval).foldlM (if big then Builtin.max2 else Builtin.min2) (.int k acc)).run P w= .ok (.int k r) w:=by
 intro l
 induction l with
 |nil=>intro acc v _ hv;cases hv;exact⟨acc,rfl,by simp⟩
 |cons y l ih=>
  intro acc v hb hv
  simp only[v0I]at hv
  split at hv
  ·rename_i k' b hye
   split at hv
   ·rename_i hk
    subst hk
    obtain⟨r,e1,e2⟩:=ih _ v (fun x hx=>hb x (ao _ hx)) hv
    refine⟨r,e1, ?_⟩
    have hry:=a0j hs (hb y (ar ..)) hye
    generalize hvy:a.eval y=vy at hry
    cases hry
    simp only[ah,List.foldlM_cons,hvy]
    cases big
    ·simp only[aE,if_false]at e2⊢
     simpa [Builtin.min2]using e2
    ·simp only[if_true]at e2⊢
     simpa [Builtin.max2]using e2
   ·cases hv
  ·cases hv
theorem q0Y(h:HInv w K D H)(hs:Slots n w K D ρ a.tmps) {c:Call} (ho:o.op= .call c) {big:Bool} (hcal:c.callee= .builtin (if big then .max else .min)) {x:Operand} {r:List Operand} (ha:c.args.toList=x::r)(hb: ∀x∈c.args,Operand.inB n x=true)
  {k:IntKind} {ax:Int} (hxe:a0Y ρ x=some (.int k ax)) {v:SV} (hv:v0I big k ax ρ r=some v):n0w P w K D H o a v H:=by
 have ha':c.args=(x::r).toArray:=by rw[←ha]
 have hb': ∀y∈x::r,Operand.inB n y=true:=fun y hy=>hb y (by rw[ha'];simpa using hy)
 obtain⟨z,e1,e2⟩:=z0u (P:=P) hs r ax v (fun y hy=>hb' y (ao _ hy)) hv
 subst e1
 have hrx:=a0j hs (hb' x (ar ..)) hxe
 generalize hvx:a.eval x=vx at hrx
 cases hrx
 refine f0m h (v:= .int k z) ?_ (.int _ _)
 unfold execOp
 cases big
 ·simp only[aE,if_false]at e2 hcal
  simp only[ho,resolve,hcal,ha',invoke,builtin,Sem.run_bind,Sem.run_pure,Result.andThen_ok,bR,ah,Builtin.min_,hvx,e2]
 ·simp only[if_true]at e2 hcal
  simp only[ho,resolve,hcal,ha',invoke,builtin,Sem.run_bind,Sem.run_pure,Result.andThen_ok,bR,ah,Builtin.max_,hvx,e2]
end
end Go.Sy
