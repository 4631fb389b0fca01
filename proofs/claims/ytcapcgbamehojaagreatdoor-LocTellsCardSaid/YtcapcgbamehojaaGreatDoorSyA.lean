/-
 The second shadow machine, part 1: shadow values, entries, and when a world is shown by them.
-/
import Derived.WalkKit
import Derived.Orders
import Derived.Deep.AppendSrc
import Derived.Deep.DeepAppendWide
namespace Go.Sy
open Go Go.RowKit
set_option linter.unusedSimpArgs false
set_option linter.unusedVariables false
abbrev aa:= @Option.bind_some
abbrev ab:= @List.getElem?_eq_some_iff
abbrev ac:= @Bool.and_eq_true
abbrev ae:= @List.getElem?_eq_getElem
abbrev af:= @Nat.eq_of_beq_eq_true
abbrev ag:= @List.length_append
abbrev ah:= @List.map_cons
abbrev ai:= @Option.some.injEq
abbrev aj:= @Array.getElem?_eq_some_iff
abbrev ak:= @Nat.le_refl
abbrev al:= @List.eq_nil_of_length_eq_zero
abbrev am:= @List.getElem?_map
abbrev ao:= @List.mem_cons_of_mem
abbrev aq:= @Nat.le_of_ble_eq_true
abbrev ar:= @List.mem_cons_self
abbrev au:= @List.mem_append
abbrev av:= @List.getD_eq_getElem?_getD
abbrev aw:= @List.getElem?_eq_none
abbrev ay:= @List.map_nil
abbrev az:= @List.all_cons
abbrev aA:= @Bool.not_true
abbrev aB:= @Int.le_refl
abbrev aC:= @List.flatMap_cons
abbrev aD:= @List.getElem?_append
abbrev aE:= @Bool.false_eq_true
abbrev aF:= @List.mem_of_getElem?
abbrev aG:= @List.mem_cons
abbrev aH:= @List.length_take
abbrev aI:= @Option.map_some
abbrev aJ:= @List.length_cons
abbrev aK:= @List.mem_map
abbrev aL:= @List.append_assoc
abbrev aM:= @List.all_nil
abbrev aN:= @List.all_append
abbrev aO:= @List.length_drop
abbrev aP:= @Prod.mk.injEq
abbrev aQ:= @List.getElem?_set
abbrev aR:= @Nat.mul_le_mul_right
abbrev aS:= @Array.mem_toList_iff
abbrev aT:= @Nat.lt_of_lt_of_le
abbrev aU:= @Nat.zero_add
abbrev aV:= @Nat.le_trans
abbrev aW:= @Array.getElem?_eq_getElem
abbrev aX:= @List.getElem?_take
abbrev aY:= @List.drop_eq_nil_of_le
abbrev aZ:= @Option.some.inj
abbrev ba:= @Bool.or_eq_true
abbrev bc:= @List.take_succ_eq_append_getElem
abbrev bd:= @List.flatMap_append
abbrev be:= @List.mem_iff_getElem?
abbrev bf:= @List.mem_range
abbrev bg:= @Array.toList_inj
abbrev bk:= @List.getElem_mem
abbrev bl:= @List.drop_eq_getElem_cons
abbrev bn:= @Int.add_zero
abbrev bo:= @Prod.mk.inj
abbrev bp:= @Array.all_eq_true_iff_forall_mem
abbrev bq:= @Int.tmod_eq_emod_of_nonneg
abbrev br:= @Sum.elim_inl
abbrev bu:= @List.nil_append
abbrev bv:= @Nat.eq_zero_or_pos
abbrev bw:= @List.mem_flatMap
abbrev bA:= @List.take_length
abbrev bB:= @Int.eq_ofNat_of_zero_le
abbrev bC:= @List.ext_getElem?
abbrev bD:= @Array.getD_eq_getD_getElem?
abbrev bE:= @List.append_nil
abbrev bF:= @Array.getElem?_push
abbrev bG:= @List.getElem?_range
abbrev bH:= @Nat.succ_mul
abbrev bI:= @Bool.true_and
abbrev bJ:= @Option.getD_some
abbrev bK:= @Nat.lt_or_ge
abbrev bL:= @List.cons_append
abbrev bM:= @List.not_mem_nil
abbrev bN:= @Nat.sub_zero
abbrev bO:= @List.mem_of_mem_drop
abbrev bP:= @List.extract_eq_take_drop
abbrev bQ:= @List.getElem?_append_left
abbrev bR:= @List.map_toArray
abbrev bS:= @Array.mem_append
abbrev bT:= @List.map_map
abbrev bU:= @Array.length_toList
abbrev bV:= @List.map_congr_left
abbrev bW:= @List.getElem?_cons_zero
abbrev bX:= @List.length_nil
abbrev bY:= @Nat.lt_of_succ_le
abbrev bZ:= @Array.getElem?_toList
abbrev ca:= @List.take_append_drop
abbrev cd:= @Array.getElem?_modify
abbrev cf:= @List.mem_of_mem_take
abbrev cg:= @List.getElem?_set_ne
abbrev ci:= @Bool.and_eq_true_iff
abbrev ck:= @Array.getElem?_append_left
abbrev cm:= @List.getElem?_append_right
abbrev cn:= @Int.tdiv_eq_ediv_of_nonneg
abbrev co:= @Nat.zero_le
abbrev cq:= @List.length_map
abbrev cu:= @List.eq_of_mem_replicate
abbrev cv:= @List.mapM_cons
abbrev cw:= @List.getElem?_set_self
abbrev cx:= @List.length_eq_one_iff
abbrev cy:= @List.mem_toArray
abbrev cz:= @List.drop_append
abbrev cA:= @Int.natCast_zero
abbrev cB:= @List.range_succ
abbrev cC:= @List.map_append
def u0O(n:Nat):Prop:=n≤4294967296
instance {n:Nat} :Decidable (u0O n):=inferInstanceAs (Decidable (n≤4294967296))
inductive SV where
 |undef
 |bool (b:Bool)
 |int (k:IntKind) (n:Int)
 |str (s:List UInt8)
 |nl
 |lst (n k:Nat) (cs:List SV)
 |ep (cs:List SV)
 |agg (cs:List SV)
 |tup (vs:List SV)
 |ptr (i off:Nat)
 |vc (i:Nat)
 |sl (i off n k:Nat)
 |mp (i:Nat)
 |fn (f:Fn) (first captured:List SV)
 |nilp
def SV.plain:SV→Bool
 | .bool _=>true
 | .int _ _=>true
 | .str _=>true
 | .nl=>true
 | .lst _ _ _=>true
 | .nilp=>true
 |_=>false
def b0x(cs:List SV):Bool:=cs.all SV.plain
inductive Loc where
 |nil
 |at(b c n:Nat)
abbrev DM:=Nat→Option Loc
inductive Ent where
 |res
 |gone
 |box (cs:List SV)
 |vec (n k:Nat) (e:TypeId) (cs:List SV)
 |map (es:List (SV×SV))
 |itr (m n:Nat) (seen:List Nat)
 |pmap (es:List (SV×SV))
abbrev a0o:=List Ent
theorem j0I {α β:Type} {f:α→β} : ∀(l:List α) (l':List β),l'.Perm (l.map f)→ ∃m:List α,m.Perm l∧m.map f=l'
 | [],l',h=>by have:=h.eq_nil;subst this;exact⟨[], .refl _,rfl⟩
 |a::r,l',h=>by
  obtain⟨s,t,rfl⟩:=List.append_of_mem (h.mem_iff.2 (by simp:f a∈(a::r).map f))
  have h2:(s++t).Perm (r.map f):=(List.perm_middle.symm.trans h).cons_inv
  obtain⟨m,hm,he⟩:=j0I r _ h2
  obtain⟨m1,m2,rfl,rfl,rfl⟩:=List.map_eq_append_iff.1 he
  exact⟨m1++a::m2,List.perm_middle.trans (hm.cons a),by simp⟩
inductive Rep (w:World) (K:Nat→Nat) (D:DM):Value→SV→Prop
 |undef (v:Value):Rep w K D v .undef
 |bool (b:Bool):Rep w K D (.bool b) (.bool b)
 |int (k:IntKind) (n:Int):Rep w K D (.int k n) (.int k n)
 |str (s:ByteArray):Rep w K D (.string s) (.str s.data.toList)
 |nl (a:Option Addr):Rep w K D (.slice a 0 0) .nl
 |emp (k:Nat) (a:Option Addr) (cap:Nat):Rep w K D (.slice a 0 cap) (.lst 0 k [])
 |lst (k b off len cap:Nat) (vs:List Value) (cs:List SV) (hk:0<k) (hl:vs.length=len*k) (hc:cs.length=vs.length)
   (hcap:len≤cap) (hm: ∀j v,vs[j]?=some v→w.cell? ⟨b,off+j,none⟩=some v) (hK:off+vs.length≤K b)
   (h1: ∀v∈vs,v.oneCell'=true) (hp:b0x cs=true) (h: ∀(j:Nat) (v:Value) (c:SV),vs[j]?=some v→cs[j]?=some c→Rep w K D v c):
   Rep w K D (.slice (some ⟨b,off,none⟩) len cap) (.lst len k cs)
 |ep (b off:Nat) (vs:List Value) (cs:List SV) (hc:cs.length=vs.length)
   (hm: ∀j v,vs[j]?=some v→w.cell? ⟨b,off+j,none⟩=some v) (hK:off+vs.length≤K b)
   (h1: ∀v∈vs,v.oneCell'=true) (hp:b0x cs=true) (h: ∀(j:Nat) (v:Value) (c:SV),vs[j]?=some v→cs[j]?=some c→Rep w K D v c):
   Rep w K D (.pointer (some ⟨b,off,none⟩)) (.ep cs)
 |agg (vs:List Value) (cs:List SV) (hc:cs.length=vs.length) (h1: ∀v∈vs,v.oneCell'=true)
   (h: ∀(j:Nat) (v:Value) (c:SV),vs[j]?=some v→cs[j]?=some c→Rep w K D v c):Rep w K D (.agg vs.toArray) (.agg cs)
 |tup (vs:List Value) (cs:List SV) (hc:cs.length=vs.length)
   (h: ∀(j:Nat) (v:Value) (c:SV),vs[j]?=some v→cs[j]?=some c→Rep w K D v c):Rep w K D (.tuple vs.toArray) (.tup cs)
 |ptr (i off b c n:Nat) (hd:D i=some (.at b c n)):Rep w K D (.pointer (some ⟨b,off,none⟩)) (.ptr i off)
 |vcn (i:Nat) (a:Option Addr) (hd:D i=some .nil):Rep w K D (.slice a 0 0) (.vc i)
 |vc (i b c n:Nat) (hd:D i=some (.at b c n)):Rep w K D (.slice (some ⟨b,0,none⟩) n c) (.vc i)
 |sl (i off n k b c m cap:Nat) (hd:D i=some (.at b c m)) (hn:n≤cap):Rep w K D (.slice (some ⟨b,off,none⟩) n cap) (.sl i off n k)
 |mp (i r c n:Nat) (hd:D i=some (.at r c n)):Rep w K D (.map (some r)) (.mp i)
 |fn (f:Fn) (fs caps:List Value) (gs dcs:List SV) (hc:gs.length=fs.length) (hd:dcs.length=caps.length)
   (h: ∀(j:Nat) (v:Value) (c:SV),fs[j]?=some v→gs[j]?=some c→Rep w K D v c)
   (h': ∀(j:Nat) (v:Value) (c:SV),caps[j]?=some v→dcs[j]?=some c→Rep w K D v c):
   Rep w K D (.func f fs.toArray caps.toArray) (.fn f gs dcs)
 |nilp:Rep w K D (.pointer none) .nilp
theorem Rep.mono {w w':World} {K K':Nat→Nat} {D D':DM} (hw: ∀b j,j<K b→w'.cell? ⟨b,j,none⟩=w.cell? ⟨b,j,none⟩)
  (hK: ∀b,K b≤K' b) (hD: ∀i x,D i=some x→D' i=some x) {v:Value} {s:SV} (h:Rep w K D v s):Rep w' K' D' v s:=by
 induction h with
 |undef v=>exact .undef v
 |bool b=>exact .bool b
 |int k n=>exact .int k n
 |str s=>exact .str s
 |nl a=>exact .nl a
 |emp k a cap=>exact .emp k a cap
 |lst k b off len cap vs cs hk hl hc hcap hm hKb h1 hp _ ih=>
  refine .lst k b off len cap vs cs hk hl hc hcap (fun j v hj=> ?_) (aV hKb (hK b)) h1 hp ih
  rw[hw b (off+j) (by have:=(ab.1 hj).1;omega)]
  exact hm j v hj
 |ep b off vs cs hc hm hKb h1 hp _ ih=>
  refine .ep b off vs cs hc (fun j v hj=> ?_) (aV hKb (hK b)) h1 hp ih
  rw[hw b (off+j) (by have:=(ab.1 hj).1;omega)]
  exact hm j v hj
 |agg vs cs hc h1 _ ih=>exact .agg vs cs hc h1 ih
 |tup vs cs hc _ ih=>exact .tup vs cs hc ih
 |ptr i off b c n hd=>exact .ptr i off b c n (hD _ _ hd)
 |vcn i a hd=>exact .vcn i a (hD _ _ hd)
 |vc i b c n hd=>exact .vc i b c n (hD _ _ hd)
 |sl i off n k b c m cap hd hn=>exact .sl i off n k b c m cap (hD _ _ hd) hn
 |mp i r c n hd=>exact .mp i r c n (hD _ _ hd)
 |fn f fs caps gs dcs hc hd _ _ ih ih'=>exact .fn f fs caps gs dcs hc hd ih ih'
 |nilp=>exact .nilp
theorem d0I {cs:List SV} (h:b0x cs=true) {j:Nat} {c:SV} (hc:cs[j]?=some c):c.plain=true:=
 List.all_eq_true.1 h c (aF hc)
theorem Rep.plain {w:World} {K:Nat→Nat} {D D':DM} {v:Value} {s:SV} (h:Rep w K D v s)(hp:s.plain=true):Rep w K D' v s:=by
 induction h with
 |bool b=>exact .bool b
 |int k n=>exact .int k n
 |str s=>exact .str s
 |nl a=>exact .nl a
 |emp k a cap=>exact .emp k a cap
 |lst k b off len cap vs cs hk hl hc hcap hm hKb h1 hp' _ ih=>
  exact .lst k b off len cap vs cs hk hl hc hcap hm hKb h1 hp' (fun j v c hv hcc=>ih j v c hv hcc (d0I hp' hcc))
 |nilp=>exact .nilp
 |_=>cases hp
theorem q0N {w:World} {K:Nat→Nat} {D:DM} {v:Value} {s:SV} (h:Rep w K D v s)(hp:s.plain=true):v.oneCell'=true:=by
 cases h<;>first|rfl|cases hp
structure CR (w:World) (K:Nat→Nat) (D:DM) (vs:List Value) (cs:List SV):Prop where
 len:cs.length=vs.length
 one: ∀v∈vs,v.oneCell'=true
 rep: ∀(j:Nat) (v:Value) (c:SV),vs[j]?=some v→cs[j]?=some c→Rep w K D v c
def g0K(en:Ent):Bool:=match en with
 | .res=>false
 | .gone=>false
 |_=>true
def Mem(D:DM)(H:a0o)(b:Nat):Prop:= ∃i en c n,H[i]?=some en∧g0K en=true∧D i=some (.at b c n)
def B0k(mes:Array MapEntry)(clock:Nat):Prop:=clock=mes.size∧ ∀(j:Nat) (me:MapEntry),mes[j]?=some me→me.born=j
def EntOk(w:World)(K:Nat→Nat)(D:DM)(i:Nat):Ent→Prop
 | .res=>D i=none
 | .gone=>True
 | .box cs=> ∃b vs e,D i=some (.at b 0 0)∧K b=0∧w.heap[b]?=some (.cells vs.toArray e (0,0))∧CR w K D vs cs
 | .vec n k e cs=>b0x cs=true∧((D i=some .nil∧n=0∧cs=[])∨ ∃b c vs rest,D i=some (.at b c n)∧K b=0∧0<k∧n≤c∧c≤maxLen∧
   w.heap[b]?=some (.cells (vs++rest).toArray e (0,0))∧vs.length=n*k∧(vs++rest).length=c*k∧CR w K D vs cs)
 | .map es=> ∃r mes clock,D i=some (.at r 0 0)∧K r=0∧w.heap[r]?=some (.map mes clock)∧es.length=mes.size∧B0k mes clock∧
   ∀(j:Nat) (me:MapEntry) (kv:SV×SV),mes[j]?=some me→es[j]?=some kv→Rep w K D me.key kv.1∧Rep w K D me.val kv.2
 | .pmap es=> ∃(es':List (SV×SV)) (r:Nat) (mes:Array MapEntry) (clock:Nat),es'.Perm es∧D i=some (.at r 0 0)∧K r=0∧w.heap[r]?=some (.map mes clock)∧es'.length=mes.size∧B0k mes clock∧
   ∀(j:Nat) (me:MapEntry) (kv:SV×SV),mes[j]?=some me→es'[j]?=some kv→Rep w K D me.key kv.1∧Rep w K D me.val kv.2
 | .itr m n seen=> ∃r bm c0,D i=some (.at r 0 0)∧K r=0∧w.heap[r]?=some (.mapIter (some bm) n seen.toArray c0)∧c0=n∧Rep w K D (.map (some bm)) (.mp m)
structure HInv (w:World) (K:Nat→Nat) (D:DM) (H:a0o):Prop where
 dom: ∀i,H.length≤i→D i=none
 ent: ∀i en,H[i]?=some en→EntOk w K D i en
 inj: ∀i j en en' b c n c' n',H[i]?=some en→H[j]?=some en'→g0K en=true→g0K en'=true→D i=some (.at b c n)→D j=some (.at b c' n')→i=j
 kw: ∀b,K b≠0→b<w.heap.size
structure Grow (w:World) (K:Nat→Nat) (D:DM) (H:a0o) (w':World) (K':Nat→Nat) (D':DM) (H':a0o):Prop where
 os:w'.os=w.os
 tape:w'.tape=w.tape
 output:w'.output=w.output
 size:w.heap.size≤w'.heap.size
 block: ∀b,b<w.heap.size→ ¬Mem D H b→w'.heap[b]?=w.heap[b]?
 cells: ∀b j,j<K b→w'.cell? ⟨b,j,none⟩=w.cell? ⟨b,j,none⟩
 le: ∀b,K b≤K' b
 kk: ∀b,b<w.heap.size→ ¬Mem D H b→K' b=K b
 dd: ∀i x,D i=some x→D' i=some x
 new: ∀b,Mem D' H' b→Mem D H b∨w.heap.size≤b
theorem Grow.refl(w:World)(K:Nat→Nat)(D:DM)(H:a0o):Grow w K D H w K D H:=
 ⟨rfl,rfl,rfl,ak _,fun _ _ _=>rfl,fun _ _ _=>rfl,fun _=>ak _,fun _ _ _=>rfl,fun _ _ h=>h,fun _ h=> .inl h⟩
theorem Grow.trans {w w1 w2:World} {K K1 K2:Nat→Nat} {D D1 D2:DM} {H H1 H2:a0o} (g:Grow w K D H w1 K1 D1 H1)(g':Grow w1 K1 D1 H1 w2 K2 D2 H2):Grow w K D H w2 K2 D2 H2:=by
 have hn: ∀b,b<w.heap.size→ ¬Mem D H b→ ¬Mem D1 H1 b:=fun b hb hm h=>by
  rcases g.new b h with h|h
  ·exact hm h
  ·omega
 refine⟨g'.os.trans g.os,g'.tape.trans g.tape,g'.output.trans g.output,aV g.size g'.size,fun b hb hm=> ?_,fun b j hj=> ?_,fun b=>aV (g.le b) (g'.le b),fun b hb hm=> ?_,fun i x h=>g'.dd i x (g.dd i x h),fun b h=> ?_⟩
 ·rw[g'.block b (aT hb g.size) (hn b hb hm)];exact g.block b hb hm
 ·rw[g'.cells b j (aT hj (g.le b))];exact g.cells b j hj
 ·rw[g'.kk b (aT hb g.size) (hn b hb hm)];exact g.kk b hb hm
 ·rcases g'.new b h with h|h
  ·exact g.new b h
  ·exact .inr (aV g.size h)
theorem Grow.rep {w w':World} {K K':Nat→Nat} {D D':DM} {H H':a0o} (g:Grow w K D H w' K' D' H') {v:Value} {s:SV} (h:Rep w K D v s):Rep w' K' D' v s:=
 h.mono g.cells g.le g.dd
theorem CR.mono {w w':World} {K K':Nat→Nat} {D D':DM} (hr: ∀v s,Rep w K D v s→Rep w' K' D' v s) {vs:List Value} {cs:List SV} (h:CR w K D vs cs):CR w' K' D' vs cs:=
 ⟨h.len,h.one,fun j v c hv hc=>hr _ _ (h.rep j v c hv hc)⟩
theorem World.drew_rep {w:World} {K:Nat→Nat} {D:DM} {v:Value} {s:SV} (h:Rep w K D v s):Rep w.drew K D v s:=
 Rep.mono (w:=w) (w':=w.drew) (fun _ _ _=>rfl) (fun _=>ak _) (fun _ _ e=>e) h
theorem EntOk.keep {w w':World} {K K':Nat→Nat} {D D':DM} {i:Nat} {en:Ent} (h:EntOk w K D i en)(hr: ∀v s,Rep w K D v s→Rep w' K' D' v s)(hd:D' i=D i)
  (hb: ∀b c n,g0K en=true→D i=some (.at b c n)→w'.heap[b]?=w.heap[b]?∧K' b=K b):EntOk w' K' D' i en:=by
 cases en with
 |res=>simpa only[EntOk,hd]using h
 |gone=>trivial
 |box cs=>
  obtain⟨b,vs,e,h1,h2,h3,h4⟩:=h
  obtain⟨g1,g2⟩:=hb b 0 0 rfl h1
  exact⟨b,vs,e,by rw[hd];exact h1,by rw[g2];exact h2,by rw[g1];exact h3,h4.mono hr⟩
 |vec n k e cs=>
  obtain⟨hp,h⟩:=h
  refine⟨hp, ?_⟩
  rcases h with⟨h1,h2,h3⟩|⟨b,c,vs,rest,h1,h2,h3,h4,h5,h6,h7,h8,h9⟩
  ·exact .inl ⟨by rw[hd];exact h1,h2,h3⟩
  ·obtain⟨g1,g2⟩:=hb b c n rfl h1
   exact .inr ⟨b,c,vs,rest,by rw[hd];exact h1,by rw[g2];exact h2,h3,h4,h5,by rw[g1];exact h6,h7,h8,h9.mono hr⟩
 |map es=>
  obtain⟨r,mes,clock,h1,h2,h3,h4,hB,h5⟩:=h
  obtain⟨g1,g2⟩:=hb r 0 0 rfl h1
  exact⟨r,mes,clock,by rw[hd];exact h1,by rw[g2];exact h2,by rw[g1];exact h3,h4,hB,fun j me kv hm hk=>⟨hr _ _ (h5 j me kv hm hk).1,hr _ _ (h5 j me kv hm hk).2⟩⟩
 |pmap es=>
  obtain⟨es',r,mes,clock,hp,h1,h2,h3,h4,hB,h5⟩:=h
  obtain⟨g1,g2⟩:=hb r 0 0 rfl h1
  exact⟨es',r,mes,clock,hp,by rw[hd];exact h1,by rw[g2];exact h2,by rw[g1];exact h3,h4,hB,fun j me kv hm hk=>⟨hr _ _ (h5 j me kv hm hk).1,hr _ _ (h5 j me kv hm hk).2⟩⟩
 |itr m n seen=>
  obtain⟨r,bm,c0,h1,h2,h3,h4,h5⟩:=h
  obtain⟨g1,g2⟩:=hb r 0 0 rfl h1
  exact⟨r,bm,c0,by rw[hd];exact h1,by rw[g2];exact h2,by rw[g1];exact h3,h4,hr _ _ h5⟩
theorem i0X {w:World} {K:Nat→Nat} {D:DM} {H:a0o} (h:HInv w K D H) {b:Nat} (hm:Mem D H b):b<w.heap.size∧K b=0:=by
 obtain⟨i,en,c,n,hi,hl,hd⟩:=hm
 have he:=h.ent i en hi
 cases en with
 |res=>cases hl
 |gone=>cases hl
 |box cs=>
  obtain⟨b',vs,e,h1,h2,h3,_⟩:=he
  rw[h1]at hd;cases hd
  exact⟨(aj.1 h3).1,h2⟩
 |vec m k e cs=>
  rcases he.2 with⟨h1,_⟩|⟨b',c',vs,rest,h1,h2,_,_,_,h6,_⟩
  ·rw[h1]at hd;cases hd
  ·rw[h1]at hd;cases hd
   exact⟨(aj.1 h6).1,h2⟩
 |map es=>
  obtain⟨r,mes,clock,h1,h2,h3,_⟩:=he
  rw[h1]at hd;cases hd
  exact⟨(aj.1 h3).1,h2⟩
 |pmap es=>
  obtain⟨es',r,mes,clock,_,h1,h2,h3,_⟩:=he
  rw[h1]at hd;cases hd
  exact⟨(aj.1 h3).1,h2⟩
 |itr m n' seen=>
  obtain⟨r,bm,c0,h1,h2,h3,_⟩:=he
  rw[h1]at hd;cases hd
  exact⟨(aj.1 h3).1,h2⟩
def Good(w:World)(K:Nat→Nat)(D:DM)(H:a0o)(r:Value)(w':World)(s:SV)(H':a0o):Prop:=
 ∃K' D',Grow w K D H w' K' D' H'∧HInv w' K' D' H'∧Rep w' K' D' r s
theorem Good.here {w:World} {K:Nat→Nat} {D:DM} {H:a0o} {r:Value} {s:SV} (hi:HInv w K D H)(h:Rep w K D r s):Good w K D H r w s H:=
 ⟨K,D,Grow.refl _ _ _ _,hi,h⟩
theorem HInv.drew {w:World} {K:Nat→Nat} {D:DM} {H:a0o} (h:HInv w K D H):HInv w.drew K D H:=
 ⟨h.dom,fun i en hi=>(h.ent i en hi).keep (fun _ _=>World.drew_rep) rfl (fun _ _ _ _ _=>⟨rfl,rfl⟩),h.inj,h.kw⟩
theorem Grow.drew(w:World)(K:Nat→Nat)(D:DM)(H:a0o):Grow w K D H w.drew K D H:=
 ⟨rfl,rfl,rfl,ak _,fun _ _ _=>rfl,fun _ _ _=>rfl,fun _=>ak _,fun _ _ _=>rfl,fun _ _ h=>h,fun _ h=> .inl h⟩
end Go.Sy
