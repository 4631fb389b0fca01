import Derived.WalkKit
import Derived.Orders
import Derived.Deep.AppendSrc
import Derived.Deep.DeepAppendWide
import Derived.Laws.MakeOwn
import Derived.Laws.BytesString
import Derived.Laws.CopyRow
import Derived.Laws.Cover4
import Derived.Laws.IdiomStrings
import Derived.Laws.StructEq
import Derived.MapKept
set_option linter.all false
namespace Go.Sy
open Go Go.RowKit
abbrev aa:= @Bool.and_eq_true
abbrev ab:= @List.getElem?_eq_some_iff
abbrev ac:= @List.getElem?_eq_getElem
abbrev ae:= @Nat.eq_of_beq_eq_true
abbrev af:= @Nat.le_of_ble_eq_true
abbrev ag:= @Option.some.injEq
abbrev ah:= @Array.getElem?_eq_some_iff
abbrev ai:= @Nat.le_refl
abbrev aj:= @List.map_cons
abbrev ak:= @List.getD_eq_getElem?_getD
abbrev al:= @List.getElem?_map
abbrev am:= @List.mem_cons_of_mem
abbrev ao:= @List.eq_nil_of_length_eq_zero
abbrev aq:= @Option.bind_some
abbrev ar:= @List.mem_cons_self
abbrev au:= @Option.some.inj
abbrev av:= @List.mem_append
abbrev aw:= @List.getElem?_eq_none
abbrev ay:= @List.length_append
abbrev az:= @List.flatMap_cons
abbrev aA:= @List.mem_of_getElem?
abbrev aB:= @Prod.mk.injEq
abbrev aC:= @Array.mem_toList_iff
abbrev aD:= @List.getElem?_append
abbrev aE:= @List.all_cons
abbrev aF:= @List.map_nil
abbrev aG:= @Int.le_refl
abbrev aH:= @Bool.false_eq_true
abbrev aI:= @Nat.le_trans
abbrev aJ:= @List.length_take
abbrev aK:= @Array.all_eq_true_iff_forall_mem
abbrev aL:= @List.getElem?_set
abbrev aM:= @List.getElem?_take
abbrev aN:= @Array.getElem?_eq_getElem
abbrev aO:= @List.mem_cons
abbrev aP:= @Option.map_some
abbrev aQ:= @Nat.mul_le_mul_right
abbrev aR:= @List.mem_map
abbrev aS:= @List.length_cons
abbrev aT:= @Array.getD_eq_getD_getElem?
abbrev aU:= @Nat.lt_of_lt_of_le
abbrev aV:= @List.mem_range
abbrev aW:= @Nat.zero_add
abbrev aX:= @List.all_nil
abbrev aY:= @List.mem_iff_getElem?
abbrev aZ:= @Nat.eq_zero_or_pos
abbrev ba:= @Option.getD_some
abbrev bc:= @List.length_drop
abbrev be:= @Array.toList_inj
abbrev bf:= @List.getElem?_range
abbrev bg:= @Nat.zero_le
abbrev bh:= @List.ext_getElem?
abbrev bk:= @List.map_congr_left
abbrev bl:= @List.mem_singleton
abbrev bn:= @Nat.lt_of_succ_le
abbrev bo:= @Array.getElem?_push
abbrev bp:= @Nat.succ_mul
abbrev br:= @Nat.lt_or_ge
abbrev bu:= @Array.getElem?_append_left
abbrev bv:= @List.getElem?_append_right
abbrev bw:= @Array.mem_append
abbrev bz:= @List.getElem?_append_left
abbrev bA:= @List.drop_eq_getElem_cons
abbrev bB:= @Bool.or_eq_true
abbrev bC:= @Nat.sub_zero
abbrev bD:= @List.drop_eq_nil_of_le
abbrev bE:= @List.map_map
abbrev bF:= @List.append_nil
abbrev bG:= @List.mem_of_mem_take
abbrev bH:= @List.getElem?_set_ne
abbrev bI:= @List.map_toArray
abbrev bJ:= @Array.length_toList
abbrev bK:= @List.getElem?_cons_zero
abbrev bL:= @List.all_append
abbrev bM:= @List.length_nil
abbrev bN:= @Array.getElem?_eq_none
abbrev bO:= @List.getElem?_set_self
abbrev bP:= @List.append_assoc
abbrev bQ:= @List.mem_append_right
abbrev bR:= @List.take_append_drop
abbrev bS:= @Array.getElem?_toList
abbrev bT:= @Array.getElem?_modify
abbrev bU:= @Int.le_trans
abbrev bV:= @List.mem_of_mem_drop
abbrev bW:= @List.mem_append_left
abbrev bX:= @List.getElem_mem
abbrev bY:= @Bool.and_eq_true_iff
abbrev bZ:= @Nat.add_mul
abbrev ca:= @List.extract_eq_take_drop
abbrev cd:= @List.nil_append
abbrev cf:= @List.map_append
abbrev cg:= @List.mapM_cons
abbrev ci:= @Bool.not_eq_true'
abbrev ck:= @List.mem_toArray
abbrev cm:= @List.mem_flatMap
abbrev cn:= @List.cons_append
abbrev co:= @List.not_mem_nil
abbrev cq:= @Nat.not_lt_zero
abbrev cu:= @List.range_succ
def u0z(n:Nat):Prop:=n<=4294967296
instance {n:Nat} :Decidable (u0z n):=inferInstanceAs (Decidable (n<=4294967296))
inductive SV where
  |undef
  |bool (b:Bool)
  |int (k:IntKind) (n:Int)
  |str (s:List UInt8)
  |nl
  |lst (n k:Nat) (cs:List SV)
  |ep (cs:List SV)
  |agg (cs:List SV)
  |tup (vs:List SV)
  |ptr (i off:Nat)
  |vc (i:Nat)
  |sl (i off n k:Nat)
  |mp (i:Nat)
  |fn (f:Fn) (first captured:List SV)
  |nilp
  |yld (i:Nat)
def SV.plain:SV->Bool
  | .bool _=>true
  | .int _ _=>true
  | .str _=>true
  | .nl=>true
  | .lst _ _ _=>true
  | .nilp=>true
  |_=>false
def b0f(cs:List SV):Bool:=cs.all SV.plain
inductive Loc where
  |nil
  |at(b c n:Nat)
abbrev DM:=Nat->Option Loc
inductive Ent where
  |res
  |gone
  |box (cs:List SV)
  |vec (n k:Nat) (e:TypeId) (cs:List SV)
  |map (es:List (SV×SV))
  |itr (m n:Nat) (seen:List Nat)
  |pmap (es:List (SV×SV))
  |lop (tm:List SV) (ps:List Nat) (as bd:Code) (st:LoopState) (pd:Option Code)
  |dfr
abbrev a0f:=List Ent
theorem j0h {α β:Type} {f:α->β} : ∀(l:List α) (l':List β),l'.Perm (l.map f)-> ∃m:List α,m.Perm l/\m.map f=l'
  | [],l',h=>by have:=h.eq_nil;subst this;exact⟨[], .refl _,rfl⟩
  |a::r,l',h=>by
    obtain⟨s,t,rfl⟩:=List.append_of_mem (h.mem_iff.2 (by simp:f a∈(a::r).map f))
    have h2:(s++t).Perm (r.map f):=(List.perm_middle.symm.trans h).cons_inv
    obtain⟨m,hm,he⟩:=j0h r _ h2
    obtain⟨m1,m2,rfl,rfl,rfl⟩:=List.map_eq_append_iff.1 he
    exact⟨m1++a::m2,List.perm_middle.trans (hm.cons a),by simp⟩
inductive Rep (w:World) (K:Nat->Nat) (D:DM):Value->SV->Prop
  |undef (v:Value):Rep w K D v .undef
  |bool (b:Bool):Rep w K D (.bool b) (.bool b)
  |int (k:IntKind) (n:Int):Rep w K D (.int k n) (.int k n)
  |str (s:ByteArray):Rep w K D (.string s) (.str s.data.toList)
  |nl (a:Option Addr):Rep w K D (.slice a 0 0) .nl
  |emp (k:Nat) (a:Option Addr) (cap:Nat):Rep w K D (.slice a 0 cap) (.lst 0 k [])
  |lst (k b off len cap:Nat) (vs:List Value) (cs:List SV) (hk:0<k) (hl:vs.length=len*k) (hc:cs.length=vs.length)
      (hcap:len<=cap) (hm: ∀j v,vs[j]?=some v->w.cell? ⟨b,off+j,none⟩=some v) (hK:off+vs.length<=K b)
      (h1: ∀v∈vs,v.oneCell'=true) (hp:b0f cs=true) (h: ∀(j:Nat) (v:Value) (c:SV),vs[j]?=some v->cs[j]?=some c->Rep w K D v c):
      Rep w K D (.slice (some ⟨b,off,none⟩) len cap) (.lst len k cs)
  |ep (b off:Nat) (vs:List Value) (cs:List SV) (hc:cs.length=vs.length)
      (hm: ∀j v,vs[j]?=some v->w.cell? ⟨b,off+j,none⟩=some v) (hK:off+vs.length<=K b)
      (h1: ∀v∈vs,v.oneCell'=true) (hp:b0f cs=true) (h: ∀(j:Nat) (v:Value) (c:SV),vs[j]?=some v->cs[j]?=some c->Rep w K D v c):
      Rep w K D (.pointer (some ⟨b,off,none⟩)) (.ep cs)
  |agg (vs:List Value) (cs:List SV) (hc:cs.length=vs.length) (h1: ∀v∈vs,v.oneCell'=true)
      (h: ∀(j:Nat) (v:Value) (c:SV),vs[j]?=some v->cs[j]?=some c->Rep w K D v c):Rep w K D (.agg vs.toArray) (.agg cs)
  |tup (vs:List Value) (cs:List SV) (hc:cs.length=vs.length)
      (h: ∀(j:Nat) (v:Value) (c:SV),vs[j]?=some v->cs[j]?=some c->Rep w K D v c):Rep w K D (.tuple vs.toArray) (.tup cs)
  |ptr (i off b c n:Nat) (hd:D i=some (.at b c n)):Rep w K D (.pointer (some ⟨b,off,none⟩)) (.ptr i off)
  |vcn (i:Nat) (a:Option Addr) (hd:D i=some .nil):Rep w K D (.slice a 0 0) (.vc i)
  |vc (i b c n:Nat) (hd:D i=some (.at b c n)):Rep w K D (.slice (some ⟨b,0,none⟩) n c) (.vc i)
  |sl (i off n k b c m cap:Nat) (hd:D i=some (.at b c m)) (hn:n<=cap):Rep w K D (.slice (some ⟨b,off,none⟩) n cap) (.sl i off n k)
  |mp (i r c n:Nat) (hd:D i=some (.at r c n)):Rep w K D (.map (some r)) (.mp i)
  |fn (f:Fn) (fs caps:List Value) (gs dcs:List SV) (hc:gs.length=fs.length) (hd:dcs.length=caps.length)
      (h: ∀(j:Nat) (v:Value) (c:SV),fs[j]?=some v->gs[j]?=some c->Rep w K D v c)
      (h': ∀(j:Nat) (v:Value) (c:SV),caps[j]?=some v->dcs[j]?=some c->Rep w K D v c):
      Rep w K D (.func f fs.toArray caps.toArray) (.fn f gs dcs)
  |nilp:Rep w K D (.pointer none) .nilp
  |yld (i l c n:Nat) (hd:D i=some (.at l c n)):Rep w K D (.func (.yield l) #[] #[]) (.yld i)
theorem Rep.mono {w w':World} {K K':Nat->Nat} {D D':DM} (hw: ∀b j,j<K b->w'.cell? ⟨b,j,none⟩=w.cell? ⟨b,j,none⟩)
    (hK: ∀b,K b<=K' b) (hD: ∀i x,D i=some x->D' i=some x) {v:Value} {s:SV} (h:Rep w K D v s):Rep w' K' D' v s:=by
  induction h with
  |undef v=>exact .undef v
  |bool b=>exact .bool b
  |int k n=>exact .int k n
  |str s=>exact .str s
  |nl a=>exact .nl a
  |emp k a cap=>exact .emp k a cap
  |lst k b off len cap vs cs hk hl hc hcap hm hKb h1 hp _ ih=>
    refine .lst k b off len cap vs cs hk hl hc hcap (λj v hj=> ?_) (aI hKb (hK b)) h1 hp ih
    rw[hw b (off+j) (by have:=(ab.1 hj).1;omega)]
    exact hm j v hj
  |ep b off vs cs hc hm hKb h1 hp _ ih=>
    refine .ep b off vs cs hc (λj v hj=> ?_) (aI hKb (hK b)) h1 hp ih
    rw[hw b (off+j) (by have:=(ab.1 hj).1;omega)]
    exact hm j v hj
  |agg vs cs hc h1 _ ih=>exact .agg vs cs hc h1 ih
  |tup vs cs hc _ ih=>exact .tup vs cs hc ih
  |ptr i off b c n hd=>exact .ptr i off b c n (hD _ _ hd)
  |vcn i a hd=>exact .vcn i a (hD _ _ hd)
  |vc i b c n hd=>exact .vc i b c n (hD _ _ hd)
  |sl i off n k b c m cap hd hn=>exact .sl i off n k b c m cap (hD _ _ hd) hn
  |mp i r c n hd=>exact .mp i r c n (hD _ _ hd)
  |fn f fs caps gs dcs hc hd _ _ ih ih'=>exact .fn f fs caps gs dcs hc hd ih ih'
  |nilp=>exact .nilp
  |yld i l c n hd=>exact .yld i l c n (hD _ _ hd)
theorem d0Q {cs:List SV} (h:b0f cs=true) {j:Nat} {c:SV} (hc:cs[j]?=some c):c.plain=true:=
  List.all_eq_true.1 h c (aA hc)
theorem Rep.plain {w:World} {K:Nat->Nat} {D D':DM} {v:Value} {s:SV} (h:Rep w K D v s)(hp:s.plain=true):Rep w K D' v s:=by
  induction h with
  |bool b=>exact .bool b
  |int k n=>exact .int k n
  |str s=>exact .str s
  |nl a=>exact .nl a
  |emp k a cap=>exact .emp k a cap
  |lst k b off len cap vs cs hk hl hc hcap hm hKb h1 hp' _ ih=>
    exact .lst k b off len cap vs cs hk hl hc hcap hm hKb h1 hp' (λj v c hv hcc=>ih j v c hv hcc (d0Q hp' hcc))
  |nilp=>exact .nilp
  |_=>cases hp
theorem q0q {w:World} {K:Nat->Nat} {D:DM} {v:Value} {s:SV} (h:Rep w K D v s)(hp:s.plain=true):v.oneCell'=true:=by
  cases h<;>first|rfl|cases hp
structure CR (w:World) (K:Nat->Nat) (D:DM) (vs:List Value) (cs:List SV):Prop where
  len:cs.length=vs.length
  one: ∀v∈vs,v.oneCell'=true
  rep: ∀(j:Nat) (v:Value) (c:SV),vs[j]?=some v->cs[j]?=some c->Rep w K D v c
def f0z(en:Ent):Bool:=match en with
  | .res=>false
  | .gone=>false
  |_=>true
def Mem(D:DM)(H:a0f)(b:Nat):Prop:= ∃i en c n,H[i]?=some en/\f0z en=true/\D i=some (.at b c n)
def C0b(mes:Array MapEntry)(clock:Nat):Prop:=clock=mes.size/\ ∀(j:Nat) (me:MapEntry),mes[j]?=some me->me.born=j
def EntOk(w:World)(K:Nat->Nat)(D:DM)(i:Nat):Ent->Prop
  | .res=>D i=none
  | .gone=>True
  | .box cs=> ∃b vs e,D i=some (.at b 0 0)/\K b=0/\w.heap[b]?=some (.cells vs.toArray e (0,0))/\CR w K D vs cs
  | .vec n k e cs=>b0f cs=true/\((D i=some .nil/\n=0/\cs=[])\/ ∃b c vs rest,D i=some (.at b c n)/\K b=0/\0<k/\n<=c/\c<=maxLen/\
      w.heap[b]?=some (.cells (vs++rest).toArray e (0,0))/\vs.length=n*k/\(vs++rest).length=c*k/\CR w K D vs cs)
  | .map es=> ∃r mes clock,D i=some (.at r 0 0)/\K r=0/\w.heap[r]?=some (.map mes clock)/\es.length=mes.size/\C0b mes clock/\
      ∀(j:Nat) (me:MapEntry) (kv:SV×SV),mes[j]?=some me->es[j]?=some kv->Rep w K D me.key kv.1/\Rep w K D me.val kv.2
  | .pmap es=> ∃(es':List (SV×SV)) (r:Nat) (mes:Array MapEntry) (clock:Nat),es'.Perm es/\D i=some (.at r 0 0)/\K r=0/\w.heap[r]?=some (.map mes clock)/\es'.length=mes.size/\C0b mes clock/\
      ∀(j:Nat) (me:MapEntry) (kv:SV×SV),mes[j]?=some me->es'[j]?=some kv->Rep w K D me.key kv.1/\Rep w K D me.val kv.2
  | .itr m n seen=> ∃r bm c0,D i=some (.at r 0 0)/\K r=0/\w.heap[r]?=some (.mapIter (some bm) n seen.toArray c0)/\c0=n/\Rep w K D (.map (some bm)) (.mp m)
  | .lop tm ps as bd st pd=> ∃l r,D i=some (.at l 0 0)/\K l=0/\w.heap[l]?=some (.loop r)/\r.params=ps.toArray/\r.assign=as/\r.body=bd/\r.state=st/\r.pending=pd/\r.tmps.size=tm.length/\
      ∀(j:Nat) (v:Value) (c:SV),r.tmps[j]?=some v->tm[j]?=some c->Rep w K D v c
  | .dfr=> ∃b,D i=some (.at b 0 0)/\K b=0/\w.heap[b]?=some (.deferred (some []))
structure HInv (w:World) (K:Nat->Nat) (D:DM) (H:a0f):Prop where
  dom: ∀i,H.length<=i->D i=none
  ent: ∀i en,H[i]?=some en->EntOk w K D i en
  inj: ∀i j en en' b c n c' n',H[i]?=some en->H[j]?=some en'->f0z en=true->f0z en'=true->D i=some (.at b c n)->D j=some (.at b c' n')->i=j
  kw: ∀b,K b≠0->b<w.heap.size
structure Grow (w:World) (K:Nat->Nat) (D:DM) (H:a0f) (w':World) (K':Nat->Nat) (D':DM) (H':a0f):Prop where
  os:w'.os=w.os
  tape:w'.tape=w.tape
  output:w'.output=w.output
  size:w.heap.size<=w'.heap.size
  block: ∀b,b<w.heap.size-> ¬Mem D H b->w'.heap[b]?=w.heap[b]?
  cells: ∀b j,j<K b->w'.cell? ⟨b,j,none⟩=w.cell? ⟨b,j,none⟩
  le: ∀b,K b<=K' b
  kk: ∀b,b<w.heap.size-> ¬Mem D H b->K' b=K b
  dd: ∀i x,D i=some x->D' i=some x
  new: ∀b,Mem D' H' b->Mem D H b\/w.heap.size<=b
theorem Grow.refl(w:World)(K:Nat->Nat)(D:DM)(H:a0f):Grow w K D H w K D H:=
  ⟨rfl,rfl,rfl,ai _,λ_ _ _=>rfl,λ_ _ _=>rfl,λ_=>ai _,λ_ _ _=>rfl,λ_ _ h=>h,λ_ h=> .inl h⟩
theorem Grow.trans {w w1 w2:World} {K K1 K2:Nat->Nat} {D D1 D2:DM} {H H1 H2:a0f} (g:Grow w K D H w1 K1 D1 H1)(g':Grow w1 K1 D1 H1 w2 K2 D2 H2):Grow w K D H w2 K2 D2 H2:=by
  have hn: ∀b,b<w.heap.size-> ¬Mem D H b-> ¬Mem D1 H1 b:=λb hb hm h=>by
    rcases g.new b h with h|h
    exact hm h
    omega
  refine⟨g'.os.trans g.os,g'.tape.trans g.tape,g'.output.trans g.output,aI g.size g'.size,λb hb hm=> ?_,λb j hj=> ?_,λb=>aI (g.le b) (g'.le b),λb hb hm=> ?_,λi x h=>g'.dd i x (g.dd i x h),λb h=> ?_⟩
  rw[g'.block b (aU hb g.size) (hn b hb hm)];exact g.block b hb hm
  rw[g'.cells b j (aU hj (g.le b))];exact g.cells b j hj
  rw[g'.kk b (aU hb g.size) (hn b hb hm)];exact g.kk b hb hm
  rcases g'.new b h with h|h
  exact g.new b h
  exact .inr (aI g.size h)
theorem Grow.rep {w w':World} {K K':Nat->Nat} {D D':DM} {H H':a0f} (g:Grow w K D H w' K' D' H') {v:Value} {s:SV} (h:Rep w K D v s):Rep w' K' D' v s:=
  h.mono g.cells g.le g.dd
theorem CR.mono {w w':World} {K K':Nat->Nat} {D D':DM} (hr: ∀v s,Rep w K D v s->Rep w' K' D' v s) {vs:List Value} {cs:List SV} (h:CR w K D vs cs):CR w' K' D' vs cs:=
  ⟨h.len,h.one,λj v c hv hc=>hr _ _ (h.rep j v c hv hc)⟩
theorem World.drew_rep {w:World} {K:Nat->Nat} {D:DM} {v:Value} {s:SV} (h:Rep w K D v s):Rep w.drew K D v s:=
  Rep.mono (w:=w) (w':=w.drew) (λ_ _ _=>rfl) (λ_=>ai _) (λ_ _ e=>e) h
theorem EntOk.keep {w w':World} {K K':Nat->Nat} {D D':DM} {i:Nat} {en:Ent} (h:EntOk w K D i en)(hr: ∀v s,Rep w K D v s->Rep w' K' D' v s)(hd:D' i=D i)
    (hb: ∀b c n,f0z en=true->D i=some (.at b c n)->w'.heap[b]?=w.heap[b]?/\K' b=K b):EntOk w' K' D' i en:=by
  cases en with
  |res=>simpa only[EntOk,hd]using h
  |gone=>trivial
  |box cs=>
    obtain⟨b,vs,e,h1,h2,h3,h4⟩:=h
    obtain⟨g1,g2⟩:=hb b 0 0 rfl h1
    exact⟨b,vs,e,by rw[hd];exact h1,by rw[g2];exact h2,by rw[g1];exact h3,h4.mono hr⟩
  |vec n k e cs=>
    obtain⟨hp,h⟩:=h
    refine⟨hp, ?_⟩
    rcases h with⟨h1,h2,h3⟩|⟨b,c,vs,rest,h1,h2,h3,h4,h5,h6,h7,h8,h9⟩
    exact .inl ⟨by rw[hd];exact h1,h2,h3⟩
    obtain⟨g1,g2⟩:=hb b c n rfl h1
    exact .inr ⟨b,c,vs,rest,by rw[hd];exact h1,by rw[g2];exact h2,h3,h4,h5,by rw[g1];exact h6,h7,h8,h9.mono hr⟩
  |map es=>
    obtain⟨r,mes,clock,h1,h2,h3,h4,hB,h5⟩:=h
    obtain⟨g1,g2⟩:=hb r 0 0 rfl h1
    exact⟨r,mes,clock,by rw[hd];exact h1,by rw[g2];exact h2,by rw[g1];exact h3,h4,hB,λj me kv hm hk=>⟨hr _ _ (h5 j me kv hm hk).1,hr _ _ (h5 j me kv hm hk).2⟩⟩
  |pmap es=>
    obtain⟨es',r,mes,clock,hp,h1,h2,h3,h4,hB,h5⟩:=h
    obtain⟨g1,g2⟩:=hb r 0 0 rfl h1
    exact⟨es',r,mes,clock,hp,by rw[hd];exact h1,by rw[g2];exact h2,by rw[g1];exact h3,h4,hB,λj me kv hm hk=>⟨hr _ _ (h5 j me kv hm hk).1,hr _ _ (h5 j me kv hm hk).2⟩⟩
  |itr m n seen=>
    obtain⟨r,bm,c0,h1,h2,h3,h4,h5⟩:=h
    obtain⟨g1,g2⟩:=hb r 0 0 rfl h1
    exact⟨r,bm,c0,by rw[hd];exact h1,by rw[g2];exact h2,by rw[g1];exact h3,h4,hr _ _ h5⟩
  |lop tm ps as bd st pd=>
    obtain⟨l,r,h1,h2,h3,h4,h5,h6,h7,h8,h9,h10⟩:=h
    obtain⟨g1,g2⟩:=hb l 0 0 rfl h1
    exact⟨l,r,by rw[hd];exact h1,by rw[g2];exact h2,by rw[g1];exact h3,h4,h5,h6,h7,h8,h9,λj v c hv hc=>hr _ _ (h10 j v c hv hc)⟩
  |dfr=>
    obtain⟨b,h1,h2,h3⟩:=h
    obtain⟨g1,g2⟩:=hb b 0 0 rfl h1
    exact⟨b,by rw[hd];exact h1,by rw[g2];exact h2,by rw[g1];exact h3⟩
theorem h0M {w:World} {K:Nat->Nat} {D:DM} {H:a0f} (h:HInv w K D H) {b:Nat} (hm:Mem D H b):b<w.heap.size/\K b=0:=by
  obtain⟨i,en,c,n,hi,hl,hd⟩:=hm
  have he:=h.ent i en hi
  cases en with
  |res=>cases hl
  |gone=>cases hl
  |box cs=>
    obtain⟨b',vs,e,h1,h2,h3,_⟩:=he
    rw[h1]at hd;cases hd
    exact⟨(ah.1 h3).1,h2⟩
  |vec m k e cs=>
    rcases he.2 with⟨h1,_⟩|⟨b',c',vs,rest,h1,h2,_,_,_,h6,_⟩
    rw[h1]at hd;cases hd
    rw[h1]at hd;cases hd
    exact⟨(ah.1 h6).1,h2⟩
  |map es=>
    obtain⟨r,mes,clock,h1,h2,h3,_⟩:=he
    rw[h1]at hd;cases hd
    exact⟨(ah.1 h3).1,h2⟩
  |pmap es=>
    obtain⟨es',r,mes,clock,_,h1,h2,h3,_⟩:=he
    rw[h1]at hd;cases hd
    exact⟨(ah.1 h3).1,h2⟩
  |itr m n' seen=>
    obtain⟨r,bm,c0,h1,h2,h3,_⟩:=he
    rw[h1]at hd;cases hd
    exact⟨(ah.1 h3).1,h2⟩
  |lop tm ps as bd st pd=>
    obtain⟨l,r,h1,h2,h3,_⟩:=he
    rw[h1]at hd;cases hd
    exact⟨(ah.1 h3).1,h2⟩
  |dfr=>
    obtain⟨b',h1,h2,h3⟩:=he
    rw[h1]at hd;cases hd
    exact⟨(ah.1 h3).1,h2⟩
def Good(w:World)(K:Nat->Nat)(D:DM)(H:a0f)(r:Value)(w':World)(s:SV)(H':a0f):Prop:=
  ∃K' D',Grow w K D H w' K' D' H'/\HInv w' K' D' H'/\Rep w' K' D' r s
theorem Good.here {w:World} {K:Nat->Nat} {D:DM} {H:a0f} {r:Value} {s:SV} (hi:HInv w K D H)(h:Rep w K D r s):Good w K D H r w s H:=
  ⟨K,D,Grow.refl _ _ _ _,hi,h⟩
theorem HInv.drew {w:World} {K:Nat->Nat} {D:DM} {H:a0f} (h:HInv w K D H):HInv w.drew K D H:=
  ⟨h.dom,λi en hi=>(h.ent i en hi).keep (λ_ _=>World.drew_rep) rfl (λ_ _ _ _ _=>⟨rfl,rfl⟩),h.inj,h.kw⟩
theorem Grow.drew(w:World)(K:Nat->Nat)(D:DM)(H:a0f):Grow w K D H w.drew K D H:=
  ⟨rfl,rfl,rfl,ai _,λ_ _ _=>rfl,λ_ _ _=>rfl,λ_=>ai _,λ_ _ _=>rfl,λ_ _ h=>h,λ_ h=> .inl h⟩
section
def j0O:Value->Option SV
  | .bool b=>some (.bool b)
  | .int k n=>some (.int k n)
  | .string s=>some (.str s.data.toList)
  | .slice none 0 0=>some .nl
  | .pointer none=>some .nilp
  |_=>none
structure GT where
  tab:Nat->Option (List SV)
def B0W [G:Inhabited GT](g:Nat):Option (List SV):=G.default.tab g
variable [Inhabited GT]
def a0F(ρ:Nat->SV):Operand->Option SV
  | .tmp t=>some (ρ t)
  | .const v=>some ((j0O v).getD .undef)
  | .func f=>some (.fn (.func f) [] [])
  | .global g=>(B0W g).map .ep
def p0t(P:Program)(t:TypeId):Bool:=match P.underlying t with
  |some .bool=>true
  |_=>false
def h0l(bt:Bool)(op:BinOp)(a b:SV):Option SV:=
  match op with
  | .add=>match a,b with
    | .int k x, .int k' y=>if k=k' then some (.int k (k.wrap (x+y)))else none
    | .str s, .str t=>if u0z (s.length+t.length)then some (.str (s++t))else none
    |_,_=>none
  | .sub=>match a,b with
    | .int k x, .int k' y=>if k=k' then some (.int k (k.wrap (x-y)))else none
    |_,_=>none
  | .mul=>match a,b with
    | .int k x, .int k' y=>if k=k' then some (.int k (k.wrap (x*y)))else none
    |_,_=>none
  | .quo=>match a,b with
    | .int k x, .int k' y=>if k=k' then(if y=0 then none else some (.int k (k.wrap (x.tdiv y))))else none
    |_,_=>none
  | .rem=>match a,b with
    | .int k x, .int k' y=>if k=k' then(if y=0 then none else some (.int k (x.tmod y)))else none
    |_,_=>none
  | .and=>match a,b with
    | .int k x, .int k' y=>if k=k' then some (.int k (bits .and k x y))else none
    |_,_=>none
  | .or=>match a,b with
    | .int k x, .int k' y=>if k=k' then some (.int k (bits .or k x y))else none
    |_,_=>none
  | .xor=>match a,b with
    | .int k x, .int k' y=>if k=k' then some (.int k (bits .xor k x y))else none
    |_,_=>none
  | .andNot=>match a,b with
    | .int k x, .int k' y=>if k=k' then some (.int k (bits .andNot k x y))else none
    |_,_=>none
  | .shl=>match a,b with
    | .int k x, .int _ y=>if y<0 then none else some (.int k (k.wrap (x*2^(min y.toNat k.bits))))
    |_,_=>none
  | .shr=>match a,b with
    | .int k x, .int _ y=>if y<0 then none else some (.int k (x.fdiv (2^(min y.toNat k.bits))))
    |_,_=>none
  | .eql=>match a,b with
    | .int k x, .int k' y=>if k=k' then some (.bool (decide (x=y)))else none
    | .bool x, .bool y=>if bt then some (.bool (x==y))else none
    | .str s, .str t=>some (.bool (s==t))
    |_,_=>none
  | .neq=>match a,b with
    | .int k x, .int k' y=>if k=k' then some (.bool (decide (¬x=y)))else none
    | .bool x, .bool y=>if bt then some (.bool (x !=y))else none
    | .str s, .str t=>some (.bool (s !=t))
    |_,_=>none
  | .lss=>match a,b with
    | .int k x, .int k' y=>if k=k' then some (.bool (decide (x<y)))else none
    | .str s, .str t=>some (.bool (Op.bytesLess s t))
    |_,_=>none
  | .leq=>match a,b with
    | .int k x, .int k' y=>if k=k' then some (.bool (decide (x<=y)))else none
    | .str s, .str t=>some (.bool (Op.bytesLess s t||s==t))
    |_,_=>none
  | .gtr=>match a,b with
    | .int k x, .int k' y=>if k=k' then some (.bool (decide (x>y)))else none
    | .str s, .str t=>some (.bool !(Op.bytesLess s t||s==t))
    |_,_=>none
  | .geq=>match a,b with
    | .int k x, .int k' y=>if k=k' then some (.bool (decide (x≥y)))else none
    | .str s, .str t=>some (.bool !(Op.bytesLess s t))
    |_,_=>none
theorem i0p(s:ByteArray):s.toList=s.data.toList:=ByteArray.toList_eq s
theorem k0I {P:Program} {w:World} (s:Sem Unit)(t:Sem Value)(hs:s=pure ()):(do s;t:Sem Value).run P w=t.run P w:=by
  subst hs;rfl
theorem g0s {P:Program} {w:World} {op:BinOp} {t:TypeId} {x y:Operand} {k:IntKind} {a b:Int} {r:Value}
    (h:(binOp op t (.int k a) (.int k b)).run P w= .ok r w):(do eqGuard op t x y (.int k a) (.int k b);binOp op t (.int k a) (.int k b):Sem Value).run P w= .ok r w:=by
  rw[k0I _ _ (by cases op<;>rfl)];exact h
theorem t0r {P:Program} {w:World} {op:BinOp} {t:TypeId} {x y:Operand} {a b:Bool} {r:Value}
    (h:(binOp op t (.bool a) (.bool b)).run P w= .ok r w):(do eqGuard op t x y (.bool a) (.bool b);binOp op t (.bool a) (.bool b):Sem Value).run P w= .ok r w:=by
  rw[k0I _ _ (by cases op<;>rfl)];exact h
theorem p0H {P:Program} {w:World} {op:BinOp} {t:TypeId} {x y:Operand} {a b:ByteArray} {r:Value}
    (h:(binOp op t (.string a) (.string b)).run P w= .ok r w):(do eqGuard op t x y (.string a) (.string b);binOp op t (.string a) (.string b):Sem Value).run P w= .ok r w:=by
  rw[k0I _ _ (by cases op<;>rfl)];exact h
def PureV(P:Program)(w:World)(K:Nat->Nat)(D:DM)(s:Sem Value)(c:SV):Prop:=
  ∃r,s.run P w= .ok r w/\Rep w K D r c
section
variable {P : Program} {w : World} {K : Nat -> Nat} {D : DM}
theorem PureV.int {s:Sem Value} {k:IntKind} {n:Int} (h:s.run P w= .ok (.int k n) w):PureV P w K D s (.int k n):=⟨_,h, .int _ _⟩
theorem PureV.bool {s:Sem Value} {b:Bool} (h:s.run P w= .ok (.bool b) w):PureV P w K D s (.bool b):=⟨_,h, .bool _⟩
theorem PureV.str {s:Sem Value} {b:ByteArray} {l:List UInt8} (h:s.run P w= .ok (.string b) w)(hl:l=b.data.toList):PureV P w K D s (.str l):=by subst hl;exact⟨_,h, .str _⟩
end
theorem m0C {P:Program} {t:TypeId} (h:p0t P t=true):P.underlying t=some .bool:=by
  unfold p0t at h;split at h<;>first|assumption|cases h
theorem s0y {P:Program} {w:World} {K:Nat->Nat} {D:DM} {op:BinOp} {t:TypeId} {x y:Operand} {u v:Value} {a b c:SV}
    (hu:Rep w K D u a) (hv:Rep w K D v b) (h:h0l (p0t P t) op a b=some c):PureV P w K D (do eqGuard op t x y u v;binOp op t u v:Sem Value) c:=by
  cases op
  case add=>
    simp only[h0l]at h
    split at h
    · cases hu;cases hv;split at h<;>cases h
      rename_i hk;subst hk
      exact .int (g0s (by simp[binOp,Op.intArith]))
    · cases hu;cases hv;split at h<;>cases h
      rename_i hl
      unfold u0z at hl
      exact .str (p0H (by
        simp only[binOp,Op.stringOp]
        rw[if_neg (by simp[IntKind.max,IntKind.signed,IntKind.bits]at hl⊢;omega)];rfl)) (by simp)
    cases h
  case sub=>
    simp only[h0l]at h
    split at h
    · cases hu;cases hv;split at h<;>cases h
      rename_i hk;subst hk
      exact .int (g0s (by simp[binOp,Op.intArith]))
    cases h
  case mul=>
    simp only[h0l]at h
    split at h
    · cases hu;cases hv;split at h<;>cases h
      rename_i hk;subst hk
      exact .int (g0s (by simp[binOp,Op.intArith]))
    cases h
  case quo=>
    simp only[h0l]at h
    split at h
    · cases hu;cases hv;split at h<;>try cases h
      rename_i hk;subst hk
      split at h<;>cases h
      rename_i hy
      exact .int (g0s (by simp[binOp,Op.intDiv,hy]))
    cases h
  case rem=>
    simp only[h0l]at h
    split at h
    · cases hu;cases hv;split at h<;>try cases h
      rename_i hk;subst hk
      split at h<;>cases h
      rename_i hy
      exact .int (g0s (by simp[binOp,Op.intDiv,hy]))
    cases h
  case and=>
    simp only[h0l]at h
    split at h
    · cases hu;cases hv;split at h<;>cases h
      rename_i hk;subst hk
      exact .int (g0s (by simp[binOp,intBits_and]))
    cases h
  case or=>
    simp only[h0l]at h
    split at h
    · cases hu;cases hv;split at h<;>cases h
      rename_i hk;subst hk
      exact .int (g0s (by simp[binOp,intBits_or]))
    cases h
  case xor=>
    simp only[h0l]at h
    split at h
    · cases hu;cases hv;split at h<;>cases h
      rename_i hk;subst hk
      exact .int (g0s (by simp[binOp,intBits_xor]))
    cases h
  case andNot=>
    simp only[h0l]at h
    split at h
    · cases hu;cases hv;split at h<;>cases h
      rename_i hk;subst hk
      exact .int (g0s (by simp[binOp,intBits_andNot]))
    cases h
  case shl=>
    simp only[h0l]at h
    split at h
    · cases hu;cases hv;split at h<;>cases h
      rename_i hy
      exact .int (by rw[k0I _ _ (show eqGuard .shl t x y _ _=pure ()from rfl)];simp[binOp,Op.shift,hy])
    cases h
  case shr=>
    simp only[h0l]at h
    split at h
    · cases hu;cases hv;split at h<;>cases h
      rename_i hy
      exact .int (by rw[k0I _ _ (show eqGuard .shr t x y _ _=pure ()from rfl)];simp[binOp,Op.shift,hy])
    cases h
  case eql=>
    simp only[h0l]at h
    split at h
    · cases hu;cases hv;split at h<;>cases h
      rename_i hk;subst hk
      exact .bool (g0s (by simp[binOp,Op.intCmp];rfl))
    · cases hu;cases hv;split at h<;>cases h
      rename_i hb
      exact .bool (t0r (run_eql_bool _ _ _ _ (m0C hb)))
    cases hu;cases hv;cases h
    exact .bool (p0H (by simp[binOp,Op.stringOp,i0p]))
    cases h
  case neq=>
    simp only[h0l]at h
    split at h
    · cases hu;cases hv;split at h<;>cases h
      rename_i hk;subst hk
      exact .bool (g0s (by simp[binOp,Op.intCmp,bne];rfl))
    · cases hu;cases hv;split at h<;>cases h
      rename_i hb
      exact .bool (t0r (by simp[binOp,run_equal_bool w _ _ _ (m0C hb),bne]))
    cases hu;cases hv;cases h
    exact .bool (p0H (by simp[binOp,Op.stringOp,i0p,bne]))
    cases h
  all_goals
    simp only[h0l]at h
    split at h
    · cases hu;cases hv;split at h<;>cases h
      rename_i hk;subst hk
      exact .bool (g0s (by simp[binOp,Op.intCmp]))
    cases hu;cases hv;cases h
    exact .bool (p0H (by simp[binOp,Op.stringOp,i0p]))
    cases h
end
section
variable [Inhabited GT]
abbrev Env:=Nat->SV
def upd(ρ:Env)(d:Nat)(v:SV):Env:=λi=>if i=d then v else ρ i
def j0e(ρ:Env)(d:Option Nat)(s:SV):Env:=match d with
  |some d=>upd ρ d s
  |none=>ρ
def Operand.inB(n:Nat):Operand->Bool
  | .tmp t=>decide (t<n)
  |_=>true
def i0E(w:World)(K:Nat->Nat)(D:DM):Prop:= ∀g cs,B0W g=some cs->Rep w K D (.pointer (some ⟨g,0,none⟩)) (.ep cs)
structure Slots (n:Nat) (w:World) (K:Nat->Nat) (D:DM) (ρ:Env) (tm:Array Value):Prop where
  size:tm.size=n
  rep: ∀i,i<n->Rep w K D (tm.getD i undef) (ρ i)
  glob:i0E w K D
theorem Slots.mono {n:Nat} {w w':World} {K K':Nat->Nat} {D D':DM} {ρ:Env} {tm:Array Value} (h:Slots n w K D ρ tm)(hr: ∀v s,Rep w K D v s->Rep w' K' D' v s):Slots n w' K' D' ρ tm:=
  ⟨h.size,λi hi=>hr _ _ (h.rep i hi),λg cs hg=>hr _ _ (h.glob g cs hg)⟩
theorem Slots.put {n:Nat} {w:World} {K:Nat->Nat} {D:DM} {ρ:Env} {a:Act} (h:Slots n w K D ρ a.tmps)(d:Option Nat) {r:Value} {s:SV} (hr:Rep w K D r s):Slots n w K D (j0e ρ d s) (a.put d r).tmps:=by
  cases d with
  |none=>exact h
  |some d=>
    refine⟨by simpa [Act.put]using h.size,λi hi=> ?_,h.glob⟩
    simp only[j0e,upd,Act.put]
    by_cases hd:i=d
    subst hd
    have:i<a.tmps.size:=by rw[h.size];exact hi
    simpa [Array.getD,this]using hr
    rw[if_neg hd]
    have:=h.rep i hi
    simpa [aT,Ne.symm hd]using this
theorem i0q {w:World} {K:Nat->Nat} {D:DM} {v:Value} {s:SV} (h:j0O v=some s):Rep w K D v s:=by
  unfold j0O at h
  split at h<;>cases h
  exact .bool _
  exact .int _ _
  exact .str _
  exact .nl _
  exact .nilp
theorem a0e {n:Nat} {w:World} {K:Nat->Nat} {D:DM} {ρ:Env} {a:Act} (h:Slots n w K D ρ a.tmps) {x:Operand} (hx:Operand.inB n x=true) {s:SV}
    (hv:a0F ρ x=some s):Rep w K D (a.eval x) s:=by
  cases x with
  |tmp t=>
    cases hv
    exact h.rep t (by simpa [Operand.inB]using hx)
  |const v=>
    cases hc:j0O v with
    |none=>simp only[a0F,hc,Option.getD_none,ag]at hv;subst hv;exact .undef _
    |some c=>simp only[a0F,hc,ba,ag]at hv;subst hv;exact i0q hc
  |global g=>
    cases hg:B0W g with
    |none=>simp only[a0F,hg,Option.map_none]at hv;cases hv
    |some cs=>
      simp only[a0F,hg,aP,ag]at hv
      subst hv
      exact h.glob g cs hg
  |func f=>
    cases hv
    exact .fn _ [] [] [] [] rfl rfl (λj v c e=>by simp at e) (λj v c e=>by simp at e)
def b0j(P:Program)(t:TypeId)(cs:List SV):Option SV:=
  match P.underlying t with
  |some (.struct _)=>if P.cellsOf t<=cs.length then some (.agg (cs.take (P.cellsOf t)))else none
  |some (.array _ _)=>if P.cellsOf t<=cs.length then some (.agg (cs.take (P.cellsOf t)))else none
  |some _=>match cs with
    |c::_=>some c
    | []=>none
  |none=>none
def C0D(op:UnOp)(a:SV):Option SV:=
  match op,a with
  | .neg, .int k n=>some (.int k (k.wrap (0-n)))
  | .xor, .int k n=>some (.int k (bits .xor k (if k.signed then-1 else k.max) n))
  | .not, .bool b=>some (.bool !b)
  |_,_=>none
def n0R(P:Program)(dst:TypeId)(a:SV):Option SV:=
  match P.underlying dst,a with
  |some (.int k), .int _ n=>some (.int k (k.wrap n))
  |_,_=>none
def C0H(P:Program)(t:TypeId)(s:SV):Option SV:=
  match P.underlying t,s with
  |some (.slice _), .lst n _ _=>some (.int .i64 n)
  |some (.slice _), .nl=>some (.int .i64 0)
  |some (.slice _), .sl _ _ n _=>some (.int .i64 n)
  |some .string, .str s=>some (.int .i64 s.length)
  |some (.array n _),_=>some (.int .i64 n)
  |_,_=>none
def g0j(ρ:Env)(lo:Option Operand)(d:Int):Option Int:=
  match lo with
  |none=>some d
  |some l=>match a0F ρ l with
    |some (.int _ n)=>some n
    |_=>none
def C0m(n k:Nat)(cs:List SV)(i:Int):Option SV:=if 0<k/\0<=i/\i<n then some (.ep ((cs.drop (i.toNat*k)).take k))else none
def u0Y(n k:Nat)(cs:List SV)(l h:Int):Option SV:=if 0<k/\0<=l/\l<=h/\h<=n then some (.lst (h.toNat-l.toNat) k ((cs.take (h.toNat*k)).drop (l.toNat*k)))else none
def z0I(ρ:Env)(big:Bool):List Operand->Option SV
  | [x]=>match a0F ρ x with
    |some (.int k a)=>some (.int k a)
    |_=>none
  |x::r=>match a0F ρ x,z0I ρ big r with
    |some (.int k a),some (.int k' b)=>if k=k' then some (.int k (if big then max a b else min a b))else none
    |_,_=>none
  | []=>none
def s0w(P:Program)(c:Call)(ρ:Env):Option SV:=
  match c.callee with
  | .builtin .len=>match c.args.toList,c.argTypes.toList with
    | [x],[t]=>(a0F ρ x).bind (C0H P t)
    |_,_=>none
  |_=>none
def SV.cells?:SV->Option (List SV)
  | .undef=>none
  | .agg cs=>some cs
  | .tup _=>none
  | .ep _=>none
  |s=>some [s]
def u0A(v:Value):Option SV:=match j0O v with
  |some s=>some s
  |none=>if v.oneCell'=true then some .undef else none
def m0t(v:Value):Option (List SV):=v.cells.toList.mapM u0A
def m0I(P:Program)(t:TypeId):Option (List SV):=
  match P.info? t with
  |some i=>match i.zero with
    |some z=>match m0t z with
      |some cs=>if cs.length=i.size then some cs else none
      |none=>none
    |none=>none
  |none=>none
def splice(cs:List SV)(off:Nat)(ps:List SV):List SV:=cs.take off++(ps++cs.drop (off+ps.length))
def l0E(ρ:Env)(place:Nat->Option (Nat×Nat))(cs:List SV):List (Nat×Operand)->Option (List SV)
  | []=>some cs
  |(i,x)::rest=>match place i,(a0F ρ x).bind SV.cells? with
    |some (off,size),some ps=>if ps.length=size/\off+ps.length<=cs.length then l0E ρ place (splice cs off ps) rest else none
    |_,_=>none
def s0U(P:Program)(t:TypeId):Option (List (Nat×Nat)):=
  match P.underlying t with
  |some (.struct fs)=>fs.toList.mapM λf=>(P.info? f.type).map λi=>(f.offset,i.size)
  |_=>none
def r0c(P:Program)(t:TypeId):Option Nat:=
  match P.underlying t with
  |some (.array _ e)=>(P.info? e).map λi=>i.size
  |_=>none
def a0g(P:Program)(o:Oper)(ρ:Env):Option SV:=
  match o.op with
  | .move x=>a0F ρ x
  | .assign x=>a0F ρ x
  | .pick c a b=>match a0F ρ c with
    |some (.bool true)=>a0F ρ a
    |some (.bool false)=>a0F ρ b
    |_=>none
  | .binOp op t x y _=>match a0F ρ x,a0F ρ y with
    |some a,some b=>h0l (p0t P t) op a b
    |_,_=>none
  | .unOp op _ x=>match a0F ρ x with
    |some a=>C0D op a
    |none=>none
  | .convert src dst x=>match P.underlying src,a0F ρ x with
    |some _,some a=>n0R P dst a
    |_,_=>none
  | .extract t i=>match a0F ρ t with
    |some (.tup vs)=>vs[i]?
    |_=>none
  | .nilCheck x=>match a0F ρ x with
    |some (.ptr i off)=>some (.ptr i off)
    |some (.ep cs)=>some (.ep cs)
    |some (.fn (.func f) a b)=>some (.fn (.func f) a b)
    |_=>none
  | .indexAddr t x i=>match P.underlying t,a0F ρ x,a0F ρ i with
    |some (.slice e),some (.lst n k cs),some (.int _ j)=>if k=P.cellsOf e then C0m n k cs j else none
    |some (.slice e),some (.sl b off n k),some (.int _ j)=>if k=P.cellsOf e/\0<k/\0<=j/\j<n then some (.ptr b (off+j.toNat*k))else none
    |some (.array len e),some (.ep cs),some (.int _ n)=>if 0<=n/\n<len/\(n.toNat+1)*P.cellsOf e<=cs.length/\0<P.cellsOf e then some (.ep ((cs.drop (n.toNat*P.cellsOf e)).take (P.cellsOf e)))else none
    |some (.array len e),some (.ptr b off),some (.int _ n)=>if 0<=n/\n<len/\0<P.cellsOf e then some (.ptr b (off+n.toNat*P.cellsOf e))else none
    |_,_,_=>none
  | .fieldAddr s x f=>match P.underlying s with
    |some (.struct fs)=>match fs[f]?,a0F ρ x with
      |some fd,some (.ep cs)=>if 0<P.cellsOf fd.type/\fd.offset<=cs.length then some (.ep (cs.drop fd.offset))else none
      |some fd,some (.ptr b off)=>if 0<P.cellsOf fd.type then some (.ptr b (off+fd.offset))else none
      |_,_=>none
    |_=>none
  | .field t x f=>match P.underlying t with
    |some (.struct fs)=>match fs[f]?,a0F ρ x with
      |some fd,some (.agg cs)=>b0j P fd.type (cs.drop fd.offset)
      |_,_=>none
    |_=>none
  | .load t x=>match a0F ρ x with
    |some (.ep cs)=>b0j P t cs
    |_=>none
  | .slice t x lo hi mx=>match P.underlying t,a0F ρ x,mx with
    |some (.slice e),some (.lst n k cs),none=>
      match g0j ρ lo 0,g0j ρ hi (n:Int)with
      |some l,some h=>if k=P.cellsOf e then u0Y n k cs l h else none
      |_,_=>none
    |some .string,some (.str s),none=>
      match g0j ρ lo 0,g0j ρ hi (s.length:Int)with
      |some l,some h=>if 0<=l/\l<=h/\h.toNat<=s.length then some (.str ((s.take h.toNat).drop l.toNat))else none
      |_,_=>none
    |_,_,_=>none
  | .index t x i=>match P.underlying t,a0F ρ x,a0F ρ i with
    |some .string,some (.str s),some (.int _ n)=>if 0<=n then(match s[n.toNat]? with|some b=>some (.int .u8 b.toNat)|none=>none)else none
    |some (.array len e),some (.agg cs),some (.int _ n)=>if 0<=n/\n<len then b0j P e (cs.drop (n.toNat*P.cellsOf e))else none
    |_,_,_=>none
  | .call c=>s0w P c ρ
  | .makeFunc fn first captured=>match first.toList.mapM (a0F ρ),captured.toList.mapM (a0F ρ)with
    |some a,some b=>some (.fn fn a b)
    |_,_=>none
  | .build t parts=>match m0I P t,s0U P t,r0c P t with
    |some zs,some pl,_=>(l0E ρ (λi=>pl[i]?) zs parts.toList).map .agg
    |some zs,none,some k=>(l0E ρ (λi=>some (i*k,k)) zs parts.toList).map .agg
    |_,_,_=>none
  |_=>none
section
variable {P : Program} {n : Nat} {w : World} {K : Nat -> Nat} {D : DM} {ρ : Env} {a : Act} {o : Oper}
def f0y(P:Program)(w:World)(K:Nat->Nat)(D:DM)(o:Oper)(a:Act)(s:SV):Prop:=
  ∃r,(execOp a.eval o).run P w= .ok (.value r) w/\Rep w K D r s
theorem b0d {s:Sem Value} {r:Value} {w w':World} (h:s.run P w= .ok r w'):(do pure (Next.value (<-s)):Sem Next).run P w= .ok (.value r) w':=by
  simp[h]
theorem add_lit(b off n:Nat):(⟨b,off,none⟩:Addr).add n=⟨b,off+n,none⟩:=by
  unfold Addr.add;split<;>simp_all
structure RowAt (w:World) (K:Nat->Nat) (D:DM) (b off:Nat) (vs:List Value) (cs:List SV):Prop where
  len:cs.length=vs.length
  mem: ∀j v,vs[j]?=some v->w.cell? ⟨b,off+j,none⟩=some v
  one: ∀v∈vs,v.oneCell'=true
  rep: ∀(j:Nat) (v:Value) (c:SV),vs[j]?=some v->cs[j]?=some c->Rep w K D v c
theorem RowAt.drop {b off:Nat} {vs:List Value} {cs:List SV} (h:RowAt w K D b off vs cs)(n:Nat):RowAt w K D b (off+n) (vs.drop n) (cs.drop n):=
  ⟨by simp[h.len],λj v hj=>by rw[Nat.add_assoc];exact h.mem (n+j) v (by simpa using hj),λc hc=>h.one c (bV hc),λj v c hv hc=>h.rep (n+j) v c (by simpa using hv) (by simpa using hc)⟩
theorem RowAt.take {b off:Nat} {vs:List Value} {cs:List SV} (h:RowAt w K D b off vs cs)(n:Nat):RowAt w K D b off (vs.take n) (cs.take n):=
  ⟨by simp[h.len],λj v hj=>h.mem j v (by rw[aM]at hj;split at hj<;>first|exact hj|cases hj),λc hc=>h.one c (bG hc),λj v c hv hc=>
    h.rep j v c (by rw[aM]at hv;split at hv<;>first|exact hv|cases hv) (by rw[aM]at hc;split at hc<;>first|exact hc|cases hc)⟩
theorem i0c {cs:List SV} (h:b0f cs=true)(n:Nat):b0f (cs.drop n)=true:=
  List.all_eq_true.2 λc hc=>List.all_eq_true.1 h c (bV hc)
theorem g0Q {cs:List SV} (h:b0f cs=true)(n:Nat):b0f (cs.take n)=true:=
  List.all_eq_true.2 λc hc=>List.all_eq_true.1 h c (bG hc)
theorem i0s {t:TypeId} {b off:Nat} {vs:List Value} {cs:List SV} {s:SV} (h:RowAt w K D b off vs cs)(hv:b0j P t cs=some s):
    ∃r,(loadVar t ⟨b,off,none⟩).run P w= .ok r w/\Rep w K D r s:=by
  have hagg:(if P.cellsOf t<=cs.length then some (SV.agg (cs.take (P.cellsOf t)))else none)=some s->(isAgg t).run P w= .ok true w->P.underlying t≠none->
      ∃r,(loadVar t ⟨b,off,none⟩).run P w= .ok r w/\Rep w K D r s:=by
    intro h1 h2 h3
    split at h1<;>cases h1
    rename_i hle
    obtain⟨i,hi⟩: ∃i,P.info? t=some i:=by
      cases hi:P.info? t with
      |none=>exact absurd (by simp[Program.underlying,hi]) h3
      |some i=>exact⟨i,rfl⟩
    have hsz:P.cellsOf t=i.size:=by simp[Program.cellsOf,hi]
    have ht:=h.take (P.cellsOf t)
    refine⟨.agg (vs.take (P.cellsOf t)).toArray, ?_, .agg _ _ (by simp[h.len]) ht.one ht.rep⟩
    have hl:(vs.take (P.cellsOf t)).length=P.cellsOf t:=by simp;rw[<-h.len];omega
    have:=run_loadCells_list (P:=P) (w:=w) ⟨b,off,none⟩ (vs.take (P.cellsOf t)) (λj v hj=>by rw[add_lit];exact ht.mem j v hj)
    rw[hl]at this
    simp[loadVar,h2,sizeOf,typeInfo,hi,<-hsz,this]
  unfold b0j at hv
  split at hv
  rename_i fs hu
  exact hagg hv (by simp[isAgg,run_underlying hu]) (by simp[hu])
  rename_i n e hu
  exact hagg hv (by simp[isAgg,run_underlying hu]) (by simp[hu])
  · rename_i d hns hna hu
    split at hv<;>cases hv
    rename_i cs'
    cases vs with
    |nil=>have:=h.len;simp at this
    |cons v vs'=>
      refine⟨v, ?_,h.rep 0 v s rfl rfl⟩
      have hm:=h.mem 0 v rfl
      simp only[Nat.add_zero]at hm
      have hia:(isAgg t).run P w= .ok false w:=by
        simp only[isAgg,Sem.run_bind,run_underlying hu,Result.andThen_ok]
        cases d<;>first|rfl|exact(hns _ rfl).elim|exact(hna _ _ rfl).elim
      simp[loadVar,hia,run_load,hm]
  cases hv
theorem a0J {s:Sem Value} {r:Value} {c:SV} (he:execOp a.eval o=(do pure (Next.value (<-s))))(hr:s.run P w= .ok r w)(h:Rep w K D r c):f0y P w K D o a c:=
  ⟨r,by rw[he];exact b0d hr,h⟩
theorem q0n {s:Sem Value} {c:SV} (he:execOp a.eval o=(do pure (Next.value (<-s))))(h:PureV P w K D s c):f0y P w K D o a c:=
  let⟨_,hr,hrep⟩:=h;a0J he hr hrep
theorem m0a {v:Value} {cs:List SV} (h:Rep w K D v (.ep cs)): ∃b off vs,v= .pointer (some ⟨b,off,none⟩)/\RowAt w K D b off vs cs/\off+vs.length<=K b/\b0f cs=true:=by
  cases h with
  |ep b off vs _ hc hm hK h1 hp h=>exact⟨b,off,vs,rfl,⟨hc,hm,h1,h⟩,hK,hp⟩
theorem RowAt.ep {b off:Nat} {vs:List Value} {cs:List SV} (h:RowAt w K D b off vs cs)(hK:off+vs.length<=K b)(hp:b0f cs=true):Rep w K D (.pointer (some ⟨b,off,none⟩)) (.ep cs):=
  .ep b off vs cs h.len h.mem hK h.one hp h.rep
theorem i0b {v:Value} {n k:Nat} {cs:List SV} (h:Rep w K D v (.lst n k cs)):
    (∃a cap,v= .slice a 0 cap/\cs=[]/\n=0)\/ ∃b off cap vs,v= .slice (some ⟨b,off,none⟩) n cap/\RowAt w K D b off vs cs/\off+vs.length<=K b/\0<k/\vs.length=n*k/\n<=cap/\b0f cs=true:=by
  cases h with
  |emp _ a cap=>exact .inl ⟨a,cap,rfl,rfl,rfl⟩
  |lst _ b off len cap vs _ hk hl hc hcap hm hK h1 hp h=>exact .inr ⟨b,off,cap,vs,rfl,⟨hc,hm,h1,h⟩,hK,hk,hl,hcap,hp⟩
theorem RowAt.lst {b off len cap k:Nat} {vs:List Value} {cs:List SV} (h:RowAt w K D b off vs cs)(hK:off+vs.length<=K b)(hk:0<k)(hl:vs.length=len*k)(hcap:len<=cap)(hp:b0f cs=true):
    Rep w K D (.slice (some ⟨b,off,none⟩) len cap) (.lst len k cs):=
  .lst k b off len cap vs cs hk hl h.len hcap h.mem hK h.one hp h.rep
theorem m0F {t:TypeId} (h:0<P.cellsOf t): ∃i,P.info? t=some i/\i.size=P.cellsOf t:=by
  cases hi:P.info? t with
  |none=>simp[Program.cellsOf,hi]at h
  |some i=>exact⟨i,rfl,by simp[Program.cellsOf,hi]⟩
theorem c0g {t:TypeId} (h:0<P.cellsOf t):(sizeOf t).run P w= .ok (P.cellsOf t) w:=by
  obtain⟨i,hi,hs⟩:=m0F h
  simp[sizeOf,typeInfo,hi,hs]
theorem RowAt.part {b off n k:Nat} {vs:List Value} {cs:List SV} (h:RowAt w K D b off vs cs)(hK:off+vs.length<=K b)(hp:b0f cs=true)(hle:n+k<=cs.length):
    Rep w K D (.pointer (some ⟨b,off+n,none⟩)) (.ep ((cs.drop n).take k)):=
  ((h.drop n).take k).ep (by
    have:=h.len
    simp only[aJ,bc]
    omega) (g0Q (i0c hp n) k)
theorem q0S(h:Slots n w K D ρ a.tmps) {t:TypeId} {x i:Operand} (ho:o.op= .indexAddr t x i)(hx:Operand.inB n x=true)(hi:Operand.inB n i=true) {s:SV}
    (hs:a0g P o ρ=some s):f0y P w K D o a s:=by
  have he:execOp a.eval o=(do pure (Next.value (<-Instr.indexAt t (a.eval x) (a.eval i)))):=by unfold execOp;rw[ho]
  simp only[a0g,ho]at hs
  split at hs
  · rename_i e q k cs kk j hu hxe hie
    split at hs<;>try cases hs
    rename_i hk
    unfold C0m at hs
    split at hs<;>cases hs
    rename_i hc
    obtain⟨hk1,hn,hlt⟩:=hc
    have hrx:=a0e h hx hxe
    have hri:=a0e h hi hie
    generalize hvi:a.eval i=vi at hri
    cases hri
    rcases i0b hrx with⟨ea,ecap,hv,hcs,hn0⟩|⟨b,off,cap,vs,hv,hrow,hK,hk0,hl,hcap,hp⟩
    omega
    have hle:j.toNat*k+k<=cs.length:=by
      rw[hrow.len,hl,<-bp]
      exact aQ _ (by omega)
    subst hk
    refine a0J he (r:= .pointer (some ⟨b,off+j.toNat*P.cellsOf e,none⟩)) ?_ (hrow.part hK hp hle)
    rw[hv,hvi]
    simp[Instr.indexAt,asIntOf,run_underlying hu,c0g hk0,hn,hlt,add_lit]
  · rename_i e bi off m k kk j hu hxe hie
    split at hs<;>cases hs
    rename_i hc
    obtain⟨hk,hk0,hn,hlt⟩:=hc
    have hrx:=a0e h hx hxe
    have hri:=a0e h hi hie
    generalize hvi:a.eval i=vi at hri
    cases hri
    generalize hvx:a.eval x=vx at hrx
    subst hk
    cases hrx with
    |sl _ _ _ _ b c m' cap hd hcap=>
      refine a0J he (r:= .pointer (some ⟨b,off+j.toNat*P.cellsOf e,none⟩)) ?_ (.ptr _ _ _ _ _ hd)
      rw[hvx,hvi]
      simp[Instr.indexAt,asIntOf,run_underlying hu,c0g hk0,hn,hlt,add_lit]
  · rename_i len e cs kk j hu hxe hie
    split at hs<;>cases hs
    rename_i hc
    obtain⟨hn,hlen,hle,hk0⟩:=hc
    have hrx:=a0e h hx hxe
    have hri:=a0e h hi hie
    generalize hvi:a.eval i=vi at hri
    cases hri
    rw[bp]at hle
    obtain⟨b,off,vs,hv,hrow,hK,hp⟩:=m0a hrx
    refine a0J he (r:= .pointer (some ⟨b,off+j.toNat*P.cellsOf e,none⟩)) ?_ (hrow.part hK hp hle)
    rw[hv,hvi]
    simp[Instr.indexAt,Instr.sureAddr,asIntOf,run_underlying hu,c0g hk0,hn,hlen,add_lit]
  · rename_i len e bx off kk j hu hxe hie
    split at hs<;>cases hs
    rename_i hc
    obtain⟨hn,hlen,hk0⟩:=hc
    have hrx:=a0e h hx hxe
    have hri:=a0e h hi hie
    generalize hvi:a.eval i=vi at hri
    cases hri
    generalize hvx:a.eval x=vx at hrx
    cases hrx with
    |ptr _ _ b c m hb=>
      refine a0J he (r:= .pointer (some ⟨b,off+j.toNat*P.cellsOf e,none⟩)) ?_ (.ptr _ _ _ _ _ hb)
      rw[hvx,hvi]
      simp[Instr.indexAt,Instr.sureAddr,asIntOf,run_underlying hu,c0g hk0,hn,hlen,add_lit]
  cases hs
theorem q0Z(h:Slots n w K D ρ a.tmps) {t:TypeId} {x:Operand} {f:Nat} (ho:o.op= .fieldAddr t x f)(hx:Operand.inB n x=true) {s:SV}
    (hs:a0g P o ρ=some s):f0y P w K D o a s:=by
  have he:execOp a.eval o=(do pure (Next.value (<-Instr.fieldAt t (a.eval x) f))):=by unfold execOp;rw[ho]
  simp only[a0g,ho]at hs
  split at hs
  · rename_i fs hu
    split at hs
    · rename_i fd cs hf hxe
      split at hs<;>cases hs
      rename_i hc
      obtain⟨hk0,hle⟩:=hc
      obtain⟨b,off,vs,hv,hrow,hK,hp⟩:=m0a (a0e h hx hxe)
      have hne:P.cellsOf fd.type≠0:=by omega
      refine a0J he (r:= .pointer (some ⟨b,off+fd.offset,none⟩)) ?_ ((hrow.drop fd.offset).ep (by have:=hrow.len;simp only[bc];omega) (i0c hp _))
      rw[hv]
      simp[Instr.fieldAt,Instr.sureAddr,run_underlying hu,hf,fieldPlace,c0g hk0,hne,add_lit]
    · rename_i fd bx off hf hxe
      split at hs<;>cases hs
      rename_i hk0
      have hrx:=a0e h hx hxe
      generalize hvx:a.eval x=vx at hrx
      have hne:P.cellsOf fd.type≠0:=by omega
      cases hrx with
      |ptr _ _ b c m hb=>
        refine a0J he (r:= .pointer (some ⟨b,off+fd.offset,none⟩)) ?_ (.ptr _ _ _ _ _ hb)
        rw[hvx]
        simp[Instr.fieldAt,Instr.sureAddr,run_underlying hu,hf,fieldPlace,c0g hk0,hne,add_lit]
    cases hs
  cases hs
theorem z0L(h:Slots n w K D ρ a.tmps) {t:TypeId} {x:Operand} (ho:o.op= .load t x)(hx:Operand.inB n x=true) {s:SV}
    (hs:a0g P o ρ=some s):f0y P w K D o a s:=by
  have he:execOp a.eval o=(do pure (Next.value (<-Instr.loadAt t (a.eval x)))):=by unfold execOp;rw[ho]
  simp only[a0g,ho]at hs
  split at hs
  rename_i cs hxe
  obtain⟨b,off,vs,hv,hrow,hK,hp⟩:=m0a (a0e h hx hxe)
  obtain⟨r,hr,hrep⟩:=i0s (P:=P) hrow hs
  exact a0J he (by rw[hv];simp[Instr.loadAt,Instr.sureAddr,hr]) hrep
  cases hs
theorem u0h(h:Slots n w K D ρ a.tmps) {x:Operand} {i:Nat} (ho:o.op= .extract x i)(hx:Operand.inB n x=true) {s:SV}
    (hs:a0g P o ρ=some s):f0y P w K D o a s:=by
  have he:execOp a.eval o=(do pure (Next.value (<-Instr.extract (a.eval x) i))):=by unfold execOp;rw[ho]
  simp only[a0g,ho]at hs
  split at hs
  rename_i vs hxe
  have hrx:=a0e h hx hxe
  generalize hvx:a.eval x=vx at hrx
  cases hrx with
  |tup ws _ hl hrep=>
    have hi:i<ws.length:=by rw[<-hl];exact(ab.1 hs).1
    have hg:ws[i]?=some ws[i]:=ac hi
    exact a0J he (r:=ws[i]) (by rw[hvx];simp[Instr.extract,hg]) (hrep i _ s hg hs)
  cases hs
theorem d0k {t:TypeId} {off:Nat} {vs:List Value} {cs:List SV} {s:SV} (hl:cs.length=vs.length)(h1: ∀v∈vs,v.oneCell'=true)
    (h: ∀(j:Nat) (v:Value) (c:SV),vs[j]?=some v->cs[j]?=some c->Rep w K D v c) (hv:b0j P t (cs.drop off)=some s):
    ∃r,(part t vs.toArray off).run P w= .ok r w/\Rep w K D r s:=by
  have hagg:(if P.cellsOf t<=(cs.drop off).length then some (SV.agg ((cs.drop off).take (P.cellsOf t)))else none)=some s->(isAgg t).run P w= .ok true w->P.underlying t≠none->
      ∃r,(part t vs.toArray off).run P w= .ok r w/\Rep w K D r s:=by
    intro h1' h2 h3
    split at h1'<;>cases h1'
    rename_i hle
    obtain⟨i,hi⟩: ∃i,P.info? t=some i:=by
      cases hi:P.info? t with
      |none=>exact absurd (by simp[Program.underlying,hi]) h3
      |some i=>exact⟨i,rfl⟩
    have hsz:P.cellsOf t=i.size:=by simp[Program.cellsOf,hi]
    refine⟨.agg ((vs.drop off).take (P.cellsOf t)).toArray, ?_, .agg _ _ (by simp[hl]) (λc hc=>h1 c (bV (bG hc))) (λj v c hv hc=> ?_)⟩
    simp only[part,Sem.run_bind,h2,Result.andThen_ok,if_true,sizeOf,typeInfo,run_program,hi,Sem.run_pure,<-hsz]
    congr 2
    apply Array.ext'
    simp[ca]
    rw[aM]at hv hc
    by_cases hj:j<P.cellsOf t
    rw[if_pos hj]at hv hc
    exact h (off+j) v c (by simpa using hv) (by simpa using hc)
    rw[if_neg hj]at hv;cases hv
  unfold b0j at hv
  split at hv
  rename_i fs hu
  exact hagg hv (by simp[isAgg,run_underlying hu]) (by simp[hu])
  rename_i n e hu
  exact hagg hv (by simp[isAgg,run_underlying hu]) (by simp[hu])
  · rename_i d hns hna hu
    split at hv<;>cases hv
    rename_i cs' hcs
    have hc:cs[off]?=some s:=by
      have:(cs.drop off)[0]?=some s:=by rw[hcs];rfl
      simpa using this
    have hi:off<vs.length:=by rw[<-hl];exact(ab.1 hc).1
    have hg:vs[off]?=some vs[off]:=ac hi
    refine⟨vs[off], ?_,h off _ s hg hc⟩
    have hia:(isAgg t).run P w= .ok false w:=by
      simp only[isAgg,Sem.run_bind,run_underlying hu,Result.andThen_ok]
      cases d<;>first|rfl|exact(hns _ rfl).elim|exact(hna _ _ rfl).elim
    simp[part,hia,hg]
  cases hv
theorem y0c(h:Slots n w K D ρ a.tmps) {t:TypeId} {x:Operand} {f:Nat} (ho:o.op= .field t x f)(hx:Operand.inB n x=true) {s:SV}
    (hs:a0g P o ρ=some s):f0y P w K D o a s:=by
  have he:execOp a.eval o=(do pure (Next.value (<-Instr.field t (a.eval x) f))):=by unfold execOp;rw[ho]
  simp only[a0g,ho]at hs
  split at hs
  rename_i fs hu
  split at hs
  rename_i fd cs hf hxe
  have hrx:=a0e h hx hxe
  generalize hvx:a.eval x=vx at hrx
  cases hrx with
  |agg vs _ hl h1 hrep=>
    obtain⟨r,hr,hrep⟩:=d0k (P:=P) hl h1 hrep hs
    exact a0J he (by rw[hvx];simp[Instr.field,run_underlying hu,hf,asAgg,hr]) hrep
  cases hs
  cases hs
theorem x0Y(h:Slots n w K D ρ a.tmps) {t:TypeId} {x i:Operand} (ho:o.op= .index t x i)(hx:Operand.inB n x=true)(hi:Operand.inB n i=true) {s:SV}
    (hs:a0g P o ρ=some s):f0y P w K D o a s:=by
  have he:execOp a.eval o=(do pure (Next.value (<-Instr.index t (a.eval x) (a.eval i)))):=by unfold execOp;rw[ho]
  simp only[a0g,ho]at hs
  split at hs
  · rename_i l k m hu hxe hie
    have hrx:=a0e h hx hxe
    have hri:=a0e h hi hie
    generalize hvi:a.eval i=vi at hri
    cases hri
    generalize hvx:a.eval x=vx at hrx
    cases hrx with
    |str sb=>
      split at hs
      · rename_i hn
        split at hs<;>cases hs
        rename_i b hb
        refine a0J he (r:= .int .u8 b.toNat) ?_ (.int _ _)
        rw[hvx,hvi]
        have hb':sb[m.toNat]?=some b:=by
          have hb2:sb.data[m.toNat]?=some b:=by simpa using hb
          obtain⟨h1,h2⟩:=ah.1 hb2
          rw[getElem?_pos sb m.toNat h1]
          exact congrArg some h2
        simp[Instr.index,asIntOf,run_underlying hu,hn,hb']
      cases hs
  rename_i len e cs k m hu hxe hie
  split at hs
  rename_i hc
  obtain⟨hn,hlen⟩:=hc
  have hrx:=a0e h hx hxe
  have hri:=a0e h hi hie
  generalize hvi:a.eval i=vi at hri
  cases hri
  generalize hvx:a.eval x=vx at hrx
  cases hrx with
  |agg vs _ hl h1 hrep=>
    obtain⟨r,hr,hrep'⟩:=d0k (P:=P) hl h1 hrep hs
    have hsz:(sizeOf e).run P w= .ok (P.cellsOf e) w:=by
      cases hi:P.info? e with
      |none=>
        have:P.underlying e=none:=by simp[Program.underlying,hi]
        simp[b0j,this]at hs
      |some i=>simp[sizeOf,typeInfo,hi,Program.cellsOf]
    exact a0J he (by rw[hvx,hvi];simp[Instr.index,asIntOf,run_underlying hu,hn,hlen,hsz,hr]) hrep'
  cases hs
  cases hs
theorem B0l(h:Slots n w K D ρ a.tmps) {c:Call} (ho:o.op= .call c)(hx: ∀x∈c.args,Operand.inB n x=true) {s:SV}
    (hs:a0g P o ρ=some s):f0y P w K D o a s:=by
  simp only[a0g,ho,s0w]at hs
  split at hs
  · rename_i hcal
    split at hs
    · rename_i x t hargs htys
      have ha:c.args= #[x]:=by rw[<-be];exact hargs
      have ht:c.argTypes= #[t]:=by rw[<-be];exact htys
      have hrun: ∀r,(Builtin.len_ #[t] o.type #[a.eval x]).run P w= .ok r w->(execOp a.eval o).run P w= .ok (.value r) w:=λr hr=>by
        unfold execOp
        simp only[ho,resolve,hcal,ha,ht,invoke,builtin,Sem.run_bind,Sem.run_pure,Result.andThen_ok,bI,aj,aF,hr]
      have hxb:=hx x (by rw[ha];simp)
      cases hxe:a0F ρ x with
      |none=>rw[hxe]at hs;cases hs
      |some s0=>
        rw[hxe]at hs
        simp only[aq,C0H]at hs
        have hrx:=a0e h hxb hxe
        split at hs
        rename_i e m k cs hu
        cases hs
        have hv: ∃ad cap,a.eval x= .slice ad m cap:=by
          rcases i0b hrx with⟨ea,ecap,hv,hcs,hn0⟩|⟨b,off,cap,vs,hv,_⟩
          exact⟨_,_,by rw[hv,hn0]⟩
          exact⟨_,_,hv⟩
        obtain⟨ad,cap,hv⟩:=hv
        exact⟨.int .i64 m,hrun _ (by rw[hv];simp[Builtin.len_,run_underlying hu,goInt]), .int _ _⟩
        rename_i e hu
        cases hs
        generalize hvx:a.eval x=vx at hrx
        cases hrx
        exact⟨.int .i64 0,hrun _ (by rw[hvx];simp[Builtin.len_,run_underlying hu,goInt]), .int _ _⟩
        rename_i e i off m k hu
        cases hs
        generalize hvx:a.eval x=vx at hrx
        cases hrx
        exact⟨.int .i64 m,hrun _ (by rw[hvx];simp[Builtin.len_,run_underlying hu,goInt]), .int _ _⟩
        rename_i l hu
        cases hs
        generalize hvx:a.eval x=vx at hrx
        cases hrx with
        |str sb=>exact⟨.int .i64 sb.size,hrun _ (by rw[hvx];simp[Builtin.len_,run_underlying hu,goInt]),by simpa using Rep.int .i64 sb.size⟩
        · rename_i m e hu
          cases hs
          refine⟨.int .i64 m,hrun _ ?_, .int _ _⟩
          cases a.eval x<;>simp[Builtin.len_,run_underlying hu,goInt]
        cases hs
    cases hs
  cases hs
end
end
section
variable [Inhabited GT]
section
variable {P : Program} {n : Nat} {w : World} {K : Nat -> Nat} {D : DM} {ρ : Env} {a : Act} {o : Oper}
theorem u0k(h:Slots n w K D ρ a.tmps) {src dst:TypeId} {x:Operand} (ho:o.op= .convert src dst x)(hx:Operand.inB n x=true) {s:SV}
    (hs:a0g P o ρ=some s):f0y P w K D o a s:=by
  have he:execOp a.eval o=(do pure (Next.value (<-convert src dst (a.eval x)))):=by unfold execOp;rw[ho]
  simp only[a0g,ho]at hs
  split at hs
  rename_i d sv hsrc hxe
  have hrx:=a0e h hx hxe
  unfold n0R at hs
  split at hs
  rename_i k k' n hdst
  cases hs
  generalize hvx:a.eval x=vx at hrx
  cases hrx
  exact a0J he (r:= .int k (k.wrap n)) (by rw[hvx];simp[convert,run_underlying hsrc,run_underlying hdst,Conv.intToInt]) (.int _ _)
  cases hs
  cases hs
theorem z0i(h:Slots n w K D ρ a.tmps) {op:UnOp} {t:TypeId} {x:Operand} (ho:o.op= .unOp op t x)(hx:Operand.inB n x=true) {s:SV}
    (hs:a0g P o ρ=some s):f0y P w K D o a s:=by
  have he:execOp a.eval o=(do pure (Next.value (<-Op.unary op (a.eval x)))):=by unfold execOp;rw[ho]
  simp only[a0g,ho]at hs
  split at hs
  rename_i sv hxe
  have hrx:=a0e h hx hxe
  unfold C0D at hs
  split at hs
  cases hs
  generalize hvx:a.eval x=vx at hrx
  cases hrx
  exact a0J he (by rw[hvx];simp only[Op.unary,Op.intArith];rfl) (.int _ _)
  cases hs
  generalize hvx:a.eval x=vx at hrx
  cases hrx
  exact a0J he (by rw[hvx];simp only[Op.unary,intBits_xor];rfl) (.int _ _)
  cases hs
  generalize hvx:a.eval x=vx at hrx
  cases hrx
  exact a0J he (by rw[hvx];simp only[Op.unary];rfl) (.bool _)
  cases hs
  cases hs
theorem y0n(h:Slots n w K D ρ a.tmps) {op:BinOp} {t u:TypeId} {x y:Operand} (ho:o.op= .binOp op t x y u)(hx:Operand.inB n x=true)(hy:Operand.inB n y=true) {s:SV}
    (hs:a0g P o ρ=some s):f0y P w K D o a s:=by
  have he:execOp a.eval o=(do pure (Next.value (<-(do eqGuard op t x y (a.eval x) (a.eval y);binOp op t (a.eval x) (a.eval y):Sem Value)))):=by unfold execOp;rw[ho]
  simp only[a0g,ho]at hs
  split at hs
  rename_i sa sb hxe hye
  exact q0n he (s0y (a0e h hx hxe) (a0e h hy hye) hs)
  cases hs
theorem v0F(h:Slots n w K D ρ a.tmps) {x:Operand} (ho:o.op= .move x\/o.op= .assign x)(hx:Operand.inB n x=true) {s:SV}
    (hs:a0g P o ρ=some s):f0y P w K D o a s:=by
  have he:(execOp a.eval o).run P w= .ok (.value (a.eval x)) w:=by unfold execOp;rcases ho with ho|ho<;>rw[ho]<;>rfl
  have hs':a0F ρ x=some s:=by rcases ho with ho|ho<;>simpa only[a0g,ho]using hs
  exact⟨_,he,a0e h hx hs'⟩
theorem z0C(h:Slots n w K D ρ a.tmps) {c x y:Operand} (ho:o.op= .pick c x y)(hc:Operand.inB n c=true)(hx:Operand.inB n x=true)(hy:Operand.inB n y=true) {s:SV}
    (hs:a0g P o ρ=some s):f0y P w K D o a s:=by
  simp only[a0g,ho]at hs
  have he:execOp a.eval o=(do pure (.value (if<-asBool (a.eval c)then a.eval x else a.eval y))):=by unfold execOp;rw[ho]
  split at hs
  rename_i hce
  have hrc:=a0e h hc hce
  generalize hvc:a.eval c=vc at hrc
  cases hrc
  exact⟨_,by rw[he,hvc];simp[asBool],a0e h hx hs⟩
  rename_i hce
  have hrc:=a0e h hc hce
  generalize hvc:a.eval c=vc at hrc
  cases hrc
  exact⟨_,by rw[he,hvc];simp[asBool],a0e h hy hs⟩
  cases hs
theorem r0S(h:Slots n w K D ρ a.tmps) {x:Operand} (ho:o.op= .nilCheck x)(hx:Operand.inB n x=true) {s:SV}
    (hs:a0g P o ρ=some s):f0y P w K D o a s:=by
  simp only[a0g,ho]at hs
  have he: ∀r,a.eval x=r->(match r with| .pointer (some _)=>True| .func (.func _) _ _=>True|_=>False)->(execOp a.eval o).run P w= .ok (.value r) w:=by
    intro r hr hm
    unfold execOp
    rw[ho]
    dsimp only
    rw[hr]
    split at hm
    rfl
    rfl
    exact hm.elim
  split at hs
  rename_i i off hxe
  cases hs
  have hrx:=a0e h hx hxe
  generalize hvx:a.eval x=vx at hrx
  cases hrx with
  |ptr _ _ b c m hb=>exact⟨_,he _ hvx trivial, .ptr _ _ _ _ _ hb⟩
  rename_i cs hxe
  cases hs
  have hrx:=a0e h hx hxe
  generalize hvx:a.eval x=vx at hrx
  have hrx':=hrx
  cases hrx with
  |ep=>exact⟨_,he _ hvx trivial,hrx'⟩
  rename_i f p q hxe
  cases hs
  have hrx:=a0e h hx hxe
  generalize hvx:a.eval x=vx at hrx
  have hrx':=hrx
  cases hrx with
  |fn=>exact⟨_,he _ hvx trivial,hrx'⟩
  cases hs
theorem l0I(h:Slots n w K D ρ a.tmps) {lo:Option Operand} {d m:Int} {y:Nat} {code:BoundsCode} (hx: ∀x,lo=some x->Operand.inB n x=true)
    (hl:g0j ρ lo d=some m) (h0:0<=m) (h1:m<=y):
    (lo=none/\m=d)\/ ∃l,lo=some l/\(Instr.sliceBound (a.eval l) y code).run P w= .ok m.toNat w:=by
  cases lo with
  |none=>simp[g0j]at hl;exact .inl ⟨rfl,hl.symm⟩
  |some l=>
    right
    refine⟨l,rfl, ?_⟩
    simp only[g0j]at hl
    split at hl<;>cases hl
    rename_i k hle
    have hr:=a0e h (hx l rfl) hle
    generalize hvl:a.eval l=vl at hr
    cases hr
    simp[Instr.sliceBound,asIntOf,h0,h1]
theorem x0k(h:Slots n w K D ρ a.tmps) {t:TypeId} {x:Operand} {lo hi mx:Option Operand} (ho:o.op= .slice t x lo hi mx)(hx:Operand.inB n x=true)
    (hlo: ∀x,lo=some x->Operand.inB n x=true) (hhi: ∀x,hi=some x->Operand.inB n x=true) {s:SV}
    (hs:a0g P o ρ=some s):f0y P w K D o a s:=by
  have he:execOp a.eval o=(do pure (Next.value (<-Instr.sliceAt t (a.eval x) (lo.map a.eval) (hi.map a.eval) (mx.map a.eval)))):=by unfold execOp;rw[ho]
  simp only[a0g,ho]at hs
  split at hs
  · rename_i e n k cs hu hxe
    split at hs
    · rename_i l hh hle hhe
      split at hs<;>try cases hs
      rename_i hk
      unfold u0Y at hs
      split at hs<;>cases hs
      rename_i hc
      obtain⟨hk0,hl0,hlh,hle'⟩:=hc
      have hrx:=a0e h hx hxe
      have hsz:(sizeOf e).run P w= .ok k w:=by rw[hk];exact c0g (by rw[<-hk];exact hk0)
      have bounds: ∀cap:Nat,n<=cap->(Instr.sliceBounds true n cap (lo.map a.eval) (hi.map a.eval) none).run P w= .ok (l.toNat,hh.toNat,cap) w:=by
        intro cap hlc
        have b1:=l0I (P:=P) (code:= .sliceAcap) h hhi hhe (by omega) (show hh<=(cap:Int) by omega)
        have b2:=l0I (P:=P) (code:= .sliceB) (y:=hh.toNat) h hlo hle hl0 (by omega)
        rcases b1 with⟨rfl,e1⟩|⟨y1,rfl,e1⟩<;>rcases b2 with⟨rfl,e2⟩|⟨y2,rfl,e2⟩
        subst e1;subst e2;simp[Instr.sliceBounds]
        subst e1;simp at e2;simp[Instr.sliceBounds,e2]
        subst e2;simp[Instr.sliceBounds,e1]
        simp[Instr.sliceBounds,e1,e2]
      rcases i0b hrx with⟨ea,ecap,hv,hcs,hn0⟩|⟨b,off,cap,vs,hv,hrow,hK,_,hl,hcap,hp⟩
      · subst hcs;subst hn0
        have hb:=bounds ecap (bg _)
        have h0:hh.toNat=0:=by omega
        have h0':l.toNat=0:=by omega
        refine a0J he (r:= .slice ea 0 ecap) ?_ (by simpa [h0,h0']using Rep.emp k ea ecap)
        rw[hv]
        have hadd:ea.map (λx=>x.add (0*k))=ea:=by cases ea<;>simp[Addr.add]
        have hadd':ea.map (λx=>x.add 0)=ea:=by cases ea<;>simp[Addr.add]
        simp[Instr.sliceAt,Instr.slice,run_underlying hu,hb,hsz,h0,h0',hadd']
      have hb:=bounds cap hcap
      have hlk:l.toNat*k<=hh.toNat*k:=aQ k (by omega)
      have hhk:hh.toNat*k<=n*k:=aQ k (by omega)
      have hrow':=(hrow.take (hh.toNat*k)).drop (l.toNat*k)
      have hvl:((vs.take (hh.toNat*k)).drop (l.toNat*k)).length=(hh.toNat-l.toNat)*k:=by
        simp only[bc,aJ,Nat.sub_mul];omega
      have hcl:(hh.toNat-l.toNat)<=cap-l.toNat:=by omega
      have hp':b0f ((cs.take (hh.toNat*k)).drop (l.toNat*k))=true:=i0c (g0Q hp _) _
      by_cases hml:cap=l.toNat
      have hz:(hh.toNat-l.toNat)=0:=by omega
      have hnil:(cs.take (hh.toNat*k)).drop (l.toNat*k)=[]:=by
        apply ao
        rw[hrow'.len,hvl,hz,Nat.zero_mul]
      refine a0J he (r:= .slice (some ⟨b,off,none⟩) (hh.toNat-l.toNat) (cap-l.toNat)) ?_ ?_
      rw[hv]
      subst hml
      simp[Instr.sliceAt,Instr.slice,run_underlying hu,hb,hsz]
      rw[hnil,hz]
      exact .emp _ _ _
      refine a0J he (r:= .slice (some ⟨b,off+l.toNat*k,none⟩) (hh.toNat-l.toNat) (cap-l.toNat)) ?_ (hrow'.lst (by rw[hvl,Nat.sub_mul];omega) hk0 hvl hcl hp')
      rw[hv]
      simp[Instr.sliceAt,Instr.slice,run_underlying hu,hb,hsz,hml,add_lit]
    cases hs
  · rename_i l0 hu hxe
    split at hs
    · rename_i l hh hle hhe
      split at hs<;>cases hs
      rename_i hc
      obtain⟨hl0,hlh,hle'⟩:=hc
      have hrx:=a0e h hx hxe
      generalize hvx:a.eval x=vx at hrx
      cases hrx with
      |str sb=>
        have hsl:hh.toNat<=sb.size:=by simpa using hle'
        have b1:=l0I (P:=P) (code:= .sliceAlen) h hhi hhe (by omega) (show hh<=(sb.size:Int) by omega)
        have b2:=l0I (P:=P) (code:= .sliceB) (y:=hh.toNat) h hlo hle hl0 (by omega)
        have hb:(Instr.sliceBounds false sb.size sb.size (lo.map a.eval) (hi.map a.eval) none).run P w= .ok (l.toNat,hh.toNat,sb.size) w:=by
          rcases b1 with⟨rfl,e1⟩|⟨y1,rfl,e1⟩<;>rcases b2 with⟨rfl,e2⟩|⟨y2,rfl,e2⟩
          subst e1;subst e2;simp[Instr.sliceBounds]
          subst e1;simp at e2;simp[Instr.sliceBounds,e2]
          subst e2;simp[Instr.sliceBounds,e1]
          simp[Instr.sliceBounds,e1,e2]
        have hex:(sb.extract l.toNat hh.toNat).data.toList=(sb.data.toList.take hh.toNat).drop l.toNat:=by
          simp[ByteArray.data_extract,ca,List.drop_take]
        refine a0J he (r:= .string (sb.extract l.toNat hh.toNat)) ?_ (by rw[<-hex];exact .str _)
        rw[hvx]
        simp[Instr.sliceAt,Instr.slice,run_underlying hu,hb]
    cases hs
  cases hs
theorem r0W(h:Slots n w K D ρ a.tmps) {fn:Fn} {first captured:Array Operand} (ho:o.op= .makeFunc fn first captured)
    (hx: ∀x∈first,Operand.inB n x=true) (hy: ∀x∈captured,Operand.inB n x=true) {s:SV}
    (hs:a0g P o ρ=some s):f0y P w K D o a s:=by
  have he:execOp a.eval o=(do pure (Next.value (<-Instr.makeFunc fn (first.map a.eval) (captured.map a.eval)))):=by unfold execOp;rw[ho]
  simp only[a0g,ho]at hs
  have key: ∀(l:List Operand) (r:List SV),(∀x∈l,Operand.inB n x=true)->l.mapM (a0F ρ)=some r->r.length=(l.map a.eval).length/\
      ∀(j:Nat) (v:Value) (c:SV),(l.map a.eval)[j]?=some v->r[j]?=some c->Rep w K D v c:=by
    intro l
    induction l with
    |nil=>intro r _ hr;simp at hr;subst hr;exact⟨rfl,λj v c e=>by simp at e⟩
    |cons x l ih=>
      intro r hb hr
      simp only[cg]at hr
      cases hx1:a0F ρ x with
      |none=>rw[hx1]at hr;cases hr
      |some s1=>
        rw[hx1]at hr
        cases hr1:l.mapM (a0F ρ)with
        |none=>rw[hr1]at hr;cases hr
        |some r1=>
          rw[hr1]at hr
          cases hr
          obtain⟨i1,i2⟩:=ih r1 (λy hy=>hb y (am _ hy)) hr1
          refine⟨by simp[i1],λj v c hv hc=> ?_⟩
          cases j with
          |zero=>simp at hv hc;subst hv;subst hc;exact a0e h (hb x (ar ..)) hx1
          |succ j=>exact i2 j v c (by simpa using hv) (by simpa using hc)
  split at hs
  rename_i p q hp hq
  cases hs
  obtain⟨p1,p2⟩:=key _ _ (λx hm=>hx x (aC.1 hm)) hp
  obtain⟨q1,q2⟩:=key _ _ (λx hm=>hy x (aC.1 hm)) hq
  refine a0J he (r:= .func fn (first.map a.eval) (captured.map a.eval)) rfl ?_
  have:=Rep.fn (w:=w) (K:=K) (D:=D) fn (first.toList.map a.eval) (captured.toList.map a.eval) p q p1 q1 p2 q2
  rw[show first.map a.eval=(first.toList.map a.eval).toArray from by apply Array.ext';simp,show captured.map a.eval=(captured.toList.map a.eval).toArray from by apply Array.ext';simp]
  exact this
  cases hs
theorem CR.nil:CR w K D [] []:=⟨rfl,λc h=>(by cases h),λj v c h=>(by simp at h)⟩
theorem CR.append {vs us:List Value} {cs ds:List SV} (h:CR w K D vs cs)(g:CR w K D us ds):CR w K D (vs++us) (cs++ds):=by
  refine⟨by simp[h.len,g.len],λc hc=> ?_,λj v c hv hc=> ?_⟩
  rcases av.1 hc with hc|hc
  exact h.one c hc
  exact g.one c hc
  rw[aD]at hv hc
  rw[h.len]at hc
  split at hv
  rename_i hj;rw[if_pos hj]at hc;exact h.rep j v c hv hc
  rename_i hj;rw[if_neg hj]at hc;exact g.rep _ v c hv hc
theorem CR.take {vs:List Value} {cs:List SV} (h:CR w K D vs cs)(n:Nat):CR w K D (vs.take n) (cs.take n):=
  ⟨by simp[h.len],λc hc=>h.one c (bG hc),λj v c hv hc=>
    h.rep j v c (by rw[aM]at hv;split at hv<;>first|exact hv|cases hv) (by rw[aM]at hc;split at hc<;>first|exact hc|cases hc)⟩
theorem CR.drop {vs:List Value} {cs:List SV} (h:CR w K D vs cs)(n:Nat):CR w K D (vs.drop n) (cs.drop n):=
  ⟨by simp[h.len],λc hc=>h.one c (bV hc),λj v c hv hc=>h.rep (n+j) v c (by simpa using hv) (by simpa using hc)⟩
theorem CR.splice {vs us:List Value} {cs ds:List SV} (h:CR w K D vs cs)(g:CR w K D us ds)(off:Nat):CR w K D (vs.take off++(us++vs.drop (off+us.length))) (splice cs off ds):=by
  unfold Sy.splice
  rw[g.len]
  exact(h.take off).append (g.append (h.drop _))
theorem p0F {v:Value} {s:SV} {ps:List SV} (h:Rep w K D v s)(hp:s.cells?=some ps):CR w K D v.cells.toList ps:=by
  have single: ∀(u:Value),Rep w K D u s->u.cells= #[u]->u.oneCell'=true->CR w K D u.cells.toList [s]:=by
    intro u hu hc h1
    rw[hc]
    refine⟨rfl,λc hm=> ?_,λj x c hx hc=> ?_⟩
    simp at hm;subst hm;exact h1
    cases j with
    |zero=>simp at hx hc;subst hx;subst hc;exact hu
    |succ j=>simp at hx
  cases h with
  |agg vs cs hc h1 h=>cases hp;exact⟨hc,h1,h⟩
  |undef=>cases hp
  |tup=>cases hp
  |ep=>cases hp
  |bool b=>cases hp;exact single _ (.bool b) rfl rfl
  |int k n=>cases hp;exact single _ (.int k n) rfl rfl
  |str sb=>cases hp;exact single _ (.str sb) rfl rfl
  |nl a=>cases hp;exact single _ (.nl a) rfl rfl
  |emp k a cap=>cases hp;exact single _ (.emp k a cap) rfl rfl
  |lst k b off len cap vs cs hk hl hc hcap hm hK h1 hpl h=>cases hp;exact single _ (.lst k b off len cap vs cs hk hl hc hcap hm hK h1 hpl h) rfl rfl
  |ptr i off b c n hb=>cases hp;exact single _ (.ptr i off b c n hb) rfl rfl
  |vcn i a hd=>cases hp;exact single _ (.vcn i a hd) rfl rfl
  |vc i b c n hd=>cases hp;exact single _ (.vc i b c n hd) rfl rfl
  |sl i off n k b c m cap hd hn=>cases hp;exact single _ (.sl i off n k b c m cap hd hn) rfl rfl
  |mp i r c n hd=>cases hp;exact single _ (.mp i r c n hd) rfl rfl
  |fn f fs caps gs dcs hc hd h h'=>cases hp;exact single _ (.fn f fs caps gs dcs hc hd h h') rfl rfl
  |nilp=>cases hp;exact single _ .nilp rfl rfl
  |yld i l c n hd=>cases hp;exact single _ (.yld i l c n hd) rfl rfl
theorem s0g: ∀(l:List Value) (k off:Nat) (cells:Array Value),off+k+l.length<=cells.size->
    ((l.zipIdx k).foldl (λcs x=>cs.setIfInBounds (off+x.2) x.1) cells).toList=cells.toList.take (off+k)++(l++cells.toList.drop (off+k+l.length)):=by
  intro l
  induction l with
  |nil=>intro k off cells _;simp
  |cons x l ih=>
    intro k off cells h
    simp only[List.zipIdx_cons,List.foldl_cons]
    rw[ih (k+1) off _ (by simp at h⊢;omega)]
    have hlt:off+k<cells.toList.length:=by simp at h⊢;omega
    simp only[Array.toList_setIfInBounds,aS]
    rw[show off+(k+1)=off+k+1 from by omega,show off+k+1+l.length=off+k+(l.length+1)from by omega]
    rw[List.take_succ_eq_append_getElem (by simpa using hlt),List.take_set_of_le (ai _),List.drop_set_of_lt (by omega)]
    simp
theorem s0k(h:Slots n w K D ρ a.tmps) {place:Nat->Option (Nat×Nat)} : ∀(parts:List (Nat×Operand)) (cells:Array Value) (cs cs':List SV),(∀p∈parts,Operand.inB n p.2=true)->
    CR w K D cells.toList cs->l0E ρ place cs parts=some cs'-> ∃cells',Instr.fill place cells (parts.map λp=>(p.1,a.eval p.2))=some cells'/\CR w K D cells'.toList cs':=by
  intro parts
  induction parts with
  |nil=>intro cells cs cs' _ hcr hs;cases hs;exact⟨cells,rfl,hcr⟩
  |cons p rest ih=>
    intro cells cs cs' hb hcr hs
    obtain⟨i,x⟩:=p
    simp only[l0E]at hs
    split at hs
    rename_i off size ps hp hx
    split at hs
    rename_i hc
    obtain⟨hl,hle⟩:=hc
    cases hxe:a0F ρ x with
    |none=>rw[hxe]at hx;cases hx
    |some sx=>
      rw[hxe]at hx
      have hrx:=a0e h (hb (i,x) (ar ..)) hxe
      have hcx:=p0F hrx hx
      have hvl:(a.eval x).cells.size=size:=by have:=hcx.len;simp at this;omega
      have hcl:cs.length=cells.size:=by simpa using hcr.len
      have hle':off+0+(a.eval x).cells.toList.length<=cells.size:=by simp;omega
      have hf:=s0g (a.eval x).cells.toList 0 off cells hle'
      have hcond: ¬(((a.eval x).cells.size≠size||off+(a.eval x).cells.size>cells.size)=true):=by simp;omega
      obtain⟨cells',h1,h2⟩:=ih ((a.eval x).cells.toList.zipIdx.foldl (λcs x=>cs.setIfInBounds (off+x.2) x.1) cells) _ cs' (λp hm=>hb p (am _ hm)) (by
        rw[hf];simpa using hcr.splice hcx off) hs
      refine⟨cells', ?_,h2⟩
      simp only[aj,Instr.fill,hp]
      rw[if_neg (by simpa using hcond)]
      have hz:(a.eval x).cells.zipIdx.foldl (λcs x=>cs.setIfInBounds (off+x.2) x.1) cells=(a.eval x).cells.toList.zipIdx.foldl (λcs x=>cs.setIfInBounds (off+x.2) x.1) cells:=by
        rw[<-Array.foldl_toList];simp
      rw[<-hz]at h1
      exact h1
    cases hs
    cases hs
theorem t0u {x:Value} {s:SV} (h:u0A x=some s):Rep w K D x s/\x.oneCell'=true:=by
  unfold u0A at h
  split at h
  · rename_i s' hx
    cases h
    have hpl:s.plain=true:=by unfold j0O at hx;split at hx<;>cases hx<;>rfl
    exact⟨i0q hx,q0q (w:=w) (K:=K) (D:=D) (i0q hx) hpl⟩
  · split at h<;>cases h
    rename_i h1
    exact⟨.undef _,h1⟩
theorem p0A {v:Value} {cs:List SV} (h:m0t v=some cs):CR w K D v.cells.toList cs:=by
  unfold m0t at h
  generalize v.cells.toList=l at h
  induction l generalizing cs with
  |nil=>simp at h;subst h;exact CR.nil
  |cons x l ih=>
    simp only[cg]at h
    cases hx:u0A x with
    |none=>rw[hx]at h;cases h
    |some s=>
      rw[hx]at h
      cases hl:l.mapM u0A with
      |none=>rw[hl]at h;cases h
      |some r=>
        rw[hl]at h
        cases h
        obtain⟨hz1,hz2⟩:=t0u (w:=w) (K:=K) (D:=D) hx
        have h1:CR w K D [x] [s]:=⟨rfl,λc hm=>by simp at hm;subst hm;exact hz2,λj v c hv hc=>by
          cases j with
          |zero=>simp at hv hc;subst hv;subst hc;exact hz1
          |succ j=>simp at hv⟩
        exact h1.append (ih hl)
theorem j0U {t:TypeId} {cs:List SV} (h:m0I P t=some cs): ∃i z,P.info? t=some i/\i.zero=some z/\cs.length=i.size/\P.cellsOf t=i.size/\True/\ ∀(w:World) (K:Nat->Nat) (D:DM),CR w K D z.cells.toList cs:=by
  unfold m0I at h
  split at h
  · rename_i i hi
    split at h
    · rename_i z hz
      split at h
      · rename_i cs' hcs
        split at h<;>cases h
        rename_i hl
        exact⟨i,z,hi,hz,hl,by simp[Program.cellsOf,hi],trivial,λw K D=>p0A hcs⟩
      cases h
    cases h
  cases h
theorem y0m(h:Slots n w K D ρ a.tmps) {t:TypeId} {parts:Array (Nat×Operand)} (ho:o.op= .build t parts)(hb: ∀p∈parts.toList,Operand.inB n p.2=true) {s:SV}
    (hs:a0g P o ρ=some s):f0y P w K D o a s:=by
  have he:execOp a.eval o=(do pure (Next.value (<-Instr.build t (parts.map λp=>(p.1,a.eval p.2))))):=by unfold execOp;rw[ho]
  have hpl:(parts.map λp=>(p.1,a.eval p.2)).toList=parts.toList.map λp=>(p.1,a.eval p.2):=by simp
  simp only[a0g,ho]at hs
  split at hs
  rename_i zs pl hz hp
  cases hf:l0E ρ (λi=>pl[i]?) zs parts.toList with
  |none=>rw[hf]at hs;cases hs
  |some cs=>
    rw[hf]at hs;cases hs
    obtain⟨i,z,hi,hzz,hl,hc,_,hcr⟩:=j0U hz
    obtain⟨cells',h1,h2⟩:=s0k h parts.toList z.cells zs cs hb (hcr w K D) hf
    unfold s0U at hp
    split at hp
    rename_i fs hu
    refine a0J he (r:= .agg cells') (run_build w t _ _ ?_) (by have:=Rep.agg _ _ h2.len h2.one h2.rep;simpa using this)
    unfold Program.built
    simp only[hi,hu,hzz,hp,hpl]
    rw[<-h1]
    congr 1
    funext j
    simp
    cases hp
  rename_i zs k hz hp hk
  cases hf:l0E ρ (λi=>some (i*k,k)) zs parts.toList with
  |none=>rw[hf]at hs;cases hs
  |some cs=>
    rw[hf]at hs;cases hs
    obtain⟨i,z,hi,hzz,hl,hc,_,hcr⟩:=j0U hz
    obtain⟨cells',h1,h2⟩:=s0k h parts.toList z.cells zs cs hb (hcr w K D) hf
    unfold r0c at hk
    split at hk
    rename_i n e hu
    cases hie:P.info? e with
    |none=>rw[hie]at hk;cases hk
    |some ie=>
      rw[hie]at hk;cases hk
      refine a0J he (r:= .agg cells') (run_build w t _ _ ?_) (by have:=Rep.agg _ _ h2.len h2.one h2.rep;simpa using this)
      unfold Program.built
      simp only[hi,hu,hzz,hie,hpl]
      exact h1
    cases hk
  cases hs
def Op.inB(n:Nat)(o:Op):Bool:=o.operands.all (Operand.inB n)
theorem t0R(h:Slots n w K D ρ a.tmps)(hb:Op.inB n o.op=true) {s:SV} (hs:a0g P o ρ=some s):f0y P w K D o a s:=by
  unfold Op.inB at hb
  rw[aK]at hb
  cases ho:o.op
  case move x=>exact v0F h (.inl ho) (hb x (by simp[ho,Op.operands])) hs
  case assign x=>exact v0F h (.inr ho) (hb x (by simp[ho,Op.operands])) hs
  case pick c x y=>exact z0C h ho (hb c (by simp[ho,Op.operands])) (hb x (by simp[ho,Op.operands])) (hb y (by simp[ho,Op.operands])) hs
  case binOp op t x y u=>exact y0n h ho (hb x (by simp[ho,Op.operands])) (hb y (by simp[ho,Op.operands])) hs
  case unOp op t x=>exact z0i h ho (hb x (by simp[ho,Op.operands])) hs
  case convert s d x=>exact u0k h ho (hb x (by simp[ho,Op.operands])) hs
  case extract x i=>exact u0h h ho (hb x (by simp[ho,Op.operands])) hs
  case nilCheck x=>exact r0S h ho (hb x (by simp[ho,Op.operands])) hs
  case indexAddr t x i=>exact q0S h ho (hb x (by simp[ho,Op.operands])) (hb i (by simp[ho,Op.operands])) hs
  case index t x i=>exact x0Y h ho (hb x (by simp[ho,Op.operands])) (hb i (by simp[ho,Op.operands])) hs
  case fieldAddr t x f=>exact q0Z h ho (hb x (by simp[ho,Op.operands])) hs
  case field t x f=>exact y0c h ho (hb x (by simp[ho,Op.operands])) hs
  case load t x=>exact z0L h ho (hb x (by simp[ho,Op.operands])) hs
  case slice t x lo hi mx=>
    exact x0k h ho (hb x (by simp[ho,Op.operands])) (λy hy=>hb y (by subst hy;simp[ho,Op.operands])) (λy hy=>hb y (by subst hy;simp[ho,Op.operands])) hs
  case makeFunc f p q=>exact r0W h ho (λx hm=>hb x (by simp[ho,Op.operands,hm])) (λx hm=>hb x (by simp[ho,Op.operands,hm])) hs
  case build t parts=>exact y0m h ho (λp hp=>hb p.2 (by simp only[ho,Op.operands,ck,aR];exact⟨p,hp,rfl⟩)) hs
  case call c=>exact B0l h ho (λx hm=>hb x (by simp[ho,Op.operands,Call.operands,hm])) hs
  all_goals(simp only[a0g,ho]at hs;cases hs)
end
end
section
variable [Inhabited GT]
def e0E(D:DM)(i:Nat)(l:Loc):DM:=λj=>if j=i then some l else D j
def g0m(H:a0f)(i:Nat)(en:Ent):a0f:=if i<H.length then H.set i en else H++ [en]
def CanNew(H:a0f)(i:Nat):Prop:=i=H.length\/H[i]?=some .res
def g0p(H:a0f):Option Nat->a0f
  |none=>H
  |some i=>H.set i .gone
theorem m0B(H:a0f)(x:Option Nat):(g0p H x).length=H.length:=by cases x<;>simp[g0p]
theorem o0T {H:a0f} {i:Nat} {en:Ent} (hi:i<=H.length)(j:Nat):(g0m H i en)[j]?=if j=i then some en else H[j]?:=by
  unfold g0m
  by_cases hl:i<H.length
  rw[if_pos hl,aL]
  by_cases hj:j=i
  subst hj;simp[hl]
  rw[if_neg (Ne.symm hj),if_neg hj]
  rw[if_neg hl,aD]
  have:i=H.length:=by omega
  subst this
  by_cases hj:j=H.length
  subst hj;simp
  rw[if_neg hj]
  split
  rfl
  rw[aw (by simp;omega),aw (by omega)]
theorem h0Q {H:a0f} {x:Option Nat} {j:Nat} {en:Ent} (h:(g0p H x)[j]?=some en):en= .gone\/(H[j]?=some en/\x≠some j):=by
  cases x with
  |none=>exact .inr ⟨h,by simp⟩
  |some i=>
    simp only[g0p]at h
    rw[aL]at h
    by_cases hij:i=j
    · subst hij
      rw[if_pos rfl]at h
      split at h<;>cases h
      exact .inl rfl
    rw[if_neg hij]at h
    exact .inr ⟨h,by simp[hij]⟩
section
variable {P : Program} {n : Nat} {w : World} {K : Nat -> Nat} {D : DM} {H : a0f} {ρ : Env} {a : Act} {o : Oper}
theorem CanNew.le {i:Nat} (h:CanNew H i):i<=H.length:=by
  rcases h with h|h
  omega
  exact Nat.le_of_lt (ab.1 h).1
theorem CanNew.free {i:Nat} (h:CanNew H i)(hi:HInv w K D H):D i=none:=by
  rcases h with h|h
  exact hi.dom i (by omega)
  exact hi.ent i _ h
theorem place(h:HInv w K D H) {idx:Nat} (hidx:CanNew H idx) {x:Option Nat} (hx:x≠some idx) {b c m:Nat} {en:Ent} {w':World}
    (hb:w.heap.size<=b\/ ∃i en0 c0 n0,x=some i/\H[i]?=some en0/\f0z en0=true/\D i=some (.at b c0 n0))
    (h1:w'.os=w.os) (h2:w'.tape=w.tape) (h3:w'.output=w.output) (h4:w.heap.size<=w'.heap.size)
    (h5: ∀b',b'≠b->b'<w.heap.size->w'.heap[b']?=w.heap[b']?)
    (hen:(∀v s,Rep w K D v s->Rep w' K (e0E D idx (.at b c m)) v s)->EntOk w' K (e0E D idx (.at b c m)) idx en):
    Grow w K D H w' K (e0E D idx (.at b c m)) (g0m (g0p H x) idx en)/\HInv w' K (e0E D idx (.at b c m)) (g0m (g0p H x) idx en):=by
  have hfree:=hidx.free h
  have hle:=hidx.le
  have hlen:(g0p H x).length=H.length:=m0B H x
  have hget: ∀j,(g0m (g0p H x) idx en)[j]?=if j=idx then some en else(g0p H x)[j]?:=o0T (by omega)
  have hbK:K b=0:=by
    rcases hb with hb|⟨i,en0,c0,n0,_,g1,g2,g3⟩
    rcases aZ (K b)with hz|hz
    exact hz
    have:=h.kw b (by omega);omega
    exact(h0M h ⟨i,en0,c0,n0,g1,g2,g3⟩).2
  have hdd: ∀i x,D i=some x->e0E D idx (.at b c m) i=some x:=by
    intro i x hi
    unfold e0E
    rw[if_neg (λe=>by subst e;rw[hfree]at hi;cases hi)]
    exact hi
  have hcells: ∀b' j,j<K b'->w'.cell? ⟨b',j,none⟩=w.cell? ⟨b',j,none⟩:=by
    intro b' j hj
    have hne:b'≠b:=λe=>by subst e;omega
    exact World.cell?_of_block (w:=w) (a:=⟨b',j,none⟩) (h5 b' hne (h.kw b' (by omega)))
  have hrep: ∀v s,Rep w K D v s->Rep w' K (e0E D idx (.at b c m)) v s:=λv s hr=>hr.mono hcells (λ_=>ai _) hdd
  -- a f0z entry beside has another block
  have hother: ∀j enj bj cj nj,j≠idx->(g0p H x)[j]?=some enj->f0z enj=true->D j=some (.at bj cj nj)->bj≠b/\bj<w.heap.size/\H[j]?=some enj:=by
    intro j enj bj cj nj hj hkj hlj hdj
    rcases h0Q hkj with hg|⟨hj1,hj2⟩
    subst hg;cases hlj
    have hlt:=(h0M h ⟨j,enj,cj,nj,hj1,hlj,hdj⟩).1
    refine⟨λe=> ?_,hlt,hj1⟩
    subst e
    rcases hb with hb|⟨i,en0,c0,n0,hxi,g1,g2,g3⟩
    omega
    have:=h.inj j i enj en0 bj cj nj c0 n0 hj1 g1 hlj g2 hdj g3
    subst this
    exact hj2 hxi
  have hgrow:Grow w K D H w' K (e0E D idx (.at b c m)) (g0m (g0p H x) idx en):=by
    refine⟨h1,h2,h3,h4,λb' hb' hm=>h5 b' (λe=> ?_) hb',hcells,λ_=>ai _,λ_ _ _=>rfl,hdd,λb' hm=> ?_⟩
    subst e
    rcases hb with hb|⟨i,en0,c0,n0,_,g1,g2,g3⟩
    omega
    exact hm ⟨i,en0,c0,n0,g1,g2,g3⟩
    obtain⟨j,enj,cj,nj,e1,e2,e3⟩:=hm
    rw[hget]at e1
    by_cases hj:j=idx
    subst hj
    simp only[e0E,if_true]at e3
    cases e3
    rcases hb with hb|⟨i,en0,c0,n0,_,g1,g2,g3⟩
    exact .inr hb
    exact .inl ⟨i,en0,c0,n0,g1,g2,g3⟩
    rw[if_neg hj]at e1
    simp only[e0E,if_neg hj]at e3
    obtain⟨_,_,q⟩:=hother j enj b' cj nj hj e1 e2 e3
    exact .inl ⟨j,enj,cj,nj,q,e2,e3⟩
  refine⟨hgrow,⟨λi hi=> ?_,λi eni hi=> ?_,λi j eni enj bb cc nn cc' nn' hi hj hli hlj hdi hdj=> ?_,λb' hb'=>aU (h.kw b' hb') h4⟩⟩
  have hl:H.length<=i/\i≠idx:=by
    unfold g0m at hi
    split at hi
    simp[hlen]at hi;exact⟨by omega,by omega⟩
    simp[hlen]at hi;exact⟨by omega,by omega⟩
  simp only[e0E,if_neg hl.2]
  exact h.dom i hl.1
  rw[hget]at hi
  by_cases hii:i=idx
  subst hii
  rw[if_pos rfl]at hi;cases hi
  exact hen hrep
  rw[if_neg hii]at hi
  rcases h0Q hi with hg|⟨g1,g2⟩
  subst hg;trivial
  refine(h.ent i eni g1).keep hrep (by simp[e0E,hii]) (λbb cc nn hl hd=>⟨?_,rfl⟩)
  obtain⟨q1,q2,_⟩:=hother i eni bb cc nn hii hi hl hd
  exact h5 bb q1 q2
  rw[hget]at hi hj
  by_cases hii:i=idx
  by_cases hjj:j=idx
  rw[hii,hjj]
  rw[if_neg hjj]at hj
  subst hii
  simp only[e0E,if_true]at hdi
  cases hdi
  simp only[e0E,if_neg hjj]at hdj
  exact absurd rfl (hother j enj _ cc' nn' hjj hj hlj hdj).1
  rw[if_neg hii]at hi
  simp only[e0E,if_neg hii]at hdi
  by_cases hjj:j=idx
  subst hjj
  simp only[e0E,if_true]at hdj
  cases hdj
  exact absurd rfl (hother i eni _ cc nn hii hi hli hdi).1
  rw[if_neg hjj]at hj
  simp only[e0E,if_neg hjj]at hdj
  obtain⟨_,_,q1⟩:=hother i eni bb cc nn hii hi hli hdi
  obtain⟨_,_,q2⟩:=hother j enj bb cc' nn' hjj hj hlj hdj
  exact h.inj i j eni enj bb cc nn cc' nn' q1 q2 hli hlj hdi hdj
theorem n0s(h:HInv w K D H) {idx:Nat} (hidx:CanNew H idx)(x:Option Nat)(hx:x≠some idx)(k:Nat)(e:TypeId):
    Grow w K D H w K (e0E D idx .nil) (g0m (g0p H x) idx (.vec 0 k e []))/\HInv w K (e0E D idx .nil) (g0m (g0p H x) idx (.vec 0 k e [])):=by
  have hfree:=hidx.free h
  have hle:=hidx.le
  have hlen:(g0p H x).length=H.length:=m0B H x
  have hget: ∀j,(g0m (g0p H x) idx (.vec 0 k e []))[j]?=if j=idx then some (.vec 0 k e [])else(g0p H x)[j]?:=o0T (by omega)
  have hdd: ∀i x,D i=some x->e0E D idx .nil i=some x:=by
    intro i x hi
    unfold e0E
    rw[if_neg (λe=>by subst e;rw[hfree]at hi;cases hi)]
    exact hi
  have hrep: ∀v s,Rep w K D v s->Rep w K (e0E D idx .nil) v s:=λv s hr=>hr.mono (λ_ _ _=>rfl) (λ_=>ai _) hdd
  refine⟨⟨rfl,rfl,rfl,ai _,λ_ _ _=>rfl,λ_ _ _=>rfl,λ_=>ai _,λ_ _ _=>rfl,hdd,λb hm=> ?_⟩,⟨λi hi=> ?_,λi eni hi=> ?_,λi j eni enj bb cc nn cc' nn' hi hj hli hlj hdi hdj=> ?_,h.kw⟩⟩
  obtain⟨j,enj,cj,nj,e1,e2,e3⟩:=hm
  rw[hget]at e1
  by_cases hj:j=idx
  subst hj;simp only[e0E,if_true]at e3;cases e3
  rw[if_neg hj]at e1
  simp only[e0E,if_neg hj]at e3
  rcases h0Q e1 with hg|⟨g1,_⟩
  subst hg;cases e2
  exact .inl ⟨j,enj,cj,nj,g1,e2,e3⟩
  have hl:H.length<=i/\i≠idx:=by
    unfold g0m at hi
    split at hi
    simp[hlen]at hi;exact⟨by omega,by omega⟩
    simp[hlen]at hi;exact⟨by omega,by omega⟩
  simp only[e0E,if_neg hl.2]
  exact h.dom i hl.1
  rw[hget]at hi
  by_cases hii:i=idx
  subst hii
  rw[if_pos rfl]at hi;cases hi
  exact⟨rfl, .inl ⟨by simp[e0E],rfl,rfl⟩⟩
  rw[if_neg hii]at hi
  rcases h0Q hi with hg|⟨g1,g2⟩
  subst hg;trivial
  exact(h.ent i eni g1).keep hrep (by simp[e0E,hii]) (λbb cc nn hl hd=>⟨rfl,rfl⟩)
  rw[hget]at hi hj
  by_cases hii:i=idx
  subst hii;simp only[e0E,if_true]at hdi;cases hdi
  rw[if_neg hii]at hi
  simp only[e0E,if_neg hii]at hdi
  by_cases hjj:j=idx
  subst hjj;simp only[e0E,if_true]at hdj;cases hdj
  rw[if_neg hjj]at hj
  simp only[e0E,if_neg hjj]at hdj
  rcases h0Q hi with hg|⟨g1,_⟩
  subst hg;cases hli
  rcases h0Q hj with hg|⟨g2,_⟩
  subst hg;cases hlj
  exact h.inj i j eni enj bb cc nn cc' nn' g1 g2 hli hlj hdi hdj
theorem modify(h:HInv w K D H) {i:Nat} {en en':Ent} {b c m:Nat} {w':World} (hi:H[i]?=some en)(hl:f0z en=true)(hl':f0z en'=true)(hd:D i=some (.at b c m))
    (h1:w'.os=w.os) (h2:w'.tape=w.tape) (h3:w'.output=w.output) (h4:w'.heap.size=w.heap.size) (h5: ∀b',b'≠b->w'.heap[b']?=w.heap[b']?)
    (hen:(∀v s,Rep w K D v s->Rep w' K D v s)->EntOk w' K D i en'):
    Grow w K D H w' K D (H.set i en')/\HInv w' K D (H.set i en'):=by
  have hil:i<H.length:=(ab.1 hi).1
  obtain⟨hblt,hbK⟩:=h0M h ⟨i,en,c,m,hi,hl,hd⟩
  have hcells: ∀b' j,j<K b'->w'.cell? ⟨b',j,none⟩=w.cell? ⟨b',j,none⟩:=by
    intro b' j hj
    have hne:b'≠b:=λe=>by subst e;omega
    exact World.cell?_of_block (w:=w) (a:=⟨b',j,none⟩) (h5 b' hne)
  have hrep: ∀v s,Rep w K D v s->Rep w' K D v s:=λv s hr=>hr.mono hcells (λ_=>ai _) (λ_ _ e=>e)
  have hget: ∀j,(H.set i en')[j]?=if j=i then some en' else H[j]?:=by
    intro j
    rw[aL]
    by_cases hj:i=j
    subst hj;simp[hil]
    rw[if_neg hj,if_neg (Ne.symm hj)]
  have hmem: ∀b',Mem D (H.set i en') b'->Mem D H b':=by
    rintro b' ⟨j,enj,cj,nj,e1,e2,e3⟩
    rw[hget]at e1
    by_cases hj:j=i
    subst hj;exact⟨j,en,cj,nj,hi,hl,e3⟩
    rw[if_neg hj]at e1;exact⟨j,enj,cj,nj,e1,e2,e3⟩
  refine⟨⟨h1,h2,h3,by omega,λb' hb' hm=>h5 b' (λe=>hm (e▸⟨i,en,c,m,hi,hl,hd⟩)),hcells,λ_=>ai _,λ_ _ _=>rfl,λ_ _ e=>e,λb' hm=> .inl (hmem b' hm)⟩,
    ⟨λj hj=>h.dom j (by simpa using hj),λj enj hj=> ?_,λj j' enj enj' bb cc nn cc' nn' hj hj' hlj hlj' hdj hdj'=> ?_,λb' hb'=>by rw[h4];exact h.kw b' hb'⟩⟩
  rw[hget]at hj
  by_cases hji:j=i
  subst hji;rw[if_pos rfl]at hj;cases hj;exact hen hrep
  rw[if_neg hji]at hj
  refine(h.ent j enj hj).keep hrep rfl (λbb cc nn hl2 hd2=>⟨h5 bb (λe=> ?_),rfl⟩)
  subst e
  exact hji (h.inj j i enj en bb cc nn c m hj hi hl2 hl hd2 hd)
  have back: ∀(j:Nat) (enj:Ent),(H.set i en')[j]?=some enj->f0z enj=true-> ∃en2,H[j]?=some en2/\f0z en2=true:=by
    intro j enj hj hlj
    rw[hget]at hj
    by_cases hji:j=i
    subst hji;exact⟨en,hi,hl⟩
    rw[if_neg hji]at hj;exact⟨enj,hj,hlj⟩
  obtain⟨e1,q1,q2⟩:=back j enj hj hlj
  obtain⟨e2,q3,q4⟩:=back j' enj' hj' hlj'
  exact h.inj j j' e1 e2 bb cc nn cc' nn' q1 q3 q2 q4 hdj hdj'
def m0w(P:Program)(w:World)(K:Nat->Nat)(D:DM)(H:a0f)(o:Oper)(a:Act)(s:SV)(H':a0f):Prop:=
  ∃r w',((execOp a.eval o).run P w= .ok (.value r) w'\/((execOp a.eval o).run P w= .ok .skip w'/\r=undef))/\Good w K D H r w' s H'
theorem e0T(H:a0f):g0p H none=H:=rfl
theorem v0E(h:HInv w K D H) {idx:Nat} (hidx:CanNew H idx) {vs:List Value} {cs:List SV} (hcr:CR w K D vs cs)(e:TypeId):
    Good w K D H (.pointer (some ⟨w.heap.size,0,none⟩)) (w.alloc (.cells vs.toArray e)) (.ptr idx 0) (g0m H idx (.box cs)):=by
  have hold: ∀b,b<w.heap.size->(w.alloc (.cells vs.toArray e)).heap[b]?=w.heap[b]?:=λb hb=>by show(w.heap.push _)[b]?=_;rw[bo,if_neg (by omega)]
  have hK0:K w.heap.size=0:=by
    rcases aZ (K w.heap.size)with h0|h0
    exact h0
    have:=h.kw w.heap.size (by omega);omega
  obtain⟨g,hi⟩:=place (w':=w.alloc (.cells vs.toArray e)) (en:= .box cs) (b:=w.heap.size) (c:=0) (m:=0) h hidx (x:=none) (by simp) (.inl (ai _)) rfl rfl rfl (by simp) (λb' _ hlt=>hold b' hlt)
    (λhr=>⟨_,vs,e,by simp[e0E],hK0,(by show(w.heap.push _)[w.heap.size]?=_;simp),hcr.mono hr⟩)
  rw[e0T]at g hi
  exact⟨K,_,g,hi, .ptr idx 0 w.heap.size 0 0 (by simp[e0E])⟩
theorem r0T(h:HInv w K D H) {idx:Nat} (hidx:CanNew H idx)(x:Option Nat)(hx:x≠some idx) {vs rest:List Value} {cs:List SV} {e k len cap:Nat} {w':World} {L:Array Value}
    (hcr:CR w K D vs cs) (hpl:b0f cs=true) (hL:L=(vs++rest).toArray) (hh:w'.heap=w.heap.push (.cells L e)) (h1:w'.os=w.os) (h2:w'.tape=w.tape) (h3:w'.output=w.output)
    (hk:0<k) (hl:vs.length=len*k) (hcap:len<=cap) (hLl:(vs++rest).length=cap*k) (hm:cap<=maxLen):
    Good w K D H (.slice (some ⟨w.heap.size,0,none⟩) len cap) w' (.vc idx) (g0m (g0p H x) idx (.vec len k e cs)):=by
  subst hL
  have hold: ∀b,b<w.heap.size->w'.heap[b]?=w.heap[b]?:=λb hb=>by rw[hh,bo,if_neg (by omega)]
  have hK0:K w.heap.size=0:=by
    rcases aZ (K w.heap.size)with h0|h0
    exact h0
    have:=h.kw w.heap.size (by omega);omega
  obtain⟨g,hi⟩:=place (w':=w') (en:= .vec len k e cs) (b:=w.heap.size) (c:=cap) (m:=len) h hidx hx (.inl (ai _)) h1 h2 h3 (by rw[hh];simp) (λb' _ hlt=>hold b' hlt)
    (λhr=>⟨hpl, .inr ⟨_,cap,vs,rest,by simp[e0E],hK0,hk,hcap,hm,by rw[hh];simp,hl,hLl,hcr.mono hr⟩⟩)
  exact⟨K,_,g,hi, .vc idx w.heap.size cap len (by simp[e0E])⟩
def b0F:Ent->Option (List SV)
  | .box cs=>some cs
  | .vec _ _ _ cs=>some cs
  |_=>none
def r0b(en:Ent)(cs:List SV):Ent:=match en with
  | .box _=> .box cs
  | .vec n k e _=> .vec n k e cs
  |en=>en
def z0Q:Ent->Bool
  | .vec _ _ _ _=>true
  |_=>false
theorem s0o(h:HInv w K D H) {i b c m:Nat} {en:Ent} {cs:List SV} (hi:H[i]?=some en)(hd:D i=some (.at b c m))(hc:b0F en=some cs):
    ∃vs rest e,w.heap[b]?=some (.cells (vs++rest).toArray e (0,0))/\CR w K D vs cs/\f0z en=true/\K b=0:=by
  have he:=h.ent i en hi
  cases en with
  |res=>cases hc
  |gone=>cases hc
  |box cs'=>
    cases hc
    obtain⟨b',vs,e,h1,h2,h3,h4⟩:=he
    rw[h1]at hd;cases hd
    exact⟨vs,[],e,by simpa using h3,h4,rfl,h2⟩
  |vec n k e cs'=>
    cases hc
    rcases he.2 with⟨h1,_⟩|⟨b',c',vs,rest,h1,h2,_,_,_,h6,_,_,h9⟩
    rw[h1]at hd;cases hd
    rw[h1]at hd;cases hd
    exact⟨vs,rest,e,h6,h9,rfl,h2⟩
  |map es=>cases hc
  |itr m n s=>cases hc
  |lop tm ps as bd st pd=>cases hc
  |dfr=>cases hc
  |pmap es=>cases hc
theorem f0u {b:Nat} {vs rest:List Value} {e:TypeId} {cs:List SV} (hheap:w.heap[b]?=some (.cells (vs++rest).toArray e (0,0)))(h:CR w K D vs cs):RowAt w K D b 0 vs cs:=by
  refine⟨h.len,λj v hj=> ?_,h.one,h.rep⟩
  rw[cell_of_row w b _ _ _ _ hheap]
  simp only[aW,List.getElem?_toArray]
  rw[bz (ab.1 hj).1]
  exact hj
theorem l0Z {v:Value} {i off:Nat} (h:Rep w K D v (.ptr i off)): ∃b c m,v= .pointer (some ⟨b,off,none⟩)/\D i=some (.at b c m):=by
  cases h with
  |ptr _ _ b c m hd=>exact⟨b,c,m,rfl,hd⟩
theorem k0D(h:HInv w K D H) {i b c m:Nat} {en:Ent} {cs ps:List SV} {us:List Value} {off:Nat} (hi:H[i]?=some en)(hd:D i=some (.at b c m))(hc:b0F en=some cs)
    (hle:off+ps.length<=cs.length) (hcx:CR w K D us ps) (hpl:z0Q en=true->b0f ps=true):
    ∃w',(storeCells ⟨b,off,none⟩ us).run P w= .ok () w'/\Grow w K D H w' K D (H.set i (r0b en (splice cs off ps)))/\HInv w' K D (H.set i (r0b en (splice cs off ps))):=by
  obtain⟨vs,rest,e,hheap,hcr,hlive,hK0⟩:=s0o h hi hd hc
  have hul:us.length=ps.length:=hcx.len.symm
  have hvl:vs.length=cs.length:=hcr.len.symm
  have hst:=run_storeCells_at P b off e us 0 (vs++rest).toArray w hheap (by simp;omega) hcx.one
  simp only[Nat.add_zero]at hst
  have hnew:=setRow_heap w b (vs++rest).toArray ((vs++rest).toArray.toList.take off++us++(vs++rest).toArray.toList.drop (off+us.length)).toArray e _ hheap
  have hrow:((vs++rest).toArray.toList.take off++us++(vs++rest).toArray.toList.drop (off+us.length)).toArray=((vs.take off++(us++vs.drop (off+us.length)))++rest).toArray:=by
    congr 1
    simp only[bP]
    rw[List.take_append_of_le_length (by omega),List.drop_append_of_le_length (by omega)]
  rw[hrow]at hst hnew
  generalize hw':w.setRow b ((vs.take off++(us++vs.drop (off+us.length)))++rest).toArray=w' at hst hnew
  have hother: ∀c,c≠b->w'.heap[c]?=w.heap[c]?:=λc hcb=>by rw[<-hw'];exact setRow_other w b c _ hcb
  have hsize:w'.heap.size=w.heap.size:=by rw[<-hw'];simp
  have hsp:=hcr.splice hcx off
  have hsl:(splice cs off ps).length=cs.length:=by simp[Sy.splice];omega
  have hl':f0z (r0b en (splice cs off ps))=true:=by cases en<;>first|rfl|cases hlive
  refine⟨w',hst,modify h hi hlive hl' hd (by rw[<-hw'];rfl) (by rw[<-hw'];rfl) (by rw[<-hw'];rfl) hsize hother (λhr=> ?_)⟩
  have he:=h.ent i en hi
  cases en with
  |res=>cases hc
  |gone=>cases hc
  |box cs'=>
    cases hc
    obtain⟨b',vs',e',h1,h2,h3,h4⟩:=he
    rw[h1]at hd;cases hd
    rw[hheap]at h3
    injection h3 with h3
    injection h3 with h3 h3e
    have hv3:vs++rest=vs':=by simpa using h3
    have hr0:rest=[]:=by
      have:=congrArg List.length hv3
      rw[ay,hvl,h4.len.symm]at this
      exact ao (by omega)
    subst hr0
    exact⟨b,_,e,h1,h2,by simpa using hnew,hsp.mono hr⟩
  |vec n k e' cs'=>
    cases hc
    obtain⟨hp,he⟩:=he
    refine⟨?_, ?_⟩
    have hpp:=hpl rfl
    simp only[b0f,Sy.splice,bL,aa]
    exact⟨g0Q hp _,hpp,i0c hp _⟩
    rcases he with⟨h1,_⟩|⟨b',c',vs',rest',h1,h2,h3,h4,h5,h6,h7,h8,h9⟩
    rw[h1]at hd;cases hd
    rw[h1]at hd;cases hd
    rw[hheap]at h6
    injection h6 with h6
    injection h6 with h6 h6e
    subst h6e
    have hv6:vs++rest=vs'++rest':=by simpa using h6
    have hvs:vs=vs':=(List.append_inj hv6 (by rw[hvl,h9.len])).1
    have hrs:rest=rest':=(List.append_inj hv6 (by rw[hvl,h9.len])).2
    subst hvs;subst hrs
    refine .inr ⟨b,c,_,rest,h1,h2,h3,h4,h5,hnew, ?_, ?_,hsp.mono hr⟩
    simp only[ay,aJ,bc];omega
    simp only[ay,aJ,bc]at h8⊢;omega
  |map es=>cases hc
  |itr m n s=>cases hc
  |lop tm ps as bd st pd=>cases hc
  |dfr=>cases hc
  |pmap es=>cases hc
end
end
section
variable [Inhabited GT]
structure Eff where
  v:SV
  rd:List Nat
  wr:List (Nat×Ent)
def b0t(H:a0f):List (Nat×Ent)->a0f
  | []=>H
  |(i,en)::r=>b0t (g0m H i en) r
def g0g(P:Program)(e k:Nat):Bool:=
  match P.info? e with
  |some i=>(i.size==k)&&decide (0<k)&&decide (i.bytes<=4096)&&(match i.zero with
    |some z=>z.cells.size==i.size
    |none=>false)
  |none=>false
def l0H(b:UInt8):SV:= .int .u8 b.toNat
def p0N(k:Nat)(s:SV)(H:a0f):Option (Nat×List SV×List Nat):=
  match s with
  | .lst n k' cs=>if k'=k\/n=0 then some (n,cs,[])else none
  | .nl=>some (0,[],[])
  | .str bs=>if k=1 then some (bs.length,bs.map l0H,[])else none
  | .vc j=>match H[j]? with
    |some (.vec n k' _ cs)=>if k'=k\/n=0 then some (n,cs,[j])else none
    |_=>none
  | .sl j off n k'=>match H[j]? with
    |some (.box cs)=>if k'=k/\off+n*k<=cs.length/\b0f ((cs.drop off).take (n*k))=true then some (n,(cs.drop off).take (n*k),[j])else none
    |_=>none
  |_=>none
def g0y(P:Program)(tx:TypeId)(s:SV):Bool:=
  match s,P.underlying tx with
  | .str _,some .string=>true
  | .str _,_=>false
  |_,some (.slice _)=>true
  |_,_=>false
def k0g(P:Program)(e:TypeId):Bool:=
  match P.info? e with
  |some i=>i.bytes==1
  |none=>false
def RoomE(P:Program)(e:TypeId)(n:Nat):Prop:=u0z n\/(k0g P e=true/\n<=140737488400000)
instance {P:Program} {e n:Nat} :Decidable (RoomE P e n):=inferInstanceAs (Decidable (u0z n\/(k0g P e=true/\n<=140737488400000)))
def t0B(P:Program)(e k:Nat)(tx:TypeId)(sy:SV)(H:a0f):Option (Nat×List SV×List Nat):=
  match sy with
  | .int _ l=>match P.underlying tx,m0I P e with
    |some (.int _),some zs=>if b0f zs=true/\P.cellsOf e=k then some (l.toNat,(List.replicate l.toNat zs).flatten,[])else none
    |_,_=>none
  |_=>if g0y P tx sy=true then p0N k sy H else none
def A0V(sy:SV):Bool:=
  match sy with
  | .int _ l=>decide (0<=l)
  |_=>true
def j0S(P:Program)(c:Call)(ρ:Env)(H:a0f)(idx:Nat):Option Eff:=
  match c.args.toList,c.argTypes.toList with
  | [x,y],[t,tx]=>match P.underlying t,a0F ρ x,a0F ρ y with
    |some (.slice e),some .nl,some sy=>match t0B P e (P.cellsOf e) tx sy H with
      |some (m,cs2,rd)=>if g0g P e (P.cellsOf e)=true/\A0V sy=true/\RoomE P e m then some ⟨.vc idx,rd,[(idx, .vec m (P.cellsOf e) e cs2)]⟩else none
      |none=>none
    |some (.slice e),some (.vc i),some sy=>match H[i]? with
      |some (.vec n k e' cs)=>match t0B P e k tx sy H with
        |some (m,cs2,rd)=>if e=e'/\g0g P e k=true/\A0V sy=true/\RoomE P e (n+m)then some ⟨.vc idx,i::rd,[(i, .gone),(idx, .vec (n+m) k e (cs++cs2))]⟩else none
        |none=>none
      |_=>none
    |_,_,_=>none
  |_,_=>none
def w0A(P:Program)(c:Call)(ρ:Env)(H:a0f):Option Eff:=
  match c.args.toList,c.argTypes.toList with
  | [x,y],[t,tx]=>match P.underlying t,a0F ρ x,a0F ρ y with
    |some (.slice e),some (.vc i),some sy=>match H[i]? with
      |some (.vec n k e' cs)=>match p0N k sy H with
        |some (m,cs2,rd)=>if k=P.cellsOf e/\g0g P e k=true/\g0y P tx sy=true then some ⟨.int .i64 ((min m n:Nat):Int),i::rd,[(i, .vec n k e' (splice cs 0 (cs2.take (min m n*k))))]⟩else none
        |none=>none
      |_=>none
    |some (.slice e),some (.sl i off n k),some sy=>match H[i]? with
      |some (.box cs)=>match p0N k sy H with
        |some (m,cs2,rd)=>if k=P.cellsOf e/\g0g P e k=true/\g0y P tx sy=true/\off+n*k<=cs.length then some ⟨.int .i64 ((min m n:Nat):Int),i::rd,[(i, .box (splice cs off (cs2.take (min m n*k))))]⟩else none
        |none=>none
      |_=>none
    |_,_,_=>none
  |_,_=>none
section
variable {P : Program} {n : Nat} {w : World} {K : Nat -> Nat} {D : DM} {H : a0f} {ρ : Env} {a : Act} {o : Oper}
theorem e0L {e k:Nat} (h:g0g P e k=true): ∃i z,P.info? e=some i/\i.zero=some z/\z.cells.size=i.size/\i.size=k/\0<k/\i.bytes<=4096:=by
  unfold g0g at h
  split at h
  rename_i i hi
  simp only[aa,beq_iff_eq,decide_eq_true_eq]at h
  obtain⟨⟨⟨h1,h2⟩,h3⟩,h4⟩:=h
  split at h4
  rename_i z hz
  exact⟨i,z,hi,hz,by simpa using h4,h1,h2,h3⟩
  cases h4
  cases h
theorem u0V {tx:TypeId} {bs:List UInt8} (h:g0y P tx (.str bs)=true):P.underlying tx=some .string:=by
  cases hu:P.underlying tx with
  |none=>simp[g0y,hu]at h
  |some d=>cases d<;>first|rfl|simp[g0y,hu]at h
theorem l0f {tx:TypeId} {s:SV} (hs: ∀bs,s≠ .str bs)(h:g0y P tx s=true): ∃e,P.underlying tx=some (.slice e):=by
  cases hu:P.underlying tx with
  |none=>cases s<;>simp[g0y,hu]at h
  |some d=>
    cases d<;>first|exact⟨_,rfl⟩|(cases s<;>first|exact absurd rfl (hs _)|simp[g0y,hu]at h)
structure SrcAt (P:Program) (w:World) (K:Nat->Nat) (D:DM) (k:Nat) (tx:TypeId) (x:Value) (m:Nat) (news:List Value) (cs:List SV):Prop where
  src:Src P k tx x m news w
  cr:CR w K D news cs
  plain:b0f cs=true
  first: ∀q,q<=m->(Builtin.firstCells k q x).run P w= .ok (news.take (q*k)).toArray w
theorem n0k {k:Nat} {tx e:TypeId} {b off len cap:Nat} {vs:List Value} {cs:List SV} (he:P.underlying tx=some (.slice e))(hrow:RowAt w K D b off vs cs)(hl:vs.length=len*k)(hp:b0f cs=true):
    SrcAt P w K D k tx (.slice (some ⟨b,off,none⟩) len cap) len vs cs:=
  ⟨Src.ofSlice w he ⟨b,off,none⟩ len cap vs hl (λj u hu=>by rw[add_lit];exact hrow.mem j u hu) hrow.one,⟨hrow.len,hrow.one,hrow.rep⟩,hp,λq hq=>by
    have hle:q*k<=len*k:=aQ _ hq
    exact run_firstCells_some w k q ⟨b,off,none⟩ len cap (vs.take (q*k)) (by rw[aJ];omega) (λj u hu=>by rw[add_lit];exact(hrow.take _).mem j u hu)⟩
theorem j0N {k:Nat} {tx e:TypeId} {ad:Option Addr} {cap:Nat} (he:P.underlying tx=some (.slice e)):SrcAt P w K D k tx (.slice ad 0 cap) 0 [] []:=by
  refine⟨?_,CR.nil,rfl,λq hq=> ?_⟩
  cases ad with
  |none=>exact Src.ofNil w he cap
  |some ea=>exact Src.ofSlice w he ea 0 cap [] (by simp) (λj u hu=>by simp at hu) (λu hu=>(by cases hu))
  have:q=0:=by omega
  subst this
  cases ad with
  |none=>simpa using run_firstCells_none w k 0 0 cap
  |some ea=>simpa using run_firstCells_some w k 0 ea 0 cap [] (by simp) (λj u hu=>by simp at hu)
theorem q0W(sb:ByteArray)(q:Nat)(hq:q<=sb.size):(Builtin.firstCells 1 q (.string sb)).run P w= .ok ((byteCells sb).take (q*1)).toArray w:=by
  simp only[Builtin.firstCells,Sem.run_pure,Nat.mul_one]
  congr 1
  apply Array.ext'
  simp[byteCells,ByteArray.data_extract,ca,List.map_take]
theorem p0X(hi:HInv w K D H) {k m:Nat} {tx:TypeId} {x:Value} {s:SV} {cs:List SV} {rd:List Nat} (hk:0<k)(hr:Rep w K D x s)
    (hs:p0N k s H=some (m,cs,rd)) (hty:g0y P tx s=true): ∃news,SrcAt P w K D k tx x m news cs:=by
  unfold p0N at hs
  split at hs
  · rename_i n k' cs'
    obtain⟨e,he⟩:=l0f (λbs=>by simp) hty
    split at hs<;>cases hs
    rename_i hc
    rcases i0b hr with⟨ea,ecap,hv,hcs,hn0⟩|⟨b,off,cap,vs,hv,hrow,hK,hk0,hl,hcap,hp⟩
    subst hcs;subst hv;subst hn0
    exact⟨[],j0N he⟩
    subst hv
    rcases hc with hc|hc
    subst hc;exact⟨vs,n0k he hrow hl hp⟩
    subst hc
    have hv0:vs=[]:=ao (by simpa using hl)
    subst hv0
    have hc0:cs=[]:=ao hrow.len
    subst hc0
    exact⟨[],j0N he⟩
  cases hs
  obtain⟨e,he⟩:=l0f (λbs=>by simp) hty
  cases hr
  exact⟨[],j0N he⟩
  · rename_i bs
    split at hs<;>cases hs
    rename_i e1;subst e1
    cases hr with
    |str sb=>
      have hu:=u0V hty
      have hsrc:=Src.ofString (P:=P) w hu sb
      have hlen:sb.data.toList.length=sb.size:=by simp
      rw[<-hlen]at hsrc
      refine⟨byteCells sb,hsrc,⟨by simp[byteCells],hsrc.one,λj v c hv hc=> ?_⟩, ?_, ?_⟩
      unfold byteCells at hv
      rw[al]at hv hc
      cases hb:sb.data.toList[j]? with
      |none=>rw[hb]at hv;cases hv
      |some y=>rw[hb]at hv hc;cases hv;cases hc;exact .int _ _
      simp only[b0f,List.all_map,List.all_eq_true]
      intro b _;rfl
      intro q hq
      exact q0W sb q (by rw[hlen]at hq;exact hq)
  · rename_i j
    obtain⟨e,he⟩:=l0f (λbs=>by simp) hty
    split at hs
    · rename_i n k' e' cs' hj
      split at hs<;>cases hs
      rename_i hc
      obtain⟨hp,hent⟩:=hi.ent j _ hj
      rcases hent with⟨h1,h2,h3⟩|⟨b,c,vs,rest,h1,h2,h3,h4,h5,h6,h7,h8,h9⟩
      subst h2;subst h3
      cases hr with
      |vcn _ ad hd=>exact⟨[],j0N he⟩
      |vc _ b c n hd=>rw[h1]at hd;cases hd
      cases hr with
      |vcn _ ad hd=>rw[h1]at hd;cases hd
      |vc _ b' c' n' hd=>
        rw[h1]at hd;cases hd
        have hrow:=f0u h6 h9
        rcases hc with hc|hc
        subst hc;exact⟨vs,n0k he hrow h7 hp⟩
        subst hc
        have hv0:vs=[]:=ao (by simpa using h7)
        subst hv0
        have hc0:cs=[]:=ao h9.len
        subst hc0
        exact⟨[],j0N he⟩
    cases hs
  · rename_i j off n k'
    obtain⟨e,he⟩:=l0f (λbs=>by simp) hty
    split at hs
    · rename_i cs' hj
      split at hs<;>cases hs
      rename_i hc
      obtain⟨hk',hle,hp⟩:=hc
      subst hk'
      obtain⟨b,vs,e',h1,h2,h3,h4⟩:=hi.ent j _ hj
      cases hr with
      |sl _ _ _ _ b' c' m' cap hd hcap=>
        rw[h1]at hd;cases hd
        have hrow:=(f0u (rest:=[]) (by simpa using h3) h4)
        have hrow':=(hrow.drop off).take (m*k')
        rw[aW]at hrow'
        have hvl:=h4.len
        exact⟨_,n0k he hrow' (by simp only[aJ,bc];omega) hp⟩
    cases hs
  cases hs
theorem l0V(t tx ty e:TypeId)(i:TypeInfo)(ht:P.underlying t=some (.slice e))(hi:P.info? e=some i)
    (g sLen sCap:Nat) (cur:Array Value) (e':TypeId) (hg:w.heap[g]?=some (.cells cur e' (0,0))) (x:Value) (m:Nat) (news:List Value) (hs:Src P i.size tx x m news w)
    (hroom:sLen+m<=sCap) (hfit:sLen*i.size+news.length<=cur.size):
    (Builtin.append_ #[t,tx] ty #[.slice (some ⟨g,0,none⟩) sLen sCap,x]).run P w=
      .ok (.slice (some ⟨g,0,none⟩) (sLen+m) sCap) (w.setRow g (cur.toList.take (sLen*i.size)++news++cur.toList.drop (sLen*i.size+news.length)).toArray):=by
  have hst:=run_storeCells_at P g (sLen*i.size) e' news 0 cur w hg (by simpa using hfit) hs.one
  simp only[Nat.add_zero]at hst
  rcases hs.kind with⟨e2,hk⟩|hk<;>simp[Builtin.append_,run_underlying ht,run_underlying hk,sizeOf,typeInfo,hi,hs.len,hroom,hs.cells,Addr.add_lit,hst]
theorem s0i {α:Type} (zs:List α): ∀(n j:Nat),j<n*zs.length->(List.replicate n zs).flatten[j]?=zs[j%zs.length]?:=by
  intro n
  induction n with
  |zero=>intro j hj;omega
  |succ n ih=>
    intro j hj
    rw[List.replicate_succ,List.flatten_cons,aD]
    split
    rename_i hlt;rw[Nat.mod_eq_of_lt hlt]
    · rename_i hge
      rw[ih (j-zs.length) (by rw[bp]at hj;omega)]
      conv=>rhs;rw[Nat.mod_eq_sub_mod (show j≥zs.length by omega)]
theorem s0h {α:Type} (zs:List α)(n:Nat):(List.replicate n zs).flatten.length=n*zs.length:=by
  simp
theorem n0c {zs:List SV} (h:b0f zs=true)(m:Nat):b0f (List.replicate m zs).flatten=true:=by
  refine List.all_eq_true.2 λc hc=> ?_
  obtain⟨l,hl,hcl⟩:=List.mem_flatten.1 hc
  obtain⟨_,rfl⟩:=List.mem_replicate.1 hl
  exact List.all_eq_true.1 h c hcl
theorem o0K {z:Array Value} {zs:List SV} (hcr:CR w K D z.toList zs)(hk:0<zs.length)(m:Nat):
    CR w K D ((Array.range (m*zs.length)).map (z[· %z.size]!)).toList (List.replicate m zs).flatten:=by
  have hzl:z.size=zs.length:=by simpa using hcr.len.symm
  have hget: ∀j v,((Array.range (m*zs.length)).map (z[· %z.size]!)).toList[j]?=some v->j<m*zs.length/\z.toList[j%z.size]?=some v:=by
    intro j v hv
    rw[bS,Array.getElem?_map,Array.getElem?_range]at hv
    split at hv
    rename_i hj
    cases hv
    have hmz:j%z.size<z.size:=by rw[hzl];exact Nat.mod_lt _ hk
    exact⟨hj,by rw[bS,aN hmz];exact congrArg some (getElem!_pos z _ hmz).symm⟩
    cases hv
  refine⟨by simp,λv hv=> ?_,λj v c hv hc=> ?_⟩
  obtain⟨j,hj⟩:=aY.1 hv
  exact hcr.one v (aA (hget j v hj).2)
  obtain⟨h1,h2⟩:=hget j v hv
  rw[s0i zs m j h1,<-hzl]at hc
  exact hcr.rep _ v c h2 hc
theorem l0U(t tx ty e:TypeId)(i:TypeInfo)(z:Value)(ik:IntKind)(ht:P.underlying t=some (.slice e))(hi:P.info? e=some i)(hz:i.zero=some z)(hk:P.underlying tx=some (.int ik))(hs0:0<i.size)
    (g sLen sCap:Nat) (cur:Array Value) (e':TypeId) (hg:w.heap[g]?=some (.cells cur e' (0,0))) (kk:IntKind) (m:Nat) (news:List Value) (hn:(Builtin.zeroCells z.cells m).toList=news) (h1: ∀u∈news,u.oneCell'=true)
    (hw:IntKind.i64.wrap (m:Int)=m) (hby: ¬(281474976710656<(m:Int)*i.bytes))
    (hroom:sLen+m<=sCap) (hfit:sLen*i.size+news.length<=cur.size):
    (Builtin.append_ #[t,tx] ty #[.slice (some ⟨g,0,none⟩) sLen sCap, .int kk m]).run P w=
      .ok (.slice (some ⟨g,0,none⟩) (sLen+m) sCap) (w.setRow g (cur.toList.take (sLen*i.size)++news++cur.toList.drop (sLen*i.size+news.length)).toArray):=by
  have hst:=run_storeCells_at P g (sLen*i.size) e' news 0 cur w hg (by simpa using hfit) h1
  simp only[Nat.add_zero]at hst
  have hneg: ¬((m:Int)<0):=by omega
  by_cases hm:m=0
  subst hm
  have hn0:news=[]:=by rw[<-hn];apply ao;simp[Builtin.zeroCells]
  subst hn0
  have hw0:IntKind.i64.wrap 0=0:=by decide
  have hr0:sLen<=sCap:=hroom
  simp[Builtin.append_,run_underlying ht,run_underlying hk,sizeOf,typeInfo,hi,asInt,asIntOf,hw0,hr0,storeCells,Addr.add_lit]at hst⊢
  exact hst
  · have hmm: ¬(m*i.size=0):=by intro h0;rcases Nat.mul_eq_zero.1 h0 with h0|h0<;>omega
    have hm2: ¬(m=0\/i.size=0):=by omega
    simp[Builtin.append_,run_underlying ht,run_underlying hk,sizeOf,typeInfo,zeroValue,hi,hz,asInt,asIntOf,hw,hneg,hby,hroom,hmm,hn,Addr.add_lit,hst]
theorem l0W(t tx ty e:TypeId)(i:TypeInfo)(z:Value)(ik:IntKind)(ht:P.underlying t=some (.slice e))(hi:P.info? e=some i)(hz:i.zero=some z)(hk:P.underlying tx=some (.int ik))(hs0:0<i.size)(base:Option Addr)(sLen sCap:Nat)(olds:List Value)
    (hold:(Builtin.firstCells i.size sLen (.slice base sLen sCap)).run P w.drew= .ok olds.toArray w.drew) (kk:IntKind) (m:Nat) (news:List Value) (hn:(Builtin.zeroCells z.cells m).toList=news)
    (hw:IntKind.i64.wrap (m:Int)=m) (hby: ¬(281474976710656<(m:Int)*i.bytes))
    (hg:sCap<sLen+m) (h63:((sLen+m:Nat):Int)<=9223372036854775807) (hfit:Builtin.nextslicecap (sLen+m) sCap*i.bytes<=281474976710656):
    (Builtin.append_ #[t,tx] ty #[.slice base sLen sCap, .int kk m]).run P w=
      .ok (.slice (some ⟨w.heap.size,0,none⟩) (sLen+m) (grownCap w (sLen+m) sCap e))
        (w.drew.alloc (.cells ((olds++news).toArray++Builtin.zeroCells z.cells (grownCap w (sLen+m) sCap e-(sLen+m))) e)):=by
  have hnr: ¬(sLen+m<=sCap):=by omega
  have h63': ¬(9223372036854775807<((sLen:Int)+(m:Int))):=by omega
  have h48': ¬(281474976710656<Builtin.nextslicecap (sLen+m) sCap*i.bytes):=by omega
  have hneg: ¬((m:Int)<0):=by omega
  by_cases hm:m=0
  subst hm
  have hn0:news=[]:=by rw[<-hn];apply ao;simp[Builtin.zeroCells]
  subst hn0
  have hw0:IntKind.i64.wrap 0=0:=by decide
  have hnr': ¬(sLen<=sCap):=hnr
  have h63'': ¬(9223372036854775807<(sLen:Int)):=by omega
  simp[Builtin.append_,run_underlying ht,run_underlying hk,sizeOf,typeInfo,zeroValue,hi,hz,asInt,asIntOf,hw0,hnr',h63'',h48',Question.forced,hold,newRow,grownCap]
  intro hbad;exact absurd hbad h48'
  · have hmm: ¬(m*i.size=0):=by intro h0;rcases Nat.mul_eq_zero.1 h0 with h0|h0<;>omega
    have hm2: ¬(m=0\/i.size=0):=by omega
    simp[Builtin.append_,run_underlying ht,run_underlying hk,sizeOf,typeInfo,zeroValue,hi,hz,asInt,asIntOf,hw,hneg,hby,hnr,hmm,h63',h48',Question.forced,hold,newRow,grownCap]
    congr 2
    apply Array.ext'
    simp[bP,hn]
theorem RoomE.le {e m n:Nat} (h:RoomE P e n)(hm:m<=n):RoomE P e m:=by
  rcases h with h|⟨h1,h2⟩
  exact .inl (by unfold u0z at*;omega)
  exact .inr ⟨h1,by omega⟩
structure y0s (P:Program) (w:World) (K:Nat->Nat) (D:DM) (t tx ty e:TypeId) (i:TypeInfo) (z:Value) (y:Value) (m:Nat) (news:List Value) (cs:List SV):Prop where
  newsLen:news.length=m*i.size
  cr:CR w K D news cs
  plain:b0f cs=true
  nil0:m=0-> ∀ad,(Builtin.append_ #[t,tx] ty #[.slice ad 0 0,y]).run P w= .ok (.slice ad 0 0) w
  room: ∀(g sLen sCap:Nat) (cur:Array Value) (e':TypeId),w.heap[g]?=some (.cells cur e' (0,0))->sLen+m<=sCap->sLen*i.size+news.length<=cur.size->
    (Builtin.append_ #[t,tx] ty #[.slice (some ⟨g,0,none⟩) sLen sCap,y]).run P w=
      .ok (.slice (some ⟨g,0,none⟩) (sLen+m) sCap) (w.setRow g (cur.toList.take (sLen*i.size)++news++cur.toList.drop (sLen*i.size+news.length)).toArray)
  grow: ∀(base:Option Addr) (sLen sCap:Nat) (olds:List Value),(Builtin.firstCells i.size sLen (.slice base sLen sCap)).run P w.drew= .ok olds.toArray w.drew->sCap<sLen+m->
    ((sLen+m:Nat):Int)<=9223372036854775807->Builtin.nextslicecap (sLen+m) sCap*i.bytes<=281474976710656->
    (Builtin.append_ #[t,tx] ty #[.slice base sLen sCap,y]).run P w=
      .ok (.slice (some ⟨w.heap.size,0,none⟩) (sLen+m) (grownCap w (sLen+m) sCap e))
        (w.drew.alloc (.cells ((olds++news).toArray++Builtin.zeroCells z.cells (grownCap w (sLen+m) sCap e-(sLen+m))) e))
theorem SrcAt.app {k m:Nat} {t tx ty e:TypeId} {i:TypeInfo} {z y:Value} {news:List Value} {cs:List SV} (hs:SrcAt P w K D k tx y m news cs)(ht:P.underlying t=some (.slice e))(hi:P.info? e=some i)(hz:i.zero=some z)(hk:i.size=k):
    y0s P w K D t tx ty e i z y m news cs:=by
  subst hk
  refine⟨hs.src.newsLen,hs.cr,hs.plain,λhm ad=> ?_,λg sLen sCap cur e' hg hr hf=>l0V t tx ty e i ht hi g sLen sCap cur e' hg y m news hs.src hr hf,
    λbase sLen sCap olds hold hg h63 hfit=>run_append_grow_src w t tx ty e i z ht hi hz base sLen sCap olds hold y m news hs.src hg h63 hfit⟩
  subst hm
  have hn:news=[]:=ao (by have:=hs.src.newsLen;simpa using this)
  subst hn
  have hc':=hs.src.cells
  cases ad<;>rcases hs.src.kind with⟨e2,hk2⟩|hk2<;>
    simp[Builtin.append_,run_underlying ht,run_underlying hk2,sizeOf,typeInfo,hi,hs.src.len,hc',storeCells]
theorem w0Z {m:Nat} (h:m<=140737488400000):IntKind.i64.wrap (m:Int)=m:=by
  unfold IntKind.wrap
  simp only[IntKind.signed,IntKind.bits,Bool.true_and,Bool.false_and,aH,if_false,decide_eq_true_eq]
  first|omega|(split<;>rename_i hc<;>simp at hc<;>omega)
theorem z0S {t tx ty e:TypeId} {i:TypeInfo} {z:Value} {ik kk:IntKind} {m:Nat} {zs:List SV} (ht:P.underlying t=some (.slice e))(hi:P.info? e=some i)(hz:i.zero=some z)(hx:P.underlying tx=some (.int ik))(hk0:0<i.size)(hzs:z.cells.size=i.size)
    (hs:m0I P e=some zs) (hp:b0f zs=true) (hrm:RoomE P e m) (hby:i.bytes<=4096):
    y0s P w K D t tx ty e i z (.int kk m) m (Builtin.zeroCells z.cells m).toList (List.replicate m zs).flatten:=by
  obtain⟨i',z',hi',hz',hl,hc,_,hcr⟩:=j0U hs
  rw[hi]at hi';cases hi'
  rw[hz]at hz';cases hz'
  have hm63:m<=140737488400000:=by
    rcases hrm with hr|hr
    unfold u0z at hr;omega
    exact hr.2
  have hmb: ¬(281474976710656<(m:Int)*i.bytes):=by
    rcases hrm with hr|⟨hr,hr2⟩
    unfold u0z at hr
    have:m*i.bytes<=4294967296*4096:=Nat.mul_le_mul hr hby
    rw[<-Int.natCast_mul];omega
    unfold k0g at hr
    rw[hi]at hr
    have hr:=eq_of_beq hr
    rw[hr];omega
  have hw:=w0Z hm63
  have hcrm:=o0K (hcr w K D) (by omega) m
  have hzz:z.cells.size=zs.length:=by omega
  have hnews:(Builtin.zeroCells z.cells m).toList=((Array.range (m*zs.length)).map (z.cells[· %z.cells.size]!)).toList:=by
    unfold Builtin.zeroCells;rw[hzz]
  rw[<-hnews]at hcrm
  refine⟨by rw[bJ,size_zeroCells,hzs],hcrm,n0c hp m,λhm ad=> ?_,λg sLen sCap cur e' hg hr hf=>l0U t tx ty e i z ik ht hi hz hx hk0 g sLen sCap cur e' hg kk m _ rfl hcrm.one hw hmb hr hf,
    λbase sLen sCap olds hold hg h63 hfit=>l0W t tx ty e i z ik ht hi hz hx hk0 base sLen sCap olds hold kk m _ rfl hw hmb hg h63 hfit⟩
  subst hm
  have hw0:IntKind.i64.wrap 0=0:=by decide
  cases ad<;>simp[Builtin.append_,run_underlying ht,run_underlying hx,sizeOf,typeInfo,hi,asInt,asIntOf,hw0,storeCells]
theorem u0W(h:HInv w K D H) {k m:Nat} {t tx ty e:TypeId} {i:TypeInfo} {z y:Value} {sy:SV} {cs:List SV} {rd:List Nat} (ht:P.underlying t=some (.slice e))(hi:P.info? e=some i)(hz:i.zero=some z)(hzs:z.cells.size=i.size)(hk:i.size=k)(hk0:0<k)(hby:i.bytes<=4096)
    (hr:Rep w K D y sy) (hs:t0B P e k tx sy H=some (m,cs,rd)) (hp:A0V sy=true) (hrm:RoomE P e m): ∃news,y0s P w K D t tx ty e i z y m news cs:=by
  unfold t0B at hs
  split at hs
  · rename_i kk l
    split at hs
    · rename_i ik zs hx hzz
      split at hs<;>cases hs
      rename_i hc
      cases hr
      have hl:(0:Int)<=l:=of_decide_eq_true hp
      have hl2:l=(l.toNat:Int):=by omega
      rw[show Value.int kk l=Value.int kk (l.toNat:Int) by rw[<-hl2]]
      exact⟨_,z0S ht hi hz hx (by omega) hzs hzz hc.1 hrm hby⟩
    cases hs
  split at hs
  rename_i hst
  obtain⟨news,hsrc⟩:=p0X (P:=P) (tx:=tx) h hk0 hr hs hst
  exact⟨news,hsrc.app ht hi hz hk⟩
  cases hs
theorem k0Z(h:HInv w K D H) {idx:Nat} (hidx:CanNew H idx)(x:Option Nat)(hx:x≠some idx) {e k m sLen sCap:Nat} {base:Option Addr} {y:Value} {olds news:List Value} {cs cs2:List SV} {t tx ty:TypeId} {i:TypeInfo} {z:Value}
    (ht:P.underlying t=some (.slice e)) (hi:P.info? e=some i) (hz:i.zero=some z) (hzs:z.cells.size=i.size) (hk:i.size=k) (hk0:0<k) (hby:i.bytes<=4096)
    (hold:(Builtin.firstCells i.size sLen (.slice base sLen sCap)).run P w.drew= .ok olds.toArray w.drew) (hol:olds.length=sLen*k) (hco:CR w K D olds cs) (hpo:b0f cs=true)
    (hsrc:y0s P w K D t tx ty e i z y m news cs2) (hrm:RoomE P e (sLen+m)) (hlt:sCap<sLen+m):
    ∃v' w',(Builtin.append_ #[t,tx] ty #[.slice base sLen sCap,y]).run P w= .ok v' w'/\Good w K D H v' w' (.vc idx) (g0m (g0p H x) idx (.vec (sLen+m) k e (cs++cs2))):=by
  subst hk
  have hnl:news.length=m*i.size:=hsrc.newsLen
  have hsz:sLen+m<=140737488400000:=by
    rcases hrm with hr|hr
    unfold u0z at hr;omega
    exact hr.2
  have hb:((sLen+m)+(sLen+m)/4+192)*i.bytes<=281474976710656:=by
    rcases hrm with hr|⟨hr,hr2⟩
    unfold u0z at hr
    exact aI (Nat.mul_le_mul (show(sLen+m)+(sLen+m)/4+192<=5368709312 by omega) hby) (by decide)
    unfold k0g at hr
    rw[hi]at hr
    have hr:=eq_of_beq hr
    rw[hr];omega
  have hrun:=hsrc.grow base sLen sCap olds hold hlt (by omega) (growslice_fits_wide (by omega) hb)
  have hge:=grownCap_ge w (sLen+m) sCap e
  have hcm:=grownCap_le_maxLen w (sLen+m) sCap e (by unfold maxLen;omega)
  have hzl:(Builtin.zeroCells z.cells (grownCap w (sLen+m) sCap e-(sLen+m))).toList.length=(grownCap w (sLen+m) sCap e-(sLen+m))*i.size:=by
    rw[bJ,size_zeroCells,hzs]
  have hpl:b0f (cs++cs2)=true:=by simp only[b0f,bL,aa];exact⟨hpo,hsrc.plain⟩
  refine⟨_,_,hrun,r0T (L:=(olds++news).toArray++Builtin.zeroCells z.cells (grownCap w (sLen+m) sCap e-(sLen+m))) (vs:=olds++news) (rest:=(Builtin.zeroCells z.cells (grownCap w (sLen+m) sCap e-(sLen+m))).toList) h hidx x hx (hco.append hsrc.cr) hpl
    (Array.ext' (by simp)) rfl rfl rfl rfl hk0 (by rw[ay,hol,hnl,bZ]) hge ?_ hcm⟩
  rw[ay,ay,hzl,hol,hnl,<-bZ,<-bZ]
  congr 1;omega
theorem w0N(h:HInv w K D H)(hs:Slots n w K D ρ a.tmps) {c:Call} (ho:o.op= .call c)(hcal:c.callee= .builtin .append)(hb: ∀x∈c.args,Operand.inB n x=true) {idx:Nat} (hidx:CanNew H idx) {ef:Eff}
    (he:j0S P c ρ H idx=some ef):m0w P w K D H o a ef.v (b0t H ef.wr):=by
  unfold j0S at he
  split at he
  · rename_i x y t tx hargs htys
    have ha:c.args= #[x,y]:=by rw[<-be];exact hargs
    have hty:c.argTypes= #[t,tx]:=by rw[<-be];exact htys
    have hxb:=hb x (by rw[ha];simp)
    have hyb:=hb y (by rw[ha];simp)
    have hrun: ∀r w',(Builtin.append_ #[t,tx] o.type #[a.eval x,a.eval y]).run P w= .ok r w'->(execOp a.eval o).run P w= .ok (.value r) w':=λr w' hr=>by
      unfold execOp
      simp only[ho,resolve,hcal,ha,hty,invoke,builtin,Sem.run_bind,Sem.run_pure,Result.andThen_ok,bI,aj,aF,hr]
    split at he
    · rename_i e sy hu hxe hye
      split at he
      · rename_i m cs2 rd hsc
        split at he<;>cases he
        rename_i hc
        obtain⟨hok,hst,hrm⟩:=hc
        obtain⟨i,z,hi,hz,hzs,hk,hk0,hby⟩:=e0L hok
        obtain⟨news,hsrc⟩:=u0W (P:=P) (ty:=o.type) h hu hi hz hzs hk hk0 hby (a0e hs hyb hye) hsc hst (RoomE.le hrm (by omega))
        have hrx:=a0e hs hxb hxe
        generalize hvx:a.eval x=vx at hrx
        cases hrx with
        |nl ad=>
          simp only[b0t]
          by_cases hm:m=0
          subst hm
          have hn:news=[]:=ao (by have:=hsrc.newsLen;simpa using this)
          subst hn
          have hc2:cs2=[]:=ao hsrc.cr.len
          subst hc2
          obtain⟨g,hiv⟩:=n0s h hidx none (by simp) (P.cellsOf e) e
          rw[e0T]at g hiv
          refine⟨.slice ad 0 0,w, .inl (hrun _ _ ?_),⟨K,_,g,hiv, ?_⟩⟩
          rw[hvx];exact hsrc.nil0 rfl ad
          exact .vcn idx ad (by simp[e0E])
          have hold:(Builtin.firstCells i.size 0 (.slice ad 0 0)).run P w.drew= .ok ([]:List Value).toArray w.drew:=by
            cases ad with
            |none=>exact run_firstCells_none w.drew i.size 0 0 0
            |some b=>exact run_firstCells_some w.drew i.size 0 b 0 0 [] (by simp) (λj u hu=>by simp at hu)
          obtain⟨v',w',h1,h2⟩:=k0Z (P:=P) (ty:=o.type) h hidx none (by simp) hu hi hz hzs hk hk0 hby hold (by simp) CR.nil rfl hsrc (by rw[aW];exact hrm) (by omega)
          rw[aW,cd,e0T]at h2
          exact⟨v',w', .inl (hrun _ _ (by rw[hvx];exact h1)),h2⟩
      cases he
    · rename_i e i0 sy hu hxe hye
      split at he
      · rename_i nn k e' cs hH
        split at he
        · rename_i m cs2 rd hsc
          split at he<;>cases he
          rename_i hc
          obtain⟨rfl,hok,hst,hrm⟩:=hc
          obtain⟨i,z,hi,hz,hzs,hk,hk0,hby⟩:=e0L hok
          obtain⟨news,hsrc⟩:=u0W (P:=P) (ty:=o.type) h hu hi hz hzs hk hk0 hby (a0e hs hyb hye) hsc hst (RoomE.le hrm (by omega))
          have hrx:=a0e hs hxb hxe
          generalize hvx:a.eval x=vx at hrx
          have hne:i0≠idx:=by
            rintro rfl
            rcases hidx with hq|hq
            rw[hq,aw (ai _)]at hH;cases hH
            rw[hq]at hH;cases hH
          have hil:i0<H.length:=(ab.1 hH).1
          have hkill:b0t H [(i0,Ent.gone),(idx, .vec (nn+m) k e (cs++cs2))]=g0m (g0p H (some i0)) idx (.vec (nn+m) k e (cs++cs2)):=by
            simp only[b0t,g0p]
            rw[show g0m H i0 .gone=H.set i0 .gone from by unfold g0m;rw[if_pos hil]]
          simp only[hkill]
          obtain⟨hpo,hent⟩:=h.ent i0 _ hH
          rcases hent with⟨h1,h2,h3⟩|⟨b,cp,vs,rest,h1,h2,h3,h4,h5,h6,h7,h8,h9⟩
          subst h2;subst h3
          cases hrx with
          |vc _ b c n hd=>rw[h1]at hd;cases hd
          |vcn _ ad hd=>
            by_cases hm:m=0
            subst hm
            have hn:news=[]:=ao (by have:=hsrc.newsLen;simpa using this)
            subst hn
            have hc2:cs2=[]:=ao hsrc.cr.len
            subst hc2
            obtain⟨g,hiv⟩:=n0s h hidx (some i0) (by simpa using hne) k e
            refine⟨.slice ad 0 0,w, .inl (hrun _ _ ?_),⟨K,_,g,hiv, .vcn idx ad (by simp[e0E])⟩⟩
            rw[hvx];exact hsrc.nil0 rfl ad
            have hold:(Builtin.firstCells i.size 0 (.slice ad 0 0)).run P w.drew= .ok ([]:List Value).toArray w.drew:=by
              cases ad with
              |none=>exact run_firstCells_none w.drew i.size 0 0 0
              |some b=>exact run_firstCells_some w.drew i.size 0 b 0 0 [] (by simp) (λj u hu=>by simp at hu)
            obtain⟨v',w',g1,g2⟩:=k0Z (P:=P) (ty:=o.type) h hidx (some i0) (by simpa using hne) hu hi hz hzs hk hk0 hby hold (by simp) CR.nil rfl hsrc hrm (by omega)
            exact⟨v',w', .inl (hrun _ _ (by rw[hvx];exact g1)),g2⟩
          cases hrx with
          |vcn _ ad hd=>rw[h1]at hd;cases hd
          |vc _ b' c' n' hd=>
            rw[h1]at hd;cases hd
            have hrow:=f0u h6 h9
            by_cases hroom:nn+m<=cp
            subst hk
            have hnl:news.length=m*i.size:=hsrc.newsLen
            have hnm:(nn+m)*i.size<=cp*i.size:=aQ _ hroom
            rw[bZ]at hnm
            have hrl:rest.length=cp*i.size-nn*i.size:=by rw[<-h8,ay,h7];omega
            have hfit:nn*i.size+news.length<=(vs++rest).toArray.size:=by rw[hnl];simp only[List.size_toArray,h8];omega
            have hrun1:=hsrc.room b nn cp (vs++rest).toArray e h6 hroom hfit
            have hnew:=setRow_heap w b (vs++rest).toArray ((vs++rest).toArray.toList.take (nn*i.size)++news++(vs++rest).toArray.toList.drop (nn*i.size+news.length)).toArray e _ h6
            have hrw:((vs++rest).toArray.toList.take (nn*i.size)++news++(vs++rest).toArray.toList.drop (nn*i.size+news.length)).toArray=((vs++news)++rest.drop news.length).toArray:=by
              congr 1
              simp only[]
              rw[<-h7,List.take_left,List.drop_append,bD (by omega),cd]
              congr 2;omega
            rw[hrw]at hrun1 hnew
            generalize hw':w.setRow b ((vs++news)++rest.drop news.length).toArray=w' at hrun1 hnew
            have hother: ∀c,c≠b->w'.heap[c]?=w.heap[c]?:=λc hcb=>by rw[<-hw'];exact setRow_other w b c _ hcb
            obtain⟨g,hiv⟩:=place (w':=w') (en:= .vec (nn+m) i.size e (cs++cs2)) (b:=b) (c:=cp) (m:=nn+m) h hidx (x:=some i0) (by simpa using hne) (.inr ⟨i0,_,cp,nn,rfl,hH,rfl,h1⟩)
              (by rw[<-hw'];rfl) (by rw[<-hw'];rfl) (by rw[<-hw'];rfl) (by rw[<-hw'];simp) (λb' hb' _=>hother b' hb')
              (λhr=>⟨by simp only[b0f,bL,aa];exact⟨hpo,hsrc.plain⟩, .inr ⟨b,cp,vs++news,rest.drop news.length,by simp[e0E],h2,hk0,hroom,h5,hnew,
                by rw[ay,h7,hnl,bZ],by simp only[ay,bc,h7,hnl,hrl];omega,(h9.append hsrc.cr).mono hr⟩⟩)
            exact⟨_,w', .inl (hrun _ _ (by rw[hvx];exact hrun1)),⟨K,_,g,hiv, .vc idx b cp (nn+m) (by simp[e0E])⟩⟩
            obtain⟨v',w',g1,g2⟩:=k0Z (P:=P) (ty:=o.type) h hidx (some i0) (by simpa using hne) hu hi hz hzs hk hk0 hby
              (run_firstCells_some w.drew i.size nn ⟨b,0,none⟩ nn cp vs (by rw[hk];exact h7) (λj u hu=>by rw[add_lit];exact hrow.mem j u hu)) h7 h9 hpo hsrc hrm (by omega)
            exact⟨v',w', .inl (hrun _ _ (by rw[hvx];exact g1)),g2⟩
        cases he
      cases he
    cases he
  cases he
end
end
section
variable [Inhabited GT]
def byteOf:SV->UInt8
  | .int _ n=>UInt8.ofNat n.toNat
  |_=>0
def i0z:SV->Bool
  | .int .u8 _=>true
  |_=>false
def j0w:SV->Bool
  | .int .i32 _=>true
  |_=>false
def runeB:SV->List UInt8
  | .int _ n=>(Utf8.encode n).data.toList
  |_=> []
def v0G(big:Bool)(k:IntKind)(acc:Int)(ρ:Env):List Operand->Option SV
  | []=>some (.int k acc)
  |y::r=>match a0F ρ y with
    |some (.int k' b)=>if k=k' then v0G big k (if big then(if acc<b then b else acc)else(if b<acc then b else acc)) ρ r else none
    |_=>none
/-! Structs and arrays that are compared. -/
def B0C(P:Program)(f:TypeId->SV->SV->Option Bool)(xs ys:List SV):List Field->Option Bool
  | []=>some true
  | fd :: r => if fd.name ≠ "_" then (match b0j P fd.type (xs.drop fd.offset), b0j P fd.type (ys.drop fd.offset) with
      |some a,some b=>match f fd.type a b,B0C P f xs ys r with
        |some p,some q=>some (p&&q)
        |_,_=>none
      |_,_=>none)else B0C P f xs ys r
def C0a(P:Program)(f:SV->SV->Option Bool)(e k:Nat)(xs ys:List SV):Nat->Nat->Option Bool
  |0,_=>some true
  |m+1,i=>match b0j P e (xs.drop (i*k)),b0j P e (ys.drop (i*k))with
    |some a,some b=>match f a b,C0a P f e k xs ys m (i+1)with
      |some p,some q=>some (p&&q)
      |_,_=>none
    |_,_=>none
def eqS(P:Program):Nat->TypeId->SV->SV->Option Bool
  |0,_,_,_=>none
  |d+1,t,a,b=>match P.underlying t,a,b with
    |some .bool, .bool x, .bool y=>some (x==y)
    |some (.int _), .int k x, .int k' y=>if k=k' then some (decide (x=y))else none
    |some .string, .str x, .str y=>some (x==y)
    |some (.struct fs), .agg xs, .agg ys=>if P.stoodInHeld t=false then B0C P (eqS P d) xs ys fs.toList else none
    |some (.array len e), .agg xs, .agg ys=>if 0<P.cellsOf e then C0a P (eqS P d e) e (P.cellsOf e) xs ys len 0 else none
    |_,_,_=>none
def r0f(P:Program):Nat->TypeId->SV->Bool
  |0,_,_=>false
  |d+1,t,a=>match P.underlying t,a with
    | some (.struct fs), .agg cs => fs.toList.all λf => (f.name == "_") || (match b0j P f.type (cs.drop f.offset) with
      |some b=>r0f P d f.type b
      |none=>false)
    |some (.array len e), .agg cs=>(decide (0<P.cellsOf e))&&(List.range' 0 len).all λi=>(match b0j P e (cs.drop (i*P.cellsOf e))with
      |some b=>r0f P d e b
      |none=>false)
    |some (.int _), .int _ _=>true
    |some .string, .str _=>true
    |some .bool, .bool _=>true
    |_,_=>false
def i0M(P:Program)(kt:TypeId)(k:SV):List (SV×SV)->Option (Option SV)
  | []=>some none
  |e::r=>match eqS P 9 kt k e.1 with
    |some true=>some (some e.2)
    |some false=>i0M P kt k r
    |none=>none
/-! Maps. -/
def e0F:SV->SV->Option Bool
  | .int k a, .int k' b=>if k=k' then some (a==b)else none
  | .str a, .str b=>some (a==b)
  | .bool a, .bool b=>some (a==b)
  |_,_=>none
def e0J:List (SV×SV)->SV->Option (Option SV)
  | [],_=>some none
  |e::r,k=>match e0F k e.1 with
    |some true=>some (some e.2)
    |some false=>e0J r k
    |none=>none
def x0e:List (SV×SV)->SV->SV->List (SV×SV)
  | [],_,_=> []
  |e::r,k,v=>match e0F k e.1 with
    |some true=>(e.1,v)::r
    |_=>e::x0e r k v
def n0C(P:Program)(kt:TypeId)(s:SV):Bool:=
  match P.underlying kt,s with
  |some (.int k), .int k' _=>decide (k=k')
  |some .string, .str _=>true
  |some .bool, .bool _=>true
  |_,_=>false
def y0K(P:Program)(t:TypeId):Bool:=match P.underlying t with
  |some (.struct _)=>true
  |some (.array _ _)=>true
  |_=>false
def n0D(P:Program)(kt:TypeId)(s:SV):Bool:=match s with
  | .agg cs=>y0K P kt&&r0f P 9 kt (.agg cs)
  |s=>n0C P kt s
def k0N(P:Program)(kt:TypeId)(es:List (SV×SV))(k:SV):Option (Option SV):=match k with
  | .agg cs=>i0M P kt (.agg cs) es
  |k=>e0J es k
def t0v(P:Program)(t:TypeId):Option SV:=
  match P.info? t with
  |some i=>match i.zero with
    |some z=>some ((j0O z).getD .undef)
    |none=>none
  |none=>none
def i0w(ok:Bool)(v:SV)(b:Bool):SV:=if ok then .tup [v, .bool b]else v
def i0i(P:Program)(t:TypeId)(sm sk sv:Option SV)(H:a0f):Option Eff:=
  match P.underlying t,sm,sk,sv with
  |some (.map kt _),some (.mp i),some k,some v=>match H[i]? with
    |some (.map es)=>if n0D P kt k=true then(match k0N P kt es k with
      |some none=>some ⟨.undef,[i],[(i, .map (es++ [(k,v)]))]⟩
      |some (some _)=>(match k with
        | .int _ _=>some ⟨.undef,[i],[(i, .map (x0e es k v))]⟩
        |_=>none)
      |none=>none)else none
    |_=>none
  |_,_,_,_=>none
def h0E(P:Program)(t:TypeId)(sm sk:Option SV)(ok:Bool)(H:a0f):Option Eff:=
  match P.underlying t,sm,sk with
  |some (.map kt et),some (.mp i),some k=>match H[i]? with
    |some (.map es)=>if n0D P kt k=true then(match k0N P kt es k,t0v P et with
      |some (some v),_=>some ⟨i0w ok v true,[i],[]⟩
      |some none,some z=>some ⟨i0w ok z false,[i],[]⟩
      |_,_=>none)else none
    |_=>none
  |_,_,_=>none
def eqE(P:Program)(op:BinOp)(t:TypeId)(sa sb:Option SV):Option Eff:=
  match op,sa,sb with
  | .eql,some (.agg xs),some (.agg ys)=>if P.eqGuardType P.depth t=false then(eqS P 9 t (.agg xs) (.agg ys)).map λb=>⟨.bool b,[],[]⟩else none
  | .neq,some (.agg xs),some (.agg ys)=>if P.eqGuardType P.depth t=false then(eqS P 9 t (.agg xs) (.agg ys)).map λb=>⟨.bool (!b),[],[]⟩else none
  |_,_,_=>none
def z0T:Value->Int
  | .int _ n=>n
  |_=>0
def e0R(s:List UInt8):List Int:=(Conv.runesFrom ⟨s.toArray⟩ s.length 0 #[]).toList.map z0T
def o0m(n:Int):SV:= .int .i32 n
def a0q(P:Program)(o:Oper)(ρ:Env)(H:a0f)(idx:Nat):Option Eff:=
  match o.op with
  | .box _ x=>match(a0F ρ x).bind SV.cells? with
    |some cs=>some ⟨.ptr idx 0,[],[(idx, .box cs)]⟩
    |none=>none
  | .alloc t=>match m0I P t with
    |some cs=>some ⟨.ptr idx 0,[],[(idx, .box cs)]⟩
    |none=>none
  | .load t x=>match a0F ρ x with
    |some (.ptr i off)=>match(H[i]?).bind b0F with
      |some cs=>(b0j P t (cs.drop off)).map λv=>⟨v,[i],[]⟩
      |none=>none
    |_=>none
  | .store t x y=>match a0F ρ x,(a0F ρ y).bind SV.cells? with
    |some (.ptr i off),some ps=>match H[i]? with
      |some en=>match b0F en with
        |some cs=>if ps.length=P.cellsOf t/\0<ps.length/\off+ps.length<=cs.length/\(z0Q en=true->b0f ps=true)then some ⟨.undef,[i],[(i,r0b en (splice cs off ps))]⟩else none
        |none=>none
      |none=>none
    |_,_=>none
  | .indexAddr t x y=>match P.underlying t,a0F ρ x,a0F ρ y with
    |some (.slice e),some (.vc i),some (.int _ j)=>match H[i]? with
      |some (.vec n k _ _)=>if k=P.cellsOf e/\0<k/\0<=j/\j<n then some ⟨.ptr i (j.toNat*k),[i],[]⟩else none
      |_=>none
    |_,_,_=>none
  | .slice t x lo hi mx=>match P.underlying t,a0F ρ x,lo,mx with
    |some (.array len e),some (.ptr i off),none,none=>match g0j ρ hi (len:Int)with
      |some h=>if 0<=h/\h<=len/\0<P.cellsOf e then some ⟨.sl i off h.toNat (P.cellsOf e),[],[]⟩else none
      |none=>none
    |_,_,_,_=>none
  | .buildSlice t len parts=>match P.underlying t with
    |some (.slice e)=>match m0I P e with
      |some zs=>if g0g P e (P.cellsOf e)=true/\len*P.cellsOf e<=16777216 then
          match l0E ρ (λi=>some (i*P.cellsOf e,P.cellsOf e)) (List.replicate len zs).flatten parts.toList with
          |some cs=>if len=0 then some ⟨.nl,[],[]⟩else if b0f cs=true then some ⟨.vc idx,[],[(idx, .vec len (P.cellsOf e) e cs)]⟩else none
          |none=>none
        else none
      |none=>none
    |_=>none
  | .binOp op t x y _=>eqE P op t (a0F ρ x) (a0F ρ y)
  | .makeMap t none=>match P.underlying t with
    |some (.map _ _)=>some ⟨.mp idx,[],[(idx, .map [])]⟩
    |_=>none
  | .insert t m k v=>i0i P t (a0F ρ m) (a0F ρ k) (a0F ρ v) H
  | .mapUpdate t m k v=>i0i P t (a0F ρ m) (a0F ρ k) (a0F ρ v) H
  | .lookup t m k ok=>h0E P t (a0F ρ m) (a0F ρ k) ok H
  | .makeSlice t x y=>match P.underlying t,a0F ρ x,a0F ρ y with
    |some (.slice e),some (.int _ l),some (.int _ c)=>match m0I P e with
      |some zs=>if g0g P e (P.cellsOf e)=true/\0<=l/\l<=c/\c<=4294967296/\b0f zs=true then some ⟨.vc idx,[],[(idx, .vec l.toNat (P.cellsOf e) e (List.replicate l.toNat zs).flatten)]⟩else none
      |none=>none
    |_,_,_=>none
  | .convert src dst x=>match P.underlying src,P.underlying dst,a0F ρ x with
    |some .string,some (.slice e),some (.str s)=>match P.underlying e with
      |some (.int .u8)=>some ⟨.lst s.length 1 (s.map l0H),[],[]⟩
      |some (.int .i32)=>some ⟨.lst (e0R s).length 1 ((e0R s).map o0m),[],[]⟩
      |_=>none
    |some .string,some .string,some (.str s)=>some ⟨.str s,[],[]⟩
    |some (.slice e),some (.slice _),some (.vc i)=>match P.underlying e,H[i]? with
      |some (.int .u8),some (.vec n k _ cs)=>if src=dst/\0<n then some ⟨.lst n k cs,[i],[(i, .gone)]⟩else none
      |_,_=>none
    |some (.slice e),some .string,some s=>match P.underlying e,p0N 1 s H with
      |some (.int .u8),some (_,cs,rd)=>if g0y P src s=true/\cs.all i0z=true then some ⟨.str (cs.map byteOf),rd,[]⟩else none
      |some (.int .i32),some (_,cs,rd)=>if g0y P src s=true/\cs.all j0w=true then some ⟨.str (cs.flatMap runeB),rd,[]⟩else none
      |_,_=>none
    |_,_,_=>none
  | .call c=>match c.callee with
    | .builtin .append=>j0S P c ρ H idx
    | .builtin .copy=>w0A P c ρ H
    | .builtin .len=>match c.args.toList,c.argTypes.toList with
      | [x],[t]=>match P.underlying t,a0F ρ x with
        |some (.slice _),some (.vc i)=>match H[i]? with
          |some (.vec n _ _ _)=>some ⟨.int .i64 n,[i],[]⟩
          |_=>none
        |_,_=>none
      |_,_=>none
    | .builtin .min=>match c.args.toList with
      |x::r=>match a0F ρ x with
        |some (.int k a)=>(v0G false k a ρ r).map λv=>⟨v,[],[]⟩
        |_=>none
      |_=>none
    | .builtin .max=>match c.args.toList with
      |x::r=>match a0F ρ x with
        |some (.int k a)=>(v0G true k a ρ r).map λv=>⟨v,[],[]⟩
        |_=>none
      |_=>none
    |_=>none
  |_=>none
def a0E(P:Program)(o:Oper)(ρ:Env)(H:a0f)(idx:Nat):Option Eff:=
  match a0g P o ρ with
  |some v=>some ⟨v,[],[]⟩
  |none=>a0q P o ρ H idx
section
variable {P : Program} {n : Nat} {w : World} {K : Nat -> Nat} {D : DM} {H : a0f} {ρ : Env} {a : Act} {o : Oper} {idx : Nat}
theorem f0j(h:HInv w K D H) {v:Value} {s:SV} (hr:(execOp a.eval o).run P w= .ok (.value v) w)(h1:Rep w K D v s):m0w P w K D H o a s H:=
  ⟨v,w, .inl hr,Good.here h h1⟩
theorem B0H(h:HInv w K D H)(hs:Slots n w K D ρ a.tmps) {e:TypeId} {x:Operand} (ho:o.op= .box e x)(hx:Operand.inB n x=true)(hidx:CanNew H idx) {cs:List SV} (hc:(a0F ρ x).bind SV.cells?=some cs):
    m0w P w K D H o a (.ptr idx 0) (g0m H idx (.box cs)):=by
  cases hxe:a0F ρ x with
  |none=>rw[hxe]at hc;cases hc
  |some sx=>
    rw[hxe]at hc
    have hcr:=p0F (a0e hs hx hxe) hc
    refine⟨_,_, .inl ?_,v0E h hidx hcr e⟩
    unfold execOp;rw[ho]
    simp[Instr.box,newVar,newRow]
theorem y0p(h:HInv w K D H) {t:TypeId} (ho:o.op= .alloc t)(hidx:CanNew H idx) {cs:List SV} (hz:m0I P t=some cs):
    m0w P w K D H o a (.ptr idx 0) (g0m H idx (.box cs)):=by
  obtain⟨i,z,hi,hz,hl,hc,_,hcr⟩:=j0U hz
  refine⟨_,_, .inl ?_,v0E h hidx (hcr w K D) t⟩
  unfold execOp;rw[ho]
  simp[Instr.alloc,zeroValue,typeInfo,hi,hz,newVar,newRow]
theorem x0R(h:HInv w K D H)(hs:Slots n w K D ρ a.tmps) {t:TypeId} {x:Operand} (ho:o.op= .load t x)(hx:Operand.inB n x=true) {i off:Nat} (hxe:a0F ρ x=some (.ptr i off)) {cs:List SV}
    (hc:(H[i]?).bind b0F=some cs) {v:SV} (hv:b0j P t (cs.drop off)=some v):m0w P w K D H o a v H:=by
  have he:execOp a.eval o=(do pure (Next.value (<-Instr.loadAt t (a.eval x)))):=by unfold execOp;rw[ho]
  obtain⟨b,c,m,hvx,hd⟩:=l0Z (a0e hs hx hxe)
  cases hH:H[i]? with
  |none=>rw[hH]at hc;cases hc
  |some en=>
    rw[hH]at hc
    obtain⟨vs,rest,e,hheap,hcr,_,_⟩:=s0o h hH hd hc
    have hrow:=(f0u hheap hcr).drop off
    rw[aW]at hrow
    obtain⟨r,hr,hrep⟩:=i0s (P:=P) hrow hv
    exact f0j h (by rw[he];exact b0d (by rw[hvx];simp[Instr.loadAt,Instr.sureAddr,hr])) hrep
theorem u0T(h:HInv w K D H)(hs:Slots n w K D ρ a.tmps) {t:TypeId} {x y:Operand} (ho:o.op= .store t x y)(hx:Operand.inB n x=true)(hy:Operand.inB n y=true) {i off:Nat} (hxe:a0F ρ x=some (.ptr i off))
    {ps cs:List SV} (hye:(a0F ρ y).bind SV.cells?=some ps) {en:Ent} (hH:H[i]?=some en) (hc:b0F en=some cs)
    (hl:ps.length=P.cellsOf t) (h0:0<ps.length) (hle:off+ps.length<=cs.length) (hpl:z0Q en=true->b0f ps=true):m0w P w K D H o a .undef (H.set i (r0b en (splice cs off ps))):=by
  cases hyv:a0F ρ y with
  |none=>rw[hyv]at hye;cases hye
  |some sy=>
    rw[hyv]at hye
    have hcx:=p0F (a0e hs hy hyv) hye
    obtain⟨b,c,m,hvx,hd⟩:=l0Z (a0e hs hx hxe)
    obtain⟨w',hst,hg,hiv⟩:=k0D (P:=P) h hH hd hc hle hcx hpl
    obtain⟨it,hit,hsz⟩:=m0F (P:=P) (t:=t) (by omega)
    have hsv:(Instr.storeAt t (.pointer (some ⟨b,off,none⟩)) (a.eval y)).run P w= .ok () w':=by
      have hce:(a.eval y).cells.size=it.size:=by have:=hcx.len;simp at this;omega
      simp[Instr.storeAt,Instr.sureAddr,storeVar,sizeOf,typeInfo,hit,hce,hst]
    refine⟨undef,w', .inr ⟨?_,rfl⟩,⟨K,D,hg,hiv, .undef _⟩⟩
    unfold execOp;rw[ho]
    show Sem.run P (do Instr.storeAt t (a.eval x) (a.eval y);pure Next.skip) w=_
    rw[hvx]
    simp[hsv]
theorem n0d(h:HInv w K D H) {v:Value} {i nn k:Nat} {e:TypeId} {cs:List SV} (hr:Rep w K D v (.vc i))(hH:H[i]?=some (.vec nn k e cs)):
    b0f cs=true/\((nn=0/\cs=[]/\ ∃ad,v= .slice ad 0 0)\/ ∃b c vs rest,v= .slice (some ⟨b,0,none⟩) nn c/\D i=some (.at b c nn)/\0<k/\nn<=c/\vs.length=nn*k/\CR w K D vs cs/\
      w.heap[b]?=some (.cells (vs++rest).toArray e (0,0))):=by
  obtain⟨hp,hent⟩:=h.ent i _ hH
  refine⟨hp, ?_⟩
  rcases hent with⟨h1,h2,h3⟩|⟨b,c,vs,rest,h1,h2,h3,h4,h5,h6,h7,h8,h9⟩
  cases hr with
  |vcn _ ad hd=>exact .inl ⟨h2,h3,ad,rfl⟩
  |vc _ b c n hd=>rw[h1]at hd;cases hd
  cases hr with
  |vcn _ ad hd=>rw[h1]at hd;cases hd
  |vc _ b' c' n' hd=>rw[h1]at hd;cases hd;exact .inr ⟨b,c,vs,rest,rfl,h1,h3,h4,h7,h9,h6⟩
theorem r0Z(h:HInv w K D H)(hs:Slots n w K D ρ a.tmps) {t e:TypeId} {x y:Operand} (ho:o.op= .indexAddr t x y)(hx:Operand.inB n x=true)(hy:Operand.inB n y=true)(hu:P.underlying t=some (.slice e))
    {i nn k:Nat} {e':TypeId} {cs:List SV} {kk:IntKind} {j:Int} (hxe:a0F ρ x=some (.vc i)) (hye:a0F ρ y=some (.int kk j)) (hH:H[i]?=some (.vec nn k e' cs)) (hk:k=P.cellsOf e) (hk0:0<k) (h0:0<=j) (hj:j<nn):
    m0w P w K D H o a (.ptr i (j.toNat*k)) H:=by
  have he:execOp a.eval o=(do pure (Next.value (<-Instr.indexAt t (a.eval x) (a.eval y)))):=by unfold execOp;rw[ho]
  have hrx:=a0e hs hx hxe
  have hry:=a0e hs hy hye
  generalize hvy:a.eval y=vy at hry
  cases hry
  rcases(n0d h hrx hH).2 with⟨hn0,_⟩|⟨b,c,vs,rest,hv,hd,_⟩
  omega
  subst hk
  refine f0j h (v:= .pointer (some ⟨b,j.toNat*P.cellsOf e,none⟩)) ?_ (.ptr _ _ _ _ _ hd)
  rw[he]
  refine b0d ?_
  rw[hv,hvy]
  simp[Instr.indexAt,asIntOf,run_underlying hu,c0g hk0,h0,hj,add_lit]
theorem r0A(h:HInv w K D H)(hs:Slots n w K D ρ a.tmps) {t e:TypeId} {len:Nat} {x:Operand} {hi:Option Operand} (ho:o.op= .slice t x none hi none)(hx:Operand.inB n x=true)(hhi: ∀x,hi=some x->Operand.inB n x=true)
    (hu:P.underlying t=some (.array len e)) {i off:Nat} (hxe:a0F ρ x=some (.ptr i off)) {hh:Int} (hb:g0j ρ hi (len:Int)=some hh) (h0:0<=hh) (h1:hh<=len) (hk0:0<P.cellsOf e):
    m0w P w K D H o a (.sl i off hh.toNat (P.cellsOf e)) H:=by
  have he:execOp a.eval o=(do pure (Next.value (<-Instr.sliceAt t (a.eval x) none (hi.map a.eval) none))):=by unfold execOp;rw[ho];rfl
  obtain⟨b,c,m,hvx,hd⟩:=l0Z (a0e hs hx hxe)
  have hbd:(Instr.sliceBounds false len len none (hi.map a.eval) none).run P w= .ok (0,hh.toNat,len) w:=by
    rcases l0I (P:=P) (w:=w) (code:= .sliceAlen) (y:=len) hs hhi hb h0 h1 with⟨rfl,e1⟩|⟨y1,rfl,e1⟩
    subst e1;simp[Instr.sliceBounds]
    simp[Instr.sliceBounds,e1]
  refine f0j h (v:= .slice (some ⟨b,off,none⟩) hh.toNat len) ?_ (.sl i off hh.toNat (P.cellsOf e) b c m len hd (by omega))
  rw[he]
  refine b0d ?_
  rw[hvx]
  simp[Instr.sliceAt,Instr.sureAddr,run_underlying hu,hbd,c0g hk0,Addr.add]
theorem v0U(h:HInv w K D H)(hs:Slots n w K D ρ a.tmps) {c:Call} (ho:o.op= .call c)(hcal:c.callee= .builtin .len) {x:Operand} {t e:TypeId} (ha:c.args.toList=[x])(ht:c.argTypes.toList=[t])(hx:Operand.inB n x=true)
    (hu:P.underlying t=some (.slice e)) {i nn k:Nat} {e':TypeId} {cs:List SV} (hxe:a0F ρ x=some (.vc i)) (hH:H[i]?=some (.vec nn k e' cs)):m0w P w K D H o a (.int .i64 nn) H:=by
  have ha':c.args= #[x]:=by rw[<-be];exact ha
  have ht':c.argTypes= #[t]:=by rw[<-be];exact ht
  have hv: ∃ad cap,a.eval x= .slice ad nn cap:=by
    rcases(n0d h (a0e hs hx hxe) hH).2 with⟨hn0,_,ad,hv⟩|⟨b,c,vs,rest,hv,_⟩
    exact⟨_,_,by rw[hv,hn0]⟩
    exact⟨_,_,hv⟩
  obtain⟨ad,cap,hv⟩:=hv
  refine f0j h (v:= .int .i64 nn) ?_ (.int _ _)
  unfold execOp
  simp only[ho,resolve,hcal,ha',ht',invoke,builtin,Sem.run_bind,Sem.run_pure,Result.andThen_ok,bI,aj,aF]
  rw[hv]
  simp[Builtin.len_,run_underlying hu,goInt]
theorem q0Y {place:Nat->Option (Nat×Nat)} : ∀(ps:List (Nat×Operand)) (c0 c1:List SV),l0E ρ place c0 ps=some c1->c1.length=c0.length:=by
  intro ps
  induction ps with
  |nil=>intro c0 c1 hh;cases hh;rfl
  |cons p ps ih=>
    intro c0 c1 hh
    simp only[l0E]at hh
    split at hh
    rename_i off size qs hp hq
    split at hh
    rename_i hcc
    rw[ih _ _ hh]
    simp[Sy.splice];omega
    cases hh
    cases hh
theorem p0G(h:HInv w K D H)(hs:Slots n w K D ρ a.tmps) {t e len:Nat} {parts:Array (Nat×Operand)} (ho:o.op= .buildSlice t len parts)(hb: ∀p∈parts.toList,Operand.inB n p.2=true)(hu:P.underlying t=some (.slice e)) {zs cs:List SV}
    (hz:m0I P e=some zs) (hok:g0g P e (P.cellsOf e)=true) (hmax:len*P.cellsOf e<=16777216) (hf:l0E ρ (λi=>some (i*P.cellsOf e,P.cellsOf e)) (List.replicate len zs).flatten parts.toList=some cs):
    ∃cells',(execOp a.eval o).run P w= .ok (.value (.slice (some ⟨w.heap.size,0,none⟩) len len)) (w.alloc (.cells cells' e))/\CR w K D cells'.toList cs/\cells'.size=len*P.cellsOf e:=by
  obtain⟨i,z,hi,hzz,hl,hc,_,hcr⟩:=j0U hz
  obtain⟨i',z',hi',hz',hzs,hk,hk0,hby⟩:=e0L hok
  rw[hi]at hi';cases hi'
  rw[hzz]at hz';cases hz'
  rw[hc]at hk hk0 hmax hf hok⊢
  have hzl:zs.length=z.cells.size:=by rw[hl,hzs]
  obtain⟨cells',h1,h2⟩:=s0k hs parts.toList _ _ cs hb (o0K (hcr w K D) (by omega) len) hf
  have hcl:cells'.size=len*i.size:=by
    have e1:cs.length=cells'.size:=by simpa using h2.len
    rw[<-e1,q0Y _ _ _ hf,s0h,hl]
  refine⟨cells', ?_,h2,hcl⟩
  have hrun:(Instr.buildSlice t len (parts.map λp=>(p.1,a.eval p.2))).run P w= .ok (.slice (some ⟨w.heap.size,0,none⟩) len len) (w.alloc (.cells cells' e)):=by
    have hzi:zs.length=i.size:=hl
    rw[hzi]at h1
    by_cases h0:len*i.size=0
    have hz0:len=0:=by
      rcases aZ len with h|h
      exact h
      have:=Nat.mul_pos h hk0;omega
    subst hz0
    have hr0: ∀f:Nat->Value,(Array.range 0).map f= #[]:=λf=>by apply Array.ext';simp
    simp only[Nat.zero_mul,hr0]at h1
    simp[Instr.buildSlice,run_underlying hu,sizeOf,typeInfo,hi,hr0,h1,newRow]
    simp[Instr.buildSlice,run_underlying hu,sizeOf,typeInfo,zeroValue,hi,hzz,h0,h1,newRow,Nat.not_lt.2 hmax]
  unfold execOp;rw[ho]
  exact b0d hrun
theorem HInv.push(h:HInv w K D H) {w':World} {ob:Obj} (hh:w'.heap=w.heap.push ob)(h1:w'.os=w.os)(h2:w'.tape=w.tape)(h3:w'.output=w.output) {K':Nat->Nat} (hK: ∀b,b≠w.heap.size->K' b=K b):
    Grow w K D H w' K' D H/\HInv w' K' D H:=by
  have hold: ∀b,b<w.heap.size->w'.heap[b]?=w.heap[b]?:=λb hb=>by rw[hh,bo,if_neg (by omega)]
  have hK0:K w.heap.size=0:=by
    rcases aZ (K w.heap.size)with h0|h0
    exact h0
    have:=h.kw w.heap.size (by omega);omega
  have hcells: ∀b j,j<K b->w'.cell? ⟨b,j,none⟩=w.cell? ⟨b,j,none⟩:=λb j hj=>World.cell?_of_block (w:=w) (a:=⟨b,j,none⟩) (hold b (h.kw b (by omega)))
  have hle: ∀b,K b<=K' b:=λb=>by
    by_cases hb:b=w.heap.size
    subst hb;omega
    rw[hK b hb];exact ai _
  have hrep: ∀v s,Rep w K D v s->Rep w' K' D v s:=λv s hr=>hr.mono hcells hle (λ_ _ e=>e)
  refine⟨⟨h1,h2,h3,by rw[hh];simp,λb hb _=>hold b hb,hcells,hle,λb hb _=>hK b (by omega),λ_ _ e=>e,λb hm=> .inl hm⟩,
    ⟨h.dom,λi en hi=>(h.ent i en hi).keep hrep rfl (λb c m hl hd=> ?_),h.inj,λb hb=> ?_⟩⟩
  have hlt:=(h0M h ⟨i,en,c,m,hi,hl,hd⟩).1
  exact⟨hold b hlt,hK b (by omega)⟩
  rw[hh];simp only[Array.size_push]
  by_cases hbs:b=w.heap.size
  omega
  rw[hK b hbs]at hb
  have:=h.kw b hb;omega
theorem q0F(h:HInv w K D H)(hs:Slots n w K D ρ a.tmps) {t e:Nat} {x y:Operand} (ho:o.op= .makeSlice t x y)(hx:Operand.inB n x=true)(hy:Operand.inB n y=true)(hu:P.underlying t=some (.slice e)) {zs:List SV} {kl kc:IntKind} {l c:Int}
    (hidx:CanNew H idx) (hxe:a0F ρ x=some (.int kl l)) (hye:a0F ρ y=some (.int kc c))
    (hz:m0I P e=some zs) (hok:g0g P e (P.cellsOf e)=true) (h0:0<=l) (hlc:l<=c) (hcm:c<=4294967296) (hpz:b0f zs=true):
    m0w P w K D H o a (.vc idx) (g0m H idx (.vec l.toNat (P.cellsOf e) e (List.replicate l.toNat zs).flatten)):=by
  obtain⟨i,z,hi,hzz,hl,hc,_,hcr⟩:=j0U hz
  obtain⟨i',z',hi',hz',hzs,hk,hk0,hby⟩:=e0L hok
  rw[hi]at hi';cases hi'
  rw[hzz]at hz';cases hz'
  rw[hc]at hk hk0 hok⊢
  have hrx:=a0e hs hx hxe
  have hry:=a0e hs hy hye
  generalize hvx:a.eval x=vx at hrx
  generalize hvy:a.eval y=vy at hry
  cases hrx
  cases hry
  have hbytes:(i.bytes:Int)*c<=281474976710656:=by
    have h1:(i.bytes:Int)*c<=4096*c:=Int.mul_le_mul_of_nonneg_right (by omega) (by omega)
    omega
  have hrun:=run_make (P:=P) w t e i z hu hi hzz kl kc l c h0 hlc hbytes (by omega)
  have hzl:=o0K (hcr w K D) (by omega) l.toNat
  have hsz:z.cells.size=zs.length:=by rw[hl,hzs]
  have hvl:((Array.range (l.toNat*zs.length)).map (z.cells[· %z.cells.size]!)).toList.length=l.toNat*i.size:=by simp[hl]
  have hle:l.toNat*i.size<=c.toNat*i.size:=aQ _ (by omega)
  have hLt:(madeCells z.cells (c.toNat*i.size)).toList.take (l.toNat*i.size)=((Array.range (l.toNat*zs.length)).map (z.cells[· %z.cells.size]!)).toList:=by
    apply bh
    intro j
    rw[aM]
    by_cases hj:j<l.toNat*i.size
    rw[if_pos hj]
    simp[madeCells,hl,hj,aU hj hle]
    rw[if_neg hj,aw (by rw[hvl];omega)]
  have hg:=r0T (w':=w.alloc (.cells (madeCells z.cells (c.toNat*i.size)) e)) (L:=madeCells z.cells (c.toNat*i.size)) (vs:=((Array.range (l.toNat*zs.length)).map (z.cells[· %z.cells.size]!)).toList)
    (rest:=(madeCells z.cells (c.toNat*i.size)).toList.drop (l.toNat*i.size)) (cap:=c.toNat) (len:=l.toNat) (k:=i.size) (e:=e) h hidx none (by simp) hzl (n0c hpz _) (by
      rw[<-hLt];apply Array.ext';simp) rfl rfl rfl rfl hk0 hvl (by omega) (by
      rw[ay,hvl,bc,bJ,size_madeCells];omega) (by unfold maxLen;omega)
  rw[e0T]at hg
  refine⟨_,_, .inl ?_,hg⟩
  unfold execOp;rw[ho]
  show Sem.run P (do pure (Next.value (<-Instr.makeSlice t (a.eval x) (a.eval y)))) w=_
  rw[hvx,hvy]
  exact b0d hrun
end
end
section
variable [Inhabited GT]
section
variable {P : Program} {n : Nat} {w : World} {K : Nat -> Nat} {D : DM} {H : a0f} {ρ : Env} {a : Act} {o : Oper} {idx : Nat}
theorem q0M {k m:Nat} {tx:TypeId} {x:Value} {news:List Value} {cs:List SV} (h:SrcAt P w K D k tx x m news cs):(Builtin.lenOf x).run P w= .ok m w:=h.src.len w
theorem t0o {t tx e ty k m nn b off cap:Nat} {y:Value} {news us:List Value} {cs2:List SV} {w':World} (hu:P.underlying t=some (.slice e))(hk:k=P.cellsOf e)(hk0:0<k)(hsrc:SrcAt P w K D k tx y m news cs2)
    (hus:us=news.take (min m nn*k)) (hst:(storeCells ⟨b,off,none⟩ us).run P w= .ok () w'):
    (Builtin.copy_ #[t,tx] ty #[.slice (some ⟨b,off,none⟩) nn cap,y]).run P w= .ok (.int .i64 ((min m nn:Nat):Int)) w':=by
  have hf:=hsrc.first (min m nn) (Nat.min_le_left _ _)
  have hsz:(sizeOf e).run P w= .ok k w:=by rw[hk];exact c0g (by rw[<-hk];exact hk0)
  rw[<-hus]at hf
  simp[Builtin.copy_,run_underlying hu,q0M hsrc,hsz,hf,hst,goInt]
theorem A0t(h:HInv w K D H)(hs:Slots n w K D ρ a.tmps) {c:Call} (ho:o.op= .call c)(hcal:c.callee= .builtin .copy)(hb: ∀x∈c.args,Operand.inB n x=true) {ef:Eff}
    (he:w0A P c ρ H=some ef):m0w P w K D H o a ef.v (b0t H ef.wr):=by
  unfold w0A at he
  split at he
  · rename_i x y t tx hargs htys
    have ha:c.args= #[x,y]:=by rw[<-be];exact hargs
    have hty:c.argTypes= #[t,tx]:=by rw[<-be];exact htys
    have hxb:=hb x (by rw[ha];simp)
    have hyb:=hb y (by rw[ha];simp)
    have hrun: ∀r w',(Builtin.copy_ #[t,tx] o.type #[a.eval x,a.eval y]).run P w= .ok r w'->(execOp a.eval o).run P w= .ok (.value r) w':=λr w' hr=>by
      unfold execOp
      simp only[ho,resolve,hcal,ha,hty,invoke,builtin,Sem.run_bind,Sem.run_pure,Result.andThen_ok,bI,aj,aF,hr]
    split at he
    · rename_i e i0 sy hu hxe hye
      split at he
      · rename_i nn k e' cs hH
        split at he
        · rename_i m cs2 rd hsc
          split at he<;>cases he
          rename_i hc
          obtain⟨hk,hok,hst⟩:=hc
          obtain⟨i,z,hi,hz,hzs,hki,hk0,hby⟩:=e0L hok
          obtain⟨news,hsrc⟩:=p0X (P:=P) (tx:=tx) h hk0 (a0e hs hyb hye) hsc hst
          have hil:i0<H.length:=(ab.1 hH).1
          have hset: ∀en,g0m H i0 en=H.set i0 en:=λen=>by unfold g0m;rw[if_pos hil]
          simp only[b0t,hset]
          rcases(n0d h (a0e hs hxb hxe) hH).2 with⟨h1,h2,ad,hv⟩|⟨b,cp,vs,rest,hv,hd,_,hcap,hvl,hcr,hheap⟩
          · subst h1;subst h2
            have hf:=hsrc.first 0 (bg _)
            have hsz:(sizeOf e).run P w= .ok k w:=by rw[hk];exact c0g (by rw[<-hk];exact hk0)
            have hsame:H.set i0 (.vec 0 k e' (splice [] 0 (cs2.take (min m 0*k))))=H:=by
              have:splice [] 0 (cs2.take (min m 0*k))=[]:=by simp[Sy.splice]
              rw[this]
              apply bh
              intro j
              rw[aL]
              by_cases hj:i0=j
              subst hj;rw[if_pos rfl,if_pos hil,hH]
              rw[if_neg hj]
            rw[hsame]
            refine f0j h (v:= .int .i64 ((min m 0:Nat):Int)) (hrun _ _ ?_) (.int _ _)
            rw[hv]
            cases ad<;>simp[Builtin.copy_,run_underlying hu,q0M hsrc,hsz,hf,goInt,storeCells,<-hk]
          have hcx:CR w K D (news.take (min m nn*k)) (cs2.take (min m nn*k)):=hsrc.cr.take _
          have hnl:cs2.length=m*k:=by rw[hsrc.cr.len,hsrc.src.newsLen]
          have hmk:min m nn*k<=m*k:=aQ _ (Nat.min_le_left _ _)
          have hmk2:min m nn*k<=nn*k:=aQ _ (Nat.min_le_right _ _)
          obtain⟨w',hst,hg,hiv⟩:=k0D (P:=P) (off:=0) h hH hd rfl (by rw[aJ,hcr.len];omega) hcx (λ_=>g0Q hsrc.plain _)
          exact⟨_,w', .inl (hrun _ _ (by rw[hv];exact t0o hu hk hk0 hsrc rfl hst)),⟨K,D,hg,hiv, .int _ _⟩⟩
        cases he
      cases he
    · rename_i e i0 off nn k sy hu hxe hye
      split at he
      · rename_i cs hH
        split at he
        · rename_i m cs2 rd hsc
          split at he<;>cases he
          rename_i hc
          obtain⟨hk,hok,hst,hle⟩:=hc
          obtain⟨i,z,hi,hz,hzs,hki,hk0,hby⟩:=e0L hok
          obtain⟨news,hsrc⟩:=p0X (P:=P) (tx:=tx) h hk0 (a0e hs hyb hye) hsc hst
          have hil:i0<H.length:=(ab.1 hH).1
          have hset: ∀en,g0m H i0 en=H.set i0 en:=λen=>by unfold g0m;rw[if_pos hil]
          simp only[b0t,hset]
          have hrx:=a0e hs hxb hxe
          generalize hvx:a.eval x=vx at hrx
          cases hrx with
          |sl _ _ _ _ b c m' cap hd hcap=>
            have hcx:CR w K D (news.take (min m nn*k)) (cs2.take (min m nn*k)):=hsrc.cr.take _
            have hmk2:min m nn*k<=nn*k:=aQ _ (Nat.min_le_right _ _)
            obtain⟨w',hst,hg,hiv⟩:=k0D (P:=P) (off:=off) h hH hd rfl (by rw[aJ];omega) hcx (λe=>by cases e)
            exact⟨_,w', .inl (hrun _ _ (by rw[hvx];exact t0o hu hk hk0 hsrc rfl hst)),⟨K,D,hg,hiv, .int _ _⟩⟩
        cases he
      cases he
    cases he
  cases he
theorem t0z(h:HInv w K D H)(hs:Slots n w K D ρ a.tmps) {src dst e:TypeId} {x:Operand} (ho:o.op= .convert src dst x)(hx:Operand.inB n x=true)(hsrc:P.underlying src=some .string)(hdst:P.underlying dst=some (.slice e))
    (he:P.underlying e=some (.int .u8)) {s:List UInt8} (hxe:a0F ρ x=some (.str s)):m0w P w K D H o a (.lst s.length 1 (s.map l0H)) H:=by
  have hex:execOp a.eval o=(do pure (Next.value (<-convert src dst (a.eval x)))):=by unfold execOp;rw[ho]
  have hrx:=a0e hs hx hxe
  generalize hvx:a.eval x=vx at hrx
  cases hrx with
  |str sb=>
    have hrun:=run_bytes_of_string (P:=P) w src dst e sb hsrc hdst he
    generalize hcp:grownCap w sb.size 0 e=cap at hrun
    have hcap:sb.size<=cap:=by rw[<-hcp];exact grownCap_ge w sb.size 0 e
    generalize hw':w.drew.alloc (.cells (bytesRow sb cap) e ((bytesRow sb cap).size,(bytesRow sb cap).size+1))=w' at hrun
    have hheap:w'.heap=w.heap.push (.cells (bytesRow sb cap) e ((bytesRow sb cap).size,(bytesRow sb cap).size+1)):=by rw[<-hw'];rfl
    have hlen:sb.data.toList.length=sb.size:=by simp
    have hK0:K w.heap.size=0:=by
      rcases aZ (K w.heap.size)with h0|h0
      exact h0
      have:=h.kw w.heap.size (by omega);omega
    obtain⟨g,hiv⟩:=HInv.push (K':=λb=>if b=w.heap.size then sb.size else K b) h hheap (by rw[<-hw'];rfl) (by rw[<-hw'];rfl) (by rw[<-hw'];rfl) (λb hb=>if_neg hb)
    refine⟨_,w', .inl (by rw[hex];exact b0d (by rw[hvx];exact hrun)),⟨_,D,g,hiv, ?_⟩⟩
    have hbl:(byteCells sb).length=sb.size:=byteCells_length sb
    rw[hlen]
    refine .lst 1 w.heap.size 0 sb.size cap (byteCells sb) _ (by omega) (by rw[hbl,Nat.mul_one]) (by simp[hbl]) hcap (λj v hj=> ?_) (by rw[hbl];simp) (λu hu=>by
        obtain⟨_,_,rfl⟩:=aR.1 hu;rfl) ?_ (λj v c hv hc=> ?_)
    have hjl:j<sb.size:=by rw[<-hbl];exact(ab.1 hj).1
    have hget:w'.heap[w.heap.size]?=some (.cells (bytesRow sb cap) e ((bytesRow sb cap).size,(bytesRow sb cap).size+1)):=by rw[hheap];simp
    unfold World.cell?
    simp only[aW,hget]
    unfold byteCells at hj
    rw[al]at hj
    simp only[bytesRow,Option.isSome_none,aH,if_false]
    rw[bu (by simpa using hjl),Array.getElem?_map]
    simpa using hj
    simp only[b0f,List.all_map,List.all_eq_true]
    intro b _;rfl
    unfold byteCells at hv
    rw[al]at hv hc
    cases hb:sb.data.toList[j]? with
    |none=>rw[hb]at hv;cases hv
    |some y=>rw[hb]at hv hc;cases hv;cases hc;exact .int _ _
theorem l0k(s:ByteArray): ∀(b i:Nat) (acc:Array Value),(∀v∈acc.toList,∃n:Int,v= .int .i32 n)-> ∀v∈(Conv.runesFrom s b i acc).toList,∃n:Int,v= .int .i32 n
  |0,i,acc,h=>by simpa only[Conv.runesFrom]using h
  |b+1,i,acc,h=>by
    simp only[Conv.runesFrom]
    split
    exact l0k s b _ _ (λv hv=>by
      simp only[Array.toList_push,av,bl]at hv
      rcases hv with hv|rfl
      exact h v hv
      exact⟨_,rfl⟩)
    exact h
theorem k0J(w:World)(src dst e:TypeId)(s:ByteArray)(hs:P.underlying src=some .string)(hd:P.underlying dst=some (.slice e))(he:P.underlying e=some (.int .i32)):
    (convert src dst (.string s)).run P w= .ok (.slice (some ⟨w.heap.size,0,none⟩) (Conv.runesFrom s s.size 0 #[]).size (grownCap w (Conv.runesFrom s s.size 0 #[]).size 0 e))
      (w.drew.alloc (.cells (Conv.runesFrom s s.size 0 #[]++Array.replicate (grownCap w (Conv.runesFrom s s.size 0 #[]).size 0 e-(Conv.runesFrom s s.size 0 #[]).size) (.int .i32 0)) e)):=by
  simp[convert,run_underlying hs,run_underlying hd,run_underlying he,Conv.stringToRunes,Question.forced,newRow,grownCap]
theorem t0y(h:HInv w K D H)(hs:Slots n w K D ρ a.tmps) {src dst e:TypeId} {x:Operand} (ho:o.op= .convert src dst x)(hx:Operand.inB n x=true)(hsrc:P.underlying src=some .string)(hdst:P.underlying dst=some (.slice e))
    (he:P.underlying e=some (.int .i32)) {s:List UInt8} (hxe:a0F ρ x=some (.str s)):m0w P w K D H o a (.lst (e0R s).length 1 ((e0R s).map o0m)) H:=by
  have hex:execOp a.eval o=(do pure (Next.value (<-convert src dst (a.eval x)))):=by unfold execOp;rw[ho]
  have hrx:=a0e hs hx hxe
  generalize hvx:a.eval x=vx at hrx
  cases hrx with
  |str sb=>
    have hrun:=k0J (P:=P) w src dst e sb hsrc hdst he
    have hrv:e0R sb.data.toList=(Conv.runesFrom sb sb.size 0 #[]).toList.map z0T:=by
      unfold e0R
      rw[show sb.data.toList.length=sb.size from by simp]
    rw[hrv]
    have hint:=l0k sb sb.size 0 #[] (λv hv=>by simp at hv)
    generalize Conv.runesFrom sb sb.size 0 #[]=R at hrun hint⊢
    generalize hcp:grownCap w R.size 0 e=cap at hrun
    have hcap:R.size<=cap:=by rw[<-hcp];exact grownCap_ge w R.size 0 e
    generalize hw':w.drew.alloc (.cells (R++Array.replicate (cap-R.size) (.int .i32 0)) e)=w' at hrun
    have hheap:w'.heap=w.heap.push (.cells (R++Array.replicate (cap-R.size) (.int .i32 0)) e):=by rw[<-hw'];rfl
    obtain⟨g,hiv⟩:=HInv.push (K':=λb=>if b=w.heap.size then R.size else K b) h hheap (by rw[<-hw'];rfl) (by rw[<-hw'];rfl) (by rw[<-hw'];rfl) (λb hb=>if_neg hb)
    refine⟨_,w', .inl (by rw[hex];exact b0d (by rw[hvx];exact hrun)),⟨_,D,g,hiv, ?_⟩⟩
    have hlen:(R.toList.map z0T).length=R.size:=by simp
    rw[hlen]
    refine .lst 1 w.heap.size 0 R.size cap R.toList _ (by omega) (by simp) (by simp) hcap (λj v hj=> ?_) (by simp) (λu hu=>by
        obtain⟨n,rfl⟩:=hint u hu;rfl) ?_ (λj v c hv hc=> ?_)
    have hjl:j<R.size:=by simpa using (ab.1 hj).1
    have hget:w'.heap[w.heap.size]?=some (.cells (R++Array.replicate (cap-R.size) (.int .i32 0)) e):=by rw[hheap];simp
    unfold World.cell?
    simp only[aW,hget]
    simp only[Option.isSome_none,aH,if_false]
    rw[bu hjl]
    simpa using hj
    simp only[b0f,List.all_map,List.all_eq_true]
    intro b _;rfl
    rw[bE,al]at hc
    rw[hv]at hc
    cases hc
    obtain⟨n,rfl⟩:=hint v (aA hv)
    exact .int _ _
theorem z0R {news:List Value} {cs:List SV} (h:CR w K D news cs)(hb:cs.all i0z=true): ∃ns:List Int,news=ns.map (Value.int .u8)/\cs.map byteOf=ns.map λn=>UInt8.ofNat n.toNat:=by
  have key: ∀(cs:List SV) (news:List Value),cs.length=news.length->(∀(j:Nat) (v:Value) (c:SV),news[j]?=some v->cs[j]?=some c->Rep w K D v c)->cs.all i0z=true->
      ∃ns:List Int,news=ns.map (Value.int .u8)/\cs.map byteOf=ns.map λn=>UInt8.ofNat n.toNat:=by
    intro cs
    induction cs with
    |nil=>intro news hl _ _;cases news with
      |nil=>exact⟨[],rfl,rfl⟩
      |cons v vs=>simp at hl
    |cons c cs ih=>
      intro news hl hr hb
      cases news with
      |nil=>simp at hl
      |cons v vs=>
        simp only[aE,aa]at hb
        obtain⟨ns,e1,e2⟩:=ih vs (by simpa using hl) (λj v c hv hc=>hr (j+1) v c (by simpa using hv) (by simpa using hc)) hb.2
        have h0:=hr 0 v c rfl rfl
        have hc:=hb.1
        unfold i0z at hc
        split at hc
        rename_i z
        cases h0
        exact⟨z::ns,by rw[e1];rfl,by rw[aj,e2];rfl⟩
        cases hc
  exact key cs news h.len h.rep hb
theorem x0g(h:HInv w K D H)(hs:Slots n w K D ρ a.tmps) {src dst e:TypeId} {x:Operand} (ho:o.op= .convert src dst x)(hx:Operand.inB n x=true)(hsrc:P.underlying src=some (.slice e))(hdst:P.underlying dst=some .string)
    (he:P.underlying e=some (.int .u8)) {s:SV} (hxe:a0F ρ x=some s) {m:Nat} {cs:List SV} {rd:List Nat} (hsc:p0N 1 s H=some (m,cs,rd)) (hty:g0y P src s=true) (hb:cs.all i0z=true):m0w P w K D H o a (.str (cs.map byteOf)) H:=by
  have hex:execOp a.eval o=(do pure (Next.value (<-convert src dst (a.eval x)))):=by unfold execOp;rw[ho]
  obtain⟨news,hsa⟩:=p0X (P:=P) (tx:=src) h (by omega) (a0e hs hx hxe) hsc hty
  obtain⟨ns,e1,e2⟩:=z0R hsa.cr hb
  have hcells:=hsa.src.cells
  have hlen:=hsa.src.len w
  generalize hvx:a.eval x=vx at hcells hlen
  have hsv: ∃r,(convert src dst vx).run P w= .ok (.string r) w/\cs.map byteOf=r.data.toList:=by
    cases vx with
    |slice ad len cap=>
      have hm:len=m:=by simp[Builtin.lenOf]at hlen;exact hlen
      subst hm
      rw[run_convert_bytes_string w src dst e ad len cap hsrc he hdst]
      cases ad with
      |none=>
        have hn:news=[]:=by
          simp[Builtin.firstCells]at hcells;exact hcells
        rw[hn]at e1
        have:ns=[]:=by cases ns with
          |nil=>rfl
          |cons _ _=>cases e1
        subst this
        exact⟨.empty,by simp[Conv.bytesToString],by rw[e2];rfl⟩
      |some ad=>
        have hl:(loadCells ad len).run P w= .ok (ns.map (Value.int .u8)).toArray w:=by
          have:=hcells
          simp only[Builtin.firstCells,Nat.mul_one]at this
          rw[this,e1]
        refine⟨_,run_bytesToString w ad len cap ns hl, ?_⟩
        rw[e2]
        have: ∀(ns:List Int) (r:ByteArray),(ns.foldl (λr n=>r.push (UInt8.ofNat n.toNat)) r).data.toList=r.data.toList++ns.map λn=>UInt8.ofNat n.toNat:=by
          intro ns
          induction ns with
          |nil=>intro r;simp
          |cons x ns ih=>intro r;simp only[List.foldl_cons];rw[ih];simp[ByteArray.push]
        rw[this]
        rfl
    |string sb=>
      exfalso
      have hr:=a0e hs hx hxe
      rw[hvx]at hr
      cases hr with
      |str _=>simp[g0y,hsrc]at hty
      |undef _=>simp[p0N]at hsc
    |_=>simp[Builtin.lenOf,stuck,Sem.run]at hlen
  obtain⟨r,h1,h2⟩:=hsv
  refine f0j h (v:= .string r) (by rw[hex];exact b0d (by rw[hvx];exact h1)) ?_
  rw[h2]
  exact .str r
theorem x0r {news:List Value} {cs:List SV} (h:CR w K D news cs)(hb:cs.all j0w=true): ∃ns:List Int,news=ns.map (Value.int .i32)/\cs=ns.map (SV.int .i32):=by
  have key: ∀(cs:List SV) (news:List Value),cs.length=news.length->(∀(j:Nat) (v:Value) (c:SV),news[j]?=some v->cs[j]?=some c->Rep w K D v c)->cs.all j0w=true->
      ∃ns:List Int,news=ns.map (Value.int .i32)/\cs=ns.map (SV.int .i32):=by
    intro cs
    induction cs with
    |nil=>intro news hl _ _;cases news with
      |nil=>exact⟨[],rfl,rfl⟩
      |cons v vs=>simp at hl
    |cons c cs ih=>
      intro news hl hr hb
      cases news with
      |nil=>simp at hl
      |cons v vs=>
        simp only[aE,aa]at hb
        obtain⟨ns,e1,e2⟩:=ih vs (by simpa using hl) (λj v c hv hc=>hr (j+1) v c (by simpa using hv) (by simpa using hc)) hb.2
        have h0:=hr 0 v c rfl rfl
        have hc:=hb.1
        unfold j0w at hc
        split at hc
        rename_i z
        cases h0
        exact⟨z::ns,by rw[e1];rfl,by rw[aj,e2]⟩
        cases hc
  exact key cs news h.len h.rep hb
theorem n0n(ns:List Int):(runesBytes ns).data.toList=ns.flatMap λn=>(Utf8.encode n).data.toList:=by
  have: ∀(ns:List Int) (r:ByteArray),(ns.foldl (λr n=>r++Utf8.encode n) r).data.toList=r.data.toList++ns.flatMap λn=>(Utf8.encode n).data.toList:=by
    intro ns
    induction ns with
    |nil=>intro r;simp
    |cons x ns ih=>intro r;simp only[List.foldl_cons];rw[ih];simp[ByteArray.data_append]
  unfold runesBytes
  rw[this];rfl
theorem u0G(h:HInv w K D H)(hs:Slots n w K D ρ a.tmps) {src dst e:TypeId} {x:Operand} (ho:o.op= .convert src dst x)(hx:Operand.inB n x=true)(hsrc:P.underlying src=some (.slice e))(hdst:P.underlying dst=some .string)
    (he:P.underlying e=some (.int .i32)) {s:SV} (hxe:a0F ρ x=some s) {m:Nat} {cs:List SV} {rd:List Nat} (hsc:p0N 1 s H=some (m,cs,rd)) (hty:g0y P src s=true) (hb:cs.all j0w=true):m0w P w K D H o a (.str (cs.flatMap runeB)) H:=by
  have hex:execOp a.eval o=(do pure (Next.value (<-convert src dst (a.eval x)))):=by unfold execOp;rw[ho]
  obtain⟨news,hsa⟩:=p0X (P:=P) (tx:=src) h (by omega) (a0e hs hx hxe) hsc hty
  obtain⟨ns,e1,e2⟩:=x0r hsa.cr hb
  have hcells:=hsa.src.cells
  have hlen:=hsa.src.len w
  have hfl:cs.flatMap runeB=ns.flatMap λn=>(Utf8.encode n).data.toList:=by
    rw[e2,List.flatMap_map];rfl
  generalize hvx:a.eval x=vx at hcells hlen
  have hsv: ∃r,(convert src dst vx).run P w= .ok (.string r) w/\cs.flatMap runeB=r.data.toList:=by
    cases vx with
    |slice ad len cap=>
      have hm:len=m:=by simp[Builtin.lenOf]at hlen;exact hlen
      subst hm
      rw[run_convert_runes_string w src dst e ad len cap hsrc he hdst]
      cases ad with
      |none=>
        have hn:news=[]:=by
          simp[Builtin.firstCells]at hcells;exact hcells
        rw[hn]at e1
        have:ns=[]:=by cases ns with
          |nil=>rfl
          |cons _ _=>cases e1
        subst this
        exact⟨.empty,by simp[Conv.runesToString],by rw[hfl];rfl⟩
      |some ad=>
        have hl:(loadCells ad len).run P w= .ok (ns.map (Value.int .i32)).toArray w:=by
          have:=hcells
          simp only[Builtin.firstCells,Nat.mul_one]at this
          rw[this,e1]
        exact⟨_,run_runesToString w ad len cap ns hl,by rw[hfl,n0n]⟩
    |string sb=>
      exfalso
      have hr:=a0e hs hx hxe
      rw[hvx]at hr
      cases hr with
      |str _=>simp[g0y,hsrc]at hty
      |undef _=>simp[p0N]at hsc
    |_=>simp[Builtin.lenOf,stuck,Sem.run]at hlen
  obtain⟨r,h1,h2⟩:=hsv
  refine f0j h (v:= .string r) (by rw[hex];exact b0d (by rw[hvx];exact h1)) ?_
  rw[h2]
  exact .str r
theorem x0h(h:HInv w K D H)(hs:Slots n w K D ρ a.tmps) {src dst:TypeId} {x:Operand} (ho:o.op= .convert src dst x)(hx:Operand.inB n x=true)(hsrc:P.underlying src=some .string)(hdst:P.underlying dst=some .string)
    {s:List UInt8} (hxe:a0F ρ x=some (.str s)):m0w P w K D H o a (.str s) H:=by
  have hex:execOp a.eval o=(do pure (Next.value (<-convert src dst (a.eval x)))):=by unfold execOp;rw[ho]
  have hrx:=a0e hs hx hxe
  generalize hvx:a.eval x=vx at hrx
  cases hrx with
  |str sb=>
    exact f0j h (v:= .string sb) (by rw[hex];exact b0d (by rw[hvx];simp[convert,run_underlying hsrc,run_underlying hdst])) (.str sb)
theorem z0J(hs:Slots n w K D ρ a.tmps) {big:Bool} {k:IntKind} : ∀(l:List Operand) (acc:Int) (v:SV),(∀x∈l,Operand.inB n x=true)->v0G big k acc ρ l=some v->
    ∃r,v= .int k r/\((l.map a.eval).foldlM (if big then Builtin.max2 else Builtin.min2) (.int k acc)).run P w= .ok (.int k r) w:=by
  intro l
  induction l with
  |nil=>intro acc v _ hv;cases hv;exact⟨acc,rfl,by simp⟩
  |cons y l ih=>
    intro acc v hb hv
    simp only[v0G]at hv
    split at hv
    rename_i k' b hye
    split at hv
    rename_i hk
    subst hk
    obtain⟨r,e1,e2⟩:=ih _ v (λx hx=>hb x (am _ hx)) hv
    refine⟨r,e1, ?_⟩
    have hry:=a0e hs (hb y (ar ..)) hye
    generalize hvy:a.eval y=vy at hry
    cases hry
    simp only[aj,List.foldlM_cons,hvy]
    cases big
    simp only[aH,if_false]at e2⊢
    simpa [Builtin.min2]using e2
    simp only[if_true]at e2⊢
    simpa [Builtin.max2]using e2
    cases hv
    cases hv
theorem q0z(h:HInv w K D H)(hs:Slots n w K D ρ a.tmps) {c:Call} (ho:o.op= .call c) {big:Bool} (hcal:c.callee= .builtin (if big then .max else .min)) {x:Operand} {r:List Operand} (ha:c.args.toList=x::r)(hb: ∀x∈c.args,Operand.inB n x=true)
    {k:IntKind} {ax:Int} (hxe:a0F ρ x=some (.int k ax)) {v:SV} (hv:v0G big k ax ρ r=some v):m0w P w K D H o a v H:=by
  have ha':c.args=(x::r).toArray:=by rw[<-ha]
  have hb': ∀y∈x::r,Operand.inB n y=true:=λy hy=>hb y (by rw[ha'];simpa using hy)
  obtain⟨z,e1,e2⟩:=z0J (P:=P) hs r ax v (λy hy=>hb' y (am _ hy)) hv
  subst e1
  have hrx:=a0e hs (hb' x (ar ..)) hxe
  generalize hvx:a.eval x=vx at hrx
  cases hrx
  refine f0j h (v:= .int k z) ?_ (.int _ _)
  unfold execOp
  cases big
  simp only[aH,if_false]at e2 hcal
  simp only[ho,resolve,hcal,ha',invoke,builtin,Sem.run_bind,Sem.run_pure,Result.andThen_ok,bI,aj,Builtin.min_,hvx,e2]
  simp only[if_true]at e2 hcal
  simp only[ho,resolve,hcal,ha',invoke,builtin,Sem.run_bind,Sem.run_pure,Result.andThen_ok,bI,aj,Builtin.max_,hvx,e2]
end
end
section
variable [Inhabited GT]
variable {P : Program} {w : World} {K : Nat -> Nat} {D : DM} {H : a0f} {n : Nat} {ρ : Env} {a : Act} {o : Oper} {idx : Nat}
def m0q(d:Nat)(e:TypeId)(n:Nat)(xs ys:Array Value):List Nat->Sem Bool
  | []=>pure true
  |i::l=>do
    let a<-part e xs (i*n)
    let b<-part e ys (i*n)
    let r<-Op.equalIn d e a b
    if(!r)=true then pure false else m0q d e n xs ys l
theorem l0T(d:Nat)(t e:TypeId)(len:Nat)(xs ys:Array Value)(ht:P.underlying t=some (.array len e))(hk:0<P.cellsOf e):
    (Op.equalIn (d+1) t (.agg xs) (.agg ys)).run P w=(m0q d e (P.cellsOf e) xs ys (List.range' 0 len)).run P w:=by
  simp only[Op.equalIn,Sem.run_bind,run_underlying ht,Result.andThen_ok,c0g hk]
  rw[Std.Legacy.Range.forIn_eq_forIn_range']
  simp only[Std.Legacy.Range.size,bC,Nat.add_sub_cancel,Nat.div_one]
  generalize List.range' 0 len=l
  induction l generalizing w with
  |nil=>simp[m0q]
  |cons i l ih=>
    simp only[List.forIn_cons,m0q,Sem.run_bind,Sem.run_ite]
    generalize(part e xs (i*P.cellsOf e)).run P w=r1
    cases r1 with
    |ok a w1=>
      simp only[Result.andThen_ok]
      generalize(part e ys (i*P.cellsOf e)).run P w1=r2
      cases r2 with
      |ok b w2=>
        simp only[Result.andThen_ok]
        generalize(Op.equalIn d e a b).run P w2=r3
        cases r3 with
        |ok r w3=>
          cases r
          simp only[Result.andThen_ok,Bool.not_false,if_true,Sem.run_pure]
          simp only[Result.andThen_ok,Bool.not_true,aH,if_false,Sem.run_pure]
          exact ih
        |halt x w3=>simp[Result.andThen]
      |halt x w2=>simp[Result.andThen]
    |halt x w1=>simp[Result.andThen]
theorem A0c {d':Nat} {f:TypeId->SV->SV->Option Bool} (hf: ∀t a b r,f t a b=some r-> ∀u v,Rep w K D u a->Rep w K D v b->(Op.equalIn d' t u v).run P w= .ok r w)
    {us vs:List Value} {xs ys:List SV} (hl:xs.length=us.length) (hl':ys.length=vs.length) (h1: ∀v∈us,v.oneCell'=true) (h1': ∀v∈vs,v.oneCell'=true)
    (hr: ∀(j:Nat) (v:Value) (c:SV),us[j]?=some v->xs[j]?=some c->Rep w K D v c) (hr': ∀(j:Nat) (v:Value) (c:SV),vs[j]?=some v->ys[j]?=some c->Rep w K D v c):
    ∀(fs:List Field) (r:Bool),B0C P f xs ys fs=some r->(Op.eqFields d' us.toArray vs.toArray fs).run P w= .ok r w:=by
  intro fs
  induction fs with
  |nil=>intro r h;cases h;rfl
  |cons fd fs ih=>
    intro r h
    unfold B0C at h
    unfold Op.eqFields
    split at h
    rename_i hn
    rw[if_pos hn]
    split at h
    rename_i a b ha hb
    split at h
    rename_i p q hp hq
    cases h
    obtain⟨u,hu,hur⟩:=d0k (P:=P) hl h1 hr ha
    obtain⟨v,hv,hvr⟩:=d0k (P:=P) hl' h1' hr' hb
    simp only[Sem.run_bind,hu,Result.andThen_ok,hv,hf _ _ _ _ hp u v hur hvr,Sem.run_ite]
    cases p with
    |false=>simp
    |true=>simp[ih q hq]
    cases h
    cases h
    rename_i hn
    rw[if_neg hn]
    exact ih r h
theorem A0d {d' e:Nat} {f:SV->SV->Option Bool} (hf: ∀a b r,f a b=some r-> ∀u v,Rep w K D u a->Rep w K D v b->(Op.equalIn d' e u v).run P w= .ok r w)
    {us vs:List Value} {xs ys:List SV} (hl:xs.length=us.length) (hl':ys.length=vs.length) (h1: ∀v∈us,v.oneCell'=true) (h1': ∀v∈vs,v.oneCell'=true)
    (hr: ∀(j:Nat) (v:Value) (c:SV),us[j]?=some v->xs[j]?=some c->Rep w K D v c) (hr': ∀(j:Nat) (v:Value) (c:SV),vs[j]?=some v->ys[j]?=some c->Rep w K D v c):
    ∀(m i:Nat) (r:Bool),C0a P f e (P.cellsOf e) xs ys m i=some r->(m0q d' e (P.cellsOf e) us.toArray vs.toArray (List.range' i m)).run P w= .ok r w:=by
  intro m
  induction m with
  |zero=>intro i r h;cases h;rfl
  |succ m ih=>
    intro i r h
    unfold C0a at h
    rw[List.range'_succ]
    unfold m0q
    split at h
    rename_i a b ha hb
    split at h
    rename_i p q hp hq
    cases h
    obtain⟨u,hu,hur⟩:=d0k (P:=P) hl h1 hr ha
    obtain⟨v,hv,hvr⟩:=d0k (P:=P) hl' h1' hr' hb
    simp only[Sem.run_bind,hu,Result.andThen_ok,hv,hf _ _ _ hp u v hur hvr,Sem.run_ite]
    cases p with
    |false=>simp
    |true=>simp[ih (i+1) q hq]
    cases h
    cases h
theorem w0v: ∀(d:Nat) (t:TypeId) (a b:SV) (r:Bool),eqS P d t a b=some r-> ∀u v,Rep w K D u a->Rep w K D v b-> ∀d',d<=d'->(Op.equalIn d' t u v).run P w= .ok r w:=by
  intro d
  induction d with
  |zero=>intro t a b r h;cases h
  |succ d ih=>
    intro t a b r h u v hu hv d' hd
    obtain⟨d',rfl⟩: ∃q,d'=q+1:=⟨d'-1,by omega⟩
    unfold eqS at h
    split at h
    rename_i x y ht
    cases hu;cases hv;cases h
    exact run_equalIn_bool w d' t x y ht
    · rename_i kk k x k' y ht
      split at h<;>cases h
      cases hu;cases hv
      rename_i hk;subst hk
      rw[run_equalIn_int w d' t k kk x y ht]
      congr 1
    rename_i x y ht
    cases h
    cases hu;cases hv
    rw[run_equalIn_string w d' t _ _ ht]
    simp[i0p]
    rename_i fs xs ys ht
    split at h
    rename_i hp
    cases hu with
    |agg us _ hl h1 hr=>
      cases hv with
      |agg vs _ hl' h1' hr'=>
        have hfo:P.fieldsOf t=fs:=by unfold Program.fieldsOf;rw[ht]
        rw[run_equalIn_struct w d' t _ _ (by rw[hfo];exact ht) hp,hfo]
        exact A0c (λt a b r hh u v hu hv=>ih t a b r hh u v hu hv d' (by omega)) hl hl' h1 h1' hr hr' fs.toList r h
    cases h
    rename_i len e xs ys ht
    split at h
    rename_i hk
    cases hu with
    |agg us _ hl h1 hr=>
      cases hv with
      |agg vs _ hl' h1' hr'=>
        rw[l0T d' t e len _ _ ht hk]
        exact A0d (λa b r hh u v hu hv=>ih e a b r hh u v hu hv d' (by omega)) hl hl' h1 h1' hr hr' len 0 r h
    cases h
    cases h
theorem B0D(h:HInv w K D H)(hs:Slots n w K D ρ a.tmps) {op:BinOp} {t ty:TypeId} {x y:Operand} (ho:o.op= .binOp op t x y ty)(hx:Operand.inB n x=true)(hy:Operand.inB n y=true) {ef:Eff}
    (he:eqE P op t (a0F ρ x) (a0F ρ y)=some ef):m0w P w K D H o a ef.v (b0t H ef.wr):=by
  have hex:execOp a.eval o=(do pure (Next.value (<-(do eqGuard op t x y (a.eval x) (a.eval y);binOp op t (a.eval x) (a.eval y):Sem Value)))):=by unfold execOp;rw[ho]
  unfold eqE at he
  split at he
  rename_i xs ys hxe hye
  have hrx:=a0e hs hx hxe
  have hry:=a0e hs hy hye
  split at he
  rename_i hg
  cases hq:eqS P 9 t (.agg xs) (.agg ys)with
  |none=>rw[hq]at he;cases he
  |some b=>
    rw[hq]at he;cases he
    have hrun:=w0v 9 t _ _ b hq _ _ hrx hry 10000 (by omega)
    generalize hvx:a.eval x=vx at hrx hrun
    generalize hvy:a.eval y=vy at hry hrun
    cases hrx with
    |agg us _ hl h1 hr=>
      cases hry with
      |agg vs _ hl' h1' hr'=>
        refine f0j h (v:= .bool b) ?_ (.bool b)
        rw[hex,hvx,hvy]
        refine b0d ?_
        simp only[Sem.run_bind,run_eqGuard_agg w .eql t x y _ _ hg,Result.andThen_ok,run_eql_struct,hrun,Sem.run_pure]
  cases he
  rename_i xs ys hxe hye
  have hrx:=a0e hs hx hxe
  have hry:=a0e hs hy hye
  split at he
  rename_i hg
  cases hq:eqS P 9 t (.agg xs) (.agg ys)with
  |none=>rw[hq]at he;cases he
  |some b=>
    rw[hq]at he;cases he
    have hrun:=w0v 9 t _ _ b hq _ _ hrx hry 10000 (by omega)
    generalize hvx:a.eval x=vx at hrx hrun
    generalize hvy:a.eval y=vy at hry hrun
    cases hrx with
    |agg us _ hl h1 hr=>
      cases hry with
      |agg vs _ hl' h1' hr'=>
        refine f0j h (v:= .bool (!b)) ?_ (.bool (!b))
        rw[hex,hvx,hvy]
        refine b0d ?_
        simp only[Sem.run_bind,run_eqGuard_agg w .neq t x y _ _ hg,Result.andThen_ok,run_neq_struct,hrun,Sem.run_pure]
  cases he
  cases he
theorem q0V(w:World)(b off c:Nat)(h:c≠b):(w.freeze ⟨b,off,none⟩ 1).heap[c]?=w.heap[c]?:=by
  unfold World.freeze
  rw[if_neg (by decide)]
  simp only[bT]
  rw[if_neg (Ne.symm h)]
theorem w0m(w:World)(b off:Nat) {arr:Array Value} {e:TypeId} (h:w.heap[b]?=some (.cells arr e (0,0))):(w.freeze ⟨b,off,none⟩ 1).heap[b]?=some (.cells arr e (off,off+1)):=by
  unfold World.freeze
  rw[if_neg (by decide)]
  simp only[bT,if_pos,h]
  rfl
theorem s0f(w:World)(b off:Nat):(w.freeze ⟨b,off,none⟩ 1).heap.size=w.heap.size:=by
  unfold World.freeze
  rw[if_neg (by decide)]
  simp
theorem s0t(h:HInv w K D H)(hs:Slots n w K D ρ a.tmps) {src dst e:TypeId} {x:Operand} (ho:o.op= .convert src dst x)(hx:Operand.inB n x=true)(hsd:src=dst)(hu:P.underlying src=some (.slice e))
    (he:P.underlying e=some (.int .u8)) {i nn k:Nat} {e':TypeId} {cs:List SV} (hxe:a0F ρ x=some (.vc i)) (hH:H[i]?=some (.vec nn k e' cs)) (hn:0<nn):m0w P w K D H o a (.lst nn k cs) (H.set i .gone):=by
  subst hsd
  have hex:execOp a.eval o=(do pure (Next.value (<-convert src src (a.eval x)))):=by unfold execOp;rw[ho]
  have hrx:=a0e hs hx hxe
  generalize hvx:a.eval x=vx at hrx
  have hil:i<H.length:=(ab.1 hH).1
  obtain⟨hp,hent⟩:=h.ent i _ hH
  rcases hent with⟨h1,h2,h3⟩|⟨b,c,vs,rest,h1,h2,h3,h4,h5,h6,h7,h8,h9⟩
  omega
  have hvv:vx= .slice (some ⟨b,0,none⟩) nn c:=by
    cases hrx with
    |vcn _ ad hd=>rw[h1]at hd;cases hd
    |vc _ b' c' n' hd=>rw[h1]at hd;cases hd;rfl
  subst hvv
  have hrun:(convert src src (.slice (some ⟨b,0,none⟩) nn c)).run P w= .ok (.slice (some ⟨b,0,none⟩) nn c) (w.freeze ⟨b,(vs++rest).toArray.size,none⟩ 1):=by
    have hsh:w.shape? b=some (e',(vs++rest).toArray.size):=by unfold World.shape?;rw[h6]
    simp[convert,run_underlying hu,run_underlying he,markStringish,hsh]
  generalize hw':w.freeze ⟨b,(vs++rest).toArray.size,none⟩ 1=w' at hrun
  have hb':w'.heap[b]?=some (.cells (vs++rest).toArray e' ((vs++rest).toArray.size,(vs++rest).toArray.size+1)):=by rw[<-hw'];exact w0m w b _ h6
  have hoth: ∀c,c≠b->w'.heap[c]?=w.heap[c]?:=λc hc=>by rw[<-hw'];exact q0V w b _ c hc
  have hsz:w'.heap.size=w.heap.size:=by rw[<-hw'];exact s0f w b _
  have hos:w'.os=w.os:=by rw[<-hw'];unfold World.freeze;rw[if_neg (by decide)]
  have htp:w'.tape=w.tape:=by rw[<-hw'];unfold World.freeze;rw[if_neg (by decide)]
  have hot:w'.output=w.output:=by rw[<-hw'];unfold World.freeze;rw[if_neg (by decide)]
  have hcell: ∀b' j,w'.cell? ⟨b',j,none⟩=w.cell? ⟨b',j,none⟩:=λb' j=>by
    unfold World.cell?
    by_cases hbb:b'=b
    subst hbb;simp only[hb',h6]
    simp only[hoth b' hbb]
  have hmono: ∀b',K b'<=(if b'=b then nn*k else K b'):=λb'=>by
    split
    rename_i e1;subst e1;omega
    exact ai _
  have hm: ∀v s,Rep w K D v s->Rep w' (λb'=>if b'=b then nn*k else K b') D v s:=λv s hr=>hr.mono (λ_ _ _=>hcell _ _) hmono (λ_ _ e=>e)
  have hmemi:Mem D H b:=⟨i,_,c,nn,hH,rfl,h1⟩
  have hget: ∀j en,(H.set i .gone)[j]?=some en->(j=i/\en= .gone)\/(j≠i/\H[j]?=some en):=by
    intro j en hj
    by_cases hji:i=j
    subst hji
    rw[bO hil]at hj
    cases hj
    exact .inl ⟨rfl,rfl⟩
    rw[bH hji]at hj;exact .inr ⟨Ne.symm hji,hj⟩
  have hmem: ∀b,Mem D (H.set i .gone) b->Mem D H b:=by
    rintro b ⟨j,en,c,n',q1,q2,q3⟩
    rcases hget j en q1 with⟨_,rfl⟩|⟨_,g1⟩
    cases q2
    exact⟨j,en,c,n',g1,q2,q3⟩
  have hrow:=f0u h6 h9
  refine⟨_,w', .inl (by rw[hex];exact b0d (by rw[hvx];exact hrun)),λb'=>if b'=b then nn*k else K b',D, ?_, ?_, ?_⟩
  refine⟨hos,htp,hot,by omega,λb' hb1 hb2=>hoth b' (fun(e1:b'=b)=>hb2 (e1▸hmemi)),λ_ _ _=>hcell _ _,hmono,λb' hb1 hb2=>if_neg (fun(e1:b'=b)=>hb2 (e1▸hmemi)),λ_ _ e=>e,λb' hb1=> .inl (hmem b' hb1)⟩
  refine⟨λj hj=>h.dom j (by simpa using hj),λj en hj=> ?_,λj j' en en' b1 c1 n1 c2 n2 hj hj' hl hl' hdj hdj'=> ?_,λb1 hb1=> ?_⟩
  rcases hget j en hj with⟨_,rfl⟩|⟨hne,g1⟩
  trivial
  refine(h.ent j en g1).keep hm rfl (λb1 c1 n1 hl hdj=> ?_)
  have hbn:b1≠b:=λe1=>by
    subst e1
    exact hne (h.inj j i en _ b1 c1 n1 c nn g1 hH hl rfl hdj h1)
  exact⟨hoth b1 hbn,if_neg hbn⟩
  rcases hget j en hj with⟨_,rfl⟩|⟨_,g1⟩
  cases hl
  rcases hget j' en' hj' with⟨_,rfl⟩|⟨_,g1'⟩
  cases hl'
  exact h.inj j j' en en' b1 c1 n1 c2 n2 g1 g1' hl hl' hdj hdj'
  rw[hsz]
  by_cases hbb:b1=b
  subst hbb;exact(ah.1 h6).1
  rw[if_neg hbb]at hb1;exact h.kw b1 hb1
  exact .lst k b 0 nn c vs cs h3 h7 h9.len h4 (λj v hj=>(hcell _ _).trans (hrow.mem j v hj)) (by simp[h7]) h9.one hp (λj v c hv hc=>hm _ _ (h9.rep j v c hv hc))
end
section
variable [Inhabited GT]
section
variable {P : Program} {n : Nat} {w : World} {K : Nat -> Nat} {D : DM} {H : a0f} {ρ : Env} {a : Act} {o : Oper} {idx : Nat}
theorem n0B {kt:TypeId} {k:SV} {v:Value} (h:n0C P kt k=true)(hr:Rep w K D v k): ∃d,P.underlying kt=some d/\MapKept.IsKey d v/\ ∀(e:Value) (c:SV),Rep w K D e c-> ∀b,e0F k c=some b->Instr.sameNow d v e=some b:=by
  unfold n0C at h
  split at h
  · rename_i q q' x hu
    simp only[decide_eq_true_eq]at h
    subst h
    cases hr
    refine⟨_,hu,rfl,λe c hc b hb=> ?_⟩
    cases hc<;>simp only[e0F]at hb<;>first|(cases hb;done)|skip
    rename_i q2 y
    by_cases hq:q=q2
    subst hq;rw[if_pos rfl]at hb;simpa [Instr.sameNow]using hb
    rw[if_neg hq]at hb;cases hb
  · rename_i x hu
    cases hr with
    |str sb=>
      refine⟨_,hu,trivial,λe c hc b hb=> ?_⟩
      cases hc<;>simp only[e0F]at hb<;>first|(cases hb;done)|skip
      rename_i sb2
      simp only[ag]at hb
      subst hb
      simp only[Instr.sameNow,ag]
      rw[Bool.eq_iff_iff,MapKept.bytes_beq]
      simp only[beq_iff_eq]
      constructor
      intro e;rw[e]
      intro e;exact ByteArray.ext (be.1 e)
  · rename_i x hu
    cases hr
    refine⟨_,hu,trivial,λe c hc b hb=> ?_⟩
    cases hc<;>simp only[e0F]at hb<;>first|(cases hb;done)|skip
    simpa [Instr.sameNow]using hb
  cases h
theorem w0o {d:TypeDesc} {v:Value} {k:SV} (hs: ∀(e:Value) (c:SV),Rep w K D e c-> ∀b,e0F k c=some b->Instr.sameNow d v e=some b): ∀(mes:List MapEntry) (es:List (SV×SV)) (q:Nat),es.length=mes.length->
    (∀(j:Nat) (me:MapEntry) (kv:SV×SV),mes[j]?=some me->es[j]?=some kv->Rep w K D me.key kv.1/\Rep w K D me.val kv.2)->
    (e0J es k=some none->Instr.findNow d v mes q=some none)/\ ∀s,e0J es k=some (some s)-> ∃i x,Instr.findNow d v mes q=some (some (i,x))/\Rep w K D x s
  | [],[],q,_,_=>⟨λ_=>rfl,λs h=>by cases h⟩
  | [],_::_,q,h,_=>by simp at h
  |_::_,[],q,h,_=>by simp at h
  |me::mes,kv::es,q,hl,hr=>by
    obtain⟨r1,r2⟩:=hr 0 me kv rfl rfl
    obtain⟨i1,i2⟩:=w0o hs mes es (q+1) (by simpa using hl) (λj me kv h1 h2=>hr (j+1) me kv (by simpa using h1) (by simpa using h2))
    cases hb:e0F k kv.1 with
    |none=>exact⟨λh=>(by simp[e0J,hb]at h),λs h=>(by simp[e0J,hb]at h)⟩
    |some b=>
      have hsn:=hs _ _ r1 b hb
      cases b with
      |true=>
        refine⟨λh=>(by simp[e0J,hb]at h),λs h=> ?_⟩
        simp only[e0J,hb,ag]at h
        subst h
        exact⟨q,me.val,by simp[Instr.findNow,hsn],r2⟩
      |false=>
        refine⟨λh=> ?_,λs h=> ?_⟩
        simp only[e0J,hb]at h
        simp only[Instr.findNow,hsn]
        exact i1 h
        simp only[e0J,hb]at h
        simp only[Instr.findNow,hsn]
        exact i2 s h
theorem w0q {d:TypeDesc} {v:Value} {k:SV} (y:SV)(hs: ∀(e:Value) (c:SV),Rep w K D e c-> ∀b,e0F k c=some b->Instr.sameNow d v e=some b): ∀(mes:List MapEntry) (es:List (SV×SV)) (q:Nat),es.length=mes.length->
    (∀(j:Nat) (me:MapEntry) (kv:SV×SV),mes[j]?=some me->es[j]?=some kv->Rep w K D me.key kv.1/\Rep w K D me.val kv.2)->
    ∀s,e0J es k=some (some s)-> ∃j me kv,mes[j]?=some me/\es[j]?=some kv/\e0F k kv.1=some true/\Instr.findNow d v mes q=some (some (q+j,me.val))/\x0e es k y=es.set j (kv.1,y)
  | [],[],q,_,_,s,h=>by cases h
  | [],_::_,q,h,_,_,_=>by simp at h
  |_::_,[],q,h,_,_,_=>by simp at h
  |me::mes,kv::es,q,hl,hr,s,h=>by
    obtain⟨r1,r2⟩:=hr 0 me kv rfl rfl
    cases hb:e0F k kv.1 with
    |none=>simp[e0J,hb]at h
    |some b=>
      have hsn:=hs _ _ r1 b hb
      cases b with
      |true=>exact⟨0,me,kv,rfl,rfl,hb,by simp[Instr.findNow,hsn],by simp[x0e,hb]⟩
      |false=>
        simp only[e0J,hb]at h
        obtain⟨j,me',kv',h1,h2,h3,h4,h5⟩:=w0q y hs mes es (q+1) (by simpa using hl) (λj me kv h1 h2=>hr (j+1) me kv (by simpa using h1) (by simpa using h2)) s h
        refine⟨j+1,me',kv',by simpa using h1,by simpa using h2,h3, ?_, ?_⟩
        simp only[Instr.findNow,hsn,h4];congr 3;omega
        simp only[x0e,hb,h5,List.set_cons_succ]
theorem w0D: ∀(d:Nat) (t:TypeId) (a:SV),r0f P d t a=true-> ∀v,Rep w K D v a-> ∀(e:Bool) (n:Nat),d<=n->(Instr.checkKey e n t v).run P w= .ok () w:=by
  intro d
  induction d with
  |zero=>intro t a h;cases h
  |succ d ih=>
    intro t a h v hv e n hn
    obtain⟨n,rfl⟩: ∃q,n=q+1:=⟨n-1,by omega⟩
    unfold r0f at h
    split at h
    rename_i fs cs hu
    cases hv with
    |agg vs _ hl h1 hr=>
      unfold Instr.checkKey
      simp only[Sem.run_bind,run_underlying hu,Result.andThen_ok]
      rw[<-Array.forIn_toList]
      generalize fs.toList=l at h
      clear hu
      induction l with
      |nil=>simp
      |cons f l ihl=>
        simp only[aE,aa,bB,beq_iff_eq]at h
        simp only[List.forIn_cons,Sem.run_bind,Sem.run_ite]
        by_cases hf : f.name = "_"
        rw[if_neg (by simp[hf])]
        simp only[Sem.run_pure,Result.andThen_ok]
        exact ihl h.2
        rw[if_pos (by simpa using hf)]
        rcases h.1 with h0|h0
        exact absurd h0 hf
        split at h0
        rename_i b hb
        obtain⟨u,hu,hur⟩:=d0k (P:=P) hl h1 hr hb
        simp only[hu,Result.andThen_ok,ih _ _ h0 u hur e n (by omega),Sem.run_pure]
        exact ihl h.2
        cases h0
    rename_i len el cs hu
    cases hv with
    |agg vs _ hl h1 hr=>
      simp only[aa,decide_eq_true_eq]at h
      obtain⟨hk,h⟩:=h
      unfold Instr.checkKey
      simp only[Sem.run_bind,run_underlying hu,Result.andThen_ok]
      rw[Std.Legacy.Range.forIn_eq_forIn_range']
      simp only[Std.Legacy.Range.size,bC,Nat.add_sub_cancel,Nat.div_one]
      generalize List.range' 0 len=l at h
      clear hu
      induction l with
      |nil=>simp
      |cons i l ihl=>
        simp only[aE,aa]at h
        simp only[List.forIn_cons,Sem.run_bind,c0g hk,Result.andThen_ok]
        have h0:=h.1
        split at h0
        rename_i b hb
        obtain⟨u,hu,hur⟩:=d0k (P:=P) hl h1 hr hb
        simp only[hu,Result.andThen_ok,ih _ _ h0 u hur e n (by omega),Sem.run_pure]
        exact ihl h.2
        cases h0
    rename_i q q' x hu
    cases hv
    unfold Instr.checkKey
    simp[run_underlying hu,Result.andThen]
    rename_i x hu
    cases hv
    unfold Instr.checkKey
    simp[run_underlying hu,Result.andThen]
    rename_i x hu
    cases hv
    unfold Instr.checkKey
    simp[run_underlying hu,Result.andThen]
    cases h
theorem t0j {kt:TypeId} {v:Value} {k:SV} (hk:Rep w K D v k): ∀(mes:List MapEntry) (es:List (SV×SV)) (q:Nat),es.length=mes.length->
    (∀(j:Nat) (me:MapEntry) (kv:SV×SV),mes[j]?=some me->es[j]?=some kv->Rep w K D me.key kv.1/\Rep w K D me.val kv.2)->
    (i0M P kt k es=some none->(Instr.findAsking kt v mes q).run P w= .ok none w)/\ ∀s,i0M P kt k es=some (some s)-> ∃i x,(Instr.findAsking kt v mes q).run P w= .ok (some (i,x)) w/\Rep w K D x s
  | [],[],q,_,_=>⟨λ_=>rfl,λs h=>by cases h⟩
  | [],_::_,q,h,_=>by simp at h
  |_::_,[],q,h,_=>by simp at h
  |me::mes,kv::es,q,hl,hr=>by
    obtain⟨r1,r2⟩:=hr 0 me kv rfl rfl
    obtain⟨i1,i2⟩:=t0j hk mes es (q+1) (by simpa using hl) (λj me kv h1 h2=>hr (j+1) me kv (by simpa using h1) (by simpa using h2))
    cases hb:eqS P 9 kt k kv.1 with
    |none=>exact⟨λh=>(by simp[i0M,hb]at h),λs h=>(by simp[i0M,hb]at h)⟩
    |some b=>
      have hsn:(Op.equal kt v me.key).run P w= .ok b w:=w0v 9 kt _ _ b hb _ _ hk r1 10000 (by omega)
      cases b with
      |true=>
        refine⟨λh=>(by simp[i0M,hb]at h),λs h=> ?_⟩
        simp only[i0M,hb,ag]at h
        subst h
        exact⟨q,me.val,by simp[Instr.findAsking,hsn],r2⟩
      |false=>
        refine⟨λh=> ?_,λs h=> ?_⟩
        simp only[i0M,hb]at h
        have:=i1 h
        simp[Instr.findAsking,hsn,this]
        simp only[i0M,hb]at h
        obtain⟨i,x,h1,h2⟩:=i2 s h
        exact⟨i,x,by simp[Instr.findAsking,hsn,h1],h2⟩
theorem d0J {kt:TypeId} {k:SV} {v:Value} (h0:n0C P kt k=true)(hr:Rep w K D v k)(hf: ∀es,k0N P kt es k=e0J es k):(∀e,(Instr.checkKey e 10000 kt v).run P w= .ok () w)/\
    ∀(mes:List MapEntry) (es:List (SV×SV)),es.length=mes.length->(∀(j:Nat) (me:MapEntry) (kv:SV×SV),mes[j]?=some me->es[j]?=some kv->Rep w K D me.key kv.1/\Rep w K D me.val kv.2)->
      (k0N P kt es k=some none->(Instr.findKey kt v mes).run P w= .ok none w)/\ ∀s,k0N P kt es k=some (some s)-> ∃i x,(Instr.findKey kt v mes).run P w= .ok (some (i,x)) w/\Rep w K D x s:=by
  obtain⟨d,hdu,hik,hsm⟩:=n0B (P:=P) h0 hr
  refine⟨λe=>MapKept.run_checkKey hdu hik e 9999,λmes es hl hre=> ?_⟩
  obtain⟨f1,f2⟩:=w0o hsm mes es 0 hl hre
  rw[hf es]
  refine⟨λhn=>MapKept.run_findKey hdu (f1 hn),λs hs=> ?_⟩
  obtain⟨i,x,h1,h2⟩:=f2 s hs
  exact⟨i,x,MapKept.run_findKey hdu h1,h2⟩
theorem v0Z {kt:TypeId} {k:SV} {v:Value} (h:n0D P kt k=true)(hr:Rep w K D v k):(∀e,(Instr.checkKey e 10000 kt v).run P w= .ok () w)/\
    ∀(mes:List MapEntry) (es:List (SV×SV)),es.length=mes.length->(∀(j:Nat) (me:MapEntry) (kv:SV×SV),mes[j]?=some me->es[j]?=some kv->Rep w K D me.key kv.1/\Rep w K D me.val kv.2)->
      (k0N P kt es k=some none->(Instr.findKey kt v mes).run P w= .ok none w)/\ ∀s,k0N P kt es k=some (some s)-> ∃i x,(Instr.findKey kt v mes).run P w= .ok (some (i,x)) w/\Rep w K D x s:=by
  cases k with
  |agg cs=>
    simp only[n0D,aa]at h
    obtain⟨hag,hck⟩:=h
    refine⟨λe=>w0D 9 kt _ hck v hr e 10000 (by omega),λmes es hl hre=> ?_⟩
    obtain⟨f1,f2⟩:=t0j (P:=P) (kt:=kt) hr mes es 0 hl hre
    have hfk:(Instr.findKey kt v mes).run P w=(Instr.findAsking kt v mes 0).run P w:=by
      unfold y0K at hag
      split at hag
      rename_i fs hu
      cases mes with
      |nil=>simp[Instr.findKey,run_underlying hu,Result.andThen,Instr.findNow,Instr.findAsking]
      |cons me mes=>simp[Instr.findKey,run_underlying hu,Result.andThen,Instr.findNow,Instr.sameNow]
      rename_i ln el hu
      cases mes with
      |nil=>simp[Instr.findKey,run_underlying hu,Result.andThen,Instr.findNow,Instr.findAsking]
      |cons me mes=>simp[Instr.findKey,run_underlying hu,Result.andThen,Instr.findNow,Instr.sameNow]
      cases hag
    rw[hfk]
    exact⟨f1,f2⟩
  |undef=>exact d0J h hr (λ_=>rfl)
  |bool b=>exact d0J h hr (λ_=>rfl)
  |int q x=>exact d0J h hr (λ_=>rfl)
  |str x=>exact d0J h hr (λ_=>rfl)
  |nl=>exact d0J h hr (λ_=>rfl)
  |lst a b c=>exact d0J h hr (λ_=>rfl)
  |ep cs=>exact d0J h hr (λ_=>rfl)
  |tup cs=>exact d0J h hr (λ_=>rfl)
  |ptr a b=>exact d0J h hr (λ_=>rfl)
  |vc a=>exact d0J h hr (λ_=>rfl)
  |sl a b c d=>exact d0J h hr (λ_=>rfl)
  |mp a=>exact d0J h hr (λ_=>rfl)
  |fn f a b=>exact d0J h hr (λ_=>rfl)
  |nilp=>exact d0J h hr (λ_=>rfl)
  |yld a=>exact d0J h hr (λ_=>rfl)
theorem o0p {v:Value} {i:Nat} (h:Rep w K D v (.mp i)): ∃r c m,v= .map (some r)/\D i=some (.at r c m):=by
  cases h with
  |mp _ r c m hd=>exact⟨r,c,m,rfl,hd⟩
theorem o0x(h:HInv w K D H) {t:TypeId} (ho:o.op= .makeMap t none)(hidx:CanNew H idx):m0w P w K D H o a (.mp idx) (g0m H idx (.map [])):=by
  have hold: ∀b,b<w.heap.size->(w.alloc (.map #[] 0)).heap[b]?=w.heap[b]?:=λb hb=>by show(w.heap.push _)[b]?=_;rw[bo,if_neg (by omega)]
  have hK0:K w.heap.size=0:=by
    rcases aZ (K w.heap.size)with h0|h0
    exact h0
    have:=h.kw w.heap.size (by omega);omega
  obtain⟨g,hi⟩:=place (w':=w.alloc (.map #[] 0)) (en:= .map []) (b:=w.heap.size) (c:=0) (m:=0) h hidx (x:=none) (by simp) (.inl (ai _)) rfl rfl rfl (by simp) (λb' _ hlt=>hold b' hlt)
    (λhr=>⟨_, #[],0,by simp[e0E],hK0,(by show(w.heap.push _)[w.heap.size]?=_;simp),rfl,⟨rfl,λj me hm=>by simp at hm⟩,λj me kv hm _=>by simp at hm⟩)
  rw[e0T]at g hi
  refine⟨.map (some w.heap.size),w.alloc (.map #[] 0), .inl ?_,⟨K,_,g,hi, .mp idx w.heap.size 0 0 (by simp[e0E])⟩⟩
  unfold execOp;rw[ho]
  rfl
theorem q0Q(h:HInv w K D H)(hs:Slots n w K D ρ a.tmps) {t:TypeId} {x y z:Operand} (ho:o.op= .insert t x y z\/o.op= .mapUpdate t x y z)(hx:Operand.inB n x=true)(hy:Operand.inB n y=true)(hz:Operand.inB n z=true)
    {ef:Eff} (he:i0i P t (a0F ρ x) (a0F ρ y) (a0F ρ z) H=some ef):m0w P w K D H o a ef.v (b0t H ef.wr):=by
  unfold i0i at he
  split at he
  · rename_i kt et i k v hu hxe hye hze
    split at he
    · rename_i es hH
      split at he
      · rename_i hkey
        split at he
        case h_3=>cases he
        case h_2 hfn=>
          have hint: ∃kd x',k= .int kd x':=by cases k<;>first|(cases he;done)|exact⟨_,_,rfl⟩
          obtain⟨kd,x',rfl⟩:=hint
          cases he
          obtain⟨r,c,m,hvx,hd⟩:=o0p (a0e hs hx hxe)
          obtain⟨r',mes,clock,h1,h2,h3,h4,hB,h5⟩:=h.ent i _ hH
          rw[h1]at hd;cases hd
          have hky:=a0e hs hy hye
          have hvz:=a0e hs hz hze
          obtain⟨d,hdu,hik,hsm⟩:=n0B (P:=P) hkey hky
          have hck:=MapKept.run_checkKey (w:=w) hdu hik false 9999
          obtain⟨j,me,kv,m1,m2,m3,m4,m5⟩:=w0q v hsm mes.toList es 0 (by simpa using h4) (λj me kv hm hk=>h5 j me kv (by simpa using hm) hk) _ hfn
          have hkeep:=MapKept.run_keyThatStays (P:=P) (w:=w) hik
          have hfind:=MapKept.run_findKey (w:=w) hdu m4
          obtain⟨kv1,kv2⟩:=kv
          obtain⟨e1,e2⟩:=h5 j me _ (by simpa using m1) m2
          simp only at e1 e2 m3
          have hlt:r<w.heap.size:=(ah.1 h3).1
          generalize hkv:a.eval y=vk at hky hck hfind hkeep hik hsm m4
          generalize hvv:a.eval z=vv at hvz
          have hkk: ∀mk,Rep w K D mk kv1->mk=vk/\kv1= .int kd x':=by
            intro mk e1
            cases hky
            cases e1<;>simp only[e0F]at m3<;>first|(cases m3;done)|skip
            rename_i q2 y2
            by_cases hq:kd=q2
            subst hq
            rw[if_pos rfl]at m3
            have:x'=y2:=by simpa using m3
            subst this;exact⟨rfl,rfl⟩
            rw[if_neg hq]at m3;cases m3
          obtain⟨hk1,hk2⟩:=hkk _ e1
          have hmj:mes[j]?=some me:=by simpa using m1
          have hrun:(Instr.mapUpdate t (a.eval x) (a.eval y) (a.eval z)).run P w= .ok () { w with heap:=w.heap.setIfInBounds r (.map (mes.modify j λe=> { e with key:=vk,val:=vv }) clock) } :=by
            rw[hvx,hkv,hvv]
            simp[Instr.mapUpdate,run_underlying hu,MapKept.run_getObj_map h3,hck,hfind,hmj,hk1,hkeep,MapKept.run_setObj_map _ h3,Result.andThen]
          obtain⟨g,hiv⟩:=modify (w':= { w with heap:=w.heap.setIfInBounds r (.map (mes.modify j λe=> { e with key:=vk,val:=vv }) clock) }) (en':= .map (x0e es (.int kd x') v)) h hH rfl rfl h1 rfl rfl rfl (by simp)
            (λb' hb'=>by simp[Ne.symm hb'])
            (λhr=>⟨r,mes.modify j (λe=> { e with key:=vk,val:=vv }),clock,h1,h2,by simp[hlt],by rw[m5];simpa using h4,⟨by simp[hB.1],λq me' hm=>by
              rw[bT]at hm
              by_cases hj:j=q
              subst hj
              rw[if_pos rfl,hmj]at hm
              simp only[aP,ag]at hm
              subst hm
              exact hB.2 _ me hmj
              rw[if_neg hj]at hm
              exact hB.2 q me' hm⟩,λq me' kv' hm hk=>by
              rw[bT]at hm
              rw[m5,aL]at hk
              by_cases hj:j=q
              subst hj
              rw[if_pos rfl,hmj]at hm
              simp only[aP,ag]at hm
              subst hm
              rw[if_pos rfl,if_pos (ab.1 m2).1]at hk
              simp only[ag]at hk
              subst hk
              rw[hk2]
              exact⟨hr _ _ hky,hr _ _ hvz⟩
              rw[if_neg hj]at hm hk
              exact⟨hr _ _ (h5 q me' kv' hm hk).1,hr _ _ (h5 q me' kv' hm hk).2⟩⟩)
          refine⟨undef, { w with heap:=w.heap.setIfInBounds r (.map (mes.modify j λe=> { e with key:=vk,val:=vv }) clock) }, .inr ⟨?_,rfl⟩, ?_⟩
          · unfold execOp
            rcases ho with ho|ho<;>rw[ho]<;>simp[hrun]
          simp only[b0t,g0m,if_pos (ab.1 hH).1]
          exact⟨K,D,g,hiv, .undef _⟩
        rename_i hfn
        cases he
        obtain⟨r,c,m,hvx,hd⟩:=o0p (a0e hs hx hxe)
        obtain⟨r',mes,clock,h1,h2,h3,h4,hB,h5⟩:=h.ent i _ hH
        rw[h1]at hd;cases hd
        have hky:=a0e hs hy hye
        have hvz:=a0e hs hz hze
        obtain⟨hck,hfd⟩:=v0Z (P:=P) hkey hky
        obtain⟨f1,_⟩:=hfd mes.toList es (by simpa using h4) (λj me kv hm hk=>h5 j me kv (by simpa using hm) hk)
        have hfind:=f1 hfn
        have hlt:r<w.heap.size:=(ah.1 h3).1
        generalize hkv:a.eval y=vk at hky hck hfind
        generalize hvv:a.eval z=vv at hvz
        have hrun:(Instr.mapUpdate t (a.eval x) (a.eval y) (a.eval z)).run P w= .ok () { w with heap:=w.heap.setIfInBounds r (.map (mes.push { key:=vk,val:=vv,born:=clock }) (clock+1)) } :=by
          rw[hvx,hkv,hvv]
          simp[Instr.mapUpdate,run_underlying hu,MapKept.run_getObj_map h3,hck,hfind,MapKept.run_setObj_map _ h3,Result.andThen]
        obtain⟨g,hiv⟩:=modify (w':= { w with heap:=w.heap.setIfInBounds r (.map (mes.push { key:=vk,val:=vv,born:=clock }) (clock+1)) }) (en':= .map (es++ [(k,v)])) h hH rfl rfl h1 rfl rfl rfl (by simp)
          (λb' hb'=>by simp[Ne.symm hb'])
          (λhr=>⟨r,mes.push { key:=vk,val:=vv,born:=clock },clock+1,h1,h2,by simp[hlt],by simp[h4],⟨by simp[hB.1],λj me hm=>by
            rw[bo]at hm
            split at hm
            rename_i hj;cases hm;rw[hB.1];exact hj.symm
            exact hB.2 j me hm⟩,λj me kv hm hk=>by
            rw[bo]at hm
            rw[aD]at hk
            by_cases hj:j<es.length
            rw[if_pos hj]at hk
            rw[if_neg (by omega)]at hm
            exact⟨hr _ _ (h5 j me kv hm hk).1,hr _ _ (h5 j me kv hm hk).2⟩
            rw[if_neg hj]at hk
            have hj0:j-es.length=0:=by
              have:=(ab.1 hk).1
              simp at this;omega
            rw[hj0]at hk
            simp only[bK,ag]at hk
            subst hk
            rw[if_pos (by omega)]at hm
            simp only[ag]at hm
            subst hm
            exact⟨hr _ _ hky,hr _ _ hvz⟩⟩)
        refine⟨undef, { w with heap:=w.heap.setIfInBounds r (.map (mes.push { key:=vk,val:=vv,born:=clock }) (clock+1)) }, .inr ⟨?_,rfl⟩, ?_⟩
        · unfold execOp
          rcases ho with ho|ho<;>rw[ho]<;>simp[hrun]
        simp only[b0t,g0m,if_pos (ab.1 hH).1]
        exact⟨K,D,g,hiv, .undef _⟩
      cases he
    cases he
  cases he
theorem l0A {t:TypeId} {sm sk sv:Option SV} {H':a0f} {ef:Eff} (he:i0i P t sm sk sv H=some ef)(hr: ∀i∈ef.rd,H'[i]?=H[i]?):i0i P t sm sk sv H'=some ef:=by
  unfold i0i at he⊢
  split at he
  · rename_i kt et i k v hu
    split at he
    · rename_i es hH
      split at he
      · rename_i hkey
        split at he
        case h_3=>cases he
        case h_2 hfn=>
          have hint: ∃kd x',k= .int kd x':=by cases k<;>first|(cases he;done)|exact⟨_,_,rfl⟩
          obtain⟨kd,x',rfl⟩:=hint
          cases he
          rw[hr i (by simp),hH]
          simp only
          rw[if_pos hkey,hfn]
        rename_i hfn
        cases he
        rw[hr i (by simp),hH]
        simp only
        rw[if_pos hkey,hfn]
      cases he
    cases he
  cases he
theorem p0l {t:TypeId} {sm sk:Option SV} {ok:Bool} {H':a0f} {ef:Eff} (he:h0E P t sm sk ok H=some ef)(hr: ∀i∈ef.rd,H'[i]?=H[i]?):h0E P t sm sk ok H'=some ef:=by
  unfold h0E at he⊢
  split at he
  · rename_i kt et i k hu
    split at he
    · rename_i es hH
      split at he
      · rename_i hkey
        have hrd:ef.rd=[i]:=by
          split at he<;>first|(cases he;rfl)|cases he
        rw[hr i (by rw[hrd];simp),hH]
        simp only
        rw[if_pos hkey]
        exact he
      cases he
    cases he
  cases he
theorem u0B {t:TypeId} {s:SV} (h:t0v P t=some s): ∃z,(zeroValue t).run P w= .ok z w/\Rep w K D z s:=by
  unfold t0v at h
  split at h
  rename_i i hi
  split at h
  rename_i z hz
  cases h
  refine⟨z,by simp[zeroValue,typeInfo,hi,hz], ?_⟩
  cases hc:j0O z with
  |none=>exact .undef _
  |some c=>exact i0q hc
  cases h
  cases h
theorem o0I {ok b:Bool} {v:Value} {s:SV} (h:Rep w K D v s):Rep w K D (if ok then .tuple #[v, .bool b]else v) (i0w ok s b):=by
  cases ok with
  |false=>exact h
  |true=>
    refine .tup [v, .bool b] [s, .bool b] rfl (λj x c hx hc=> ?_)
    match j with
    |0=>simp at hx hc;subst hx;subst hc;exact h
    |1=>simp at hx hc;subst hx;subst hc;exact .bool _
    |j+2=>simp at hx
theorem v0L(h:HInv w K D H)(hs:Slots n w K D ρ a.tmps) {t:TypeId} {x y:Operand} {ok:Bool} (ho:o.op= .lookup t x y ok)(hx:Operand.inB n x=true)(hy:Operand.inB n y=true)
    {ef:Eff} (he:h0E P t (a0F ρ x) (a0F ρ y) ok H=some ef):m0w P w K D H o a ef.v (b0t H ef.wr):=by
  unfold h0E at he
  split at he
  rename_i kt et i k hu hxe hye
  split at he
  rename_i es hH
  split at he
  rename_i hkey
  obtain⟨r,c,m,hvx,hd⟩:=o0p (a0e hs hx hxe)
  obtain⟨r',mes,clock,h1,h2,h3,h4,hB,h5⟩:=h.ent i _ hH
  rw[h1]at hd;cases hd
  have hky:=a0e hs hy hye
  obtain⟨hck,hfd⟩:=v0Z (P:=P) hkey hky
  obtain⟨f1,f2⟩:=hfd mes.toList es (by simpa using h4) (λj me kv hm hk=>h5 j me kv (by simpa using hm) hk)
  generalize hkv:a.eval y=vk at hky hck f1 f2
  have hex:execOp a.eval o=(do pure (Next.value (<-Instr.lookup t (a.eval x) (a.eval y) ok)):Sem Next):=by unfold execOp;rw[ho]
  split at he
  rename_i zz v hf
  cases he
  obtain⟨q,vv,hq,hrv⟩:=f2 v hf
  refine f0j h (v:=if ok then .tuple #[vv, .bool true]else vv) ?_ (o0I hrv)
  rw[hex]
  refine b0d ?_
  rw[hvx,hkv]
  simp[Instr.lookup,run_underlying hu,MapKept.run_getObj_map h3,hck,hq,Result.andThen]
  rename_i z hf hz
  cases he
  have hq:=f1 hf
  obtain⟨vz,hzr,hrz⟩:=u0B (w:=w) (K:=K) (D:=D) hz
  refine f0j h (v:=if ok then .tuple #[vz, .bool false]else vz) ?_ (o0I hrz)
  rw[hex]
  refine b0d ?_
  rw[hvx,hkv]
  simp[Instr.lookup,run_underlying hu,MapKept.run_getObj_map h3,hck,hq,hzr,Result.andThen]
  cases he
  cases he
  cases he
  cases he
end
end
section
variable [Inhabited GT]
section
variable {P : Program} {n : Nat} {w : World} {K : Nat -> Nat} {D : DM} {H : a0f} {ρ : Env} {a : Act} {o : Oper} {idx : Nat}
theorem n0l {i:Nat} {en en':Ent} (h:H[i]?=some en'):g0m H i en=H.set i en:=by
  unfold g0m;rw[if_pos (ab.1 h).1]
theorem u0d(h:HInv w K D H)(hs:Slots n w K D ρ a.tmps)(hb:Op.inB n o.op=true)(hidx:CanNew H idx) {ef:Eff} (he:a0q P o ρ H idx=some ef):m0w P w K D H o a ef.v (b0t H ef.wr):=by
  unfold Op.inB at hb
  rw[aK]at hb
  cases ho:o.op
  case box e x=>
    simp only[a0q,ho]at he
    split at he
    rename_i cs hc;cases he;exact B0H h hs ho (hb x (by simp[ho,Op.operands])) hidx hc
    cases he
  case alloc t=>
    simp only[a0q,ho]at he
    split at he
    rename_i cs hc;cases he;exact y0p h ho hidx hc
    cases he
  case load t x=>
    simp only[a0q,ho]at he
    split at he
    rename_i i off hxe
    split at he
    rename_i cs hc
    cases hv:b0j P t (cs.drop off)with
    |none=>rw[hv]at he;cases he
    |some v=>rw[hv]at he;cases he;exact x0R h hs ho (hb x (by simp[ho,Op.operands])) hxe hc hv
    cases he
    cases he
  case store t x y=>
    simp only[a0q,ho]at he
    split at he
    · rename_i i off ps hxe hye
      split at he
      · rename_i en hH
        split at he
        · rename_i cs hc
          split at he<;>cases he
          rename_i hcond
          obtain⟨c1,c2,c3,c4⟩:=hcond
          simp only[b0t,n0l hH]
          exact u0T h hs ho (hb x (by simp[ho,Op.operands])) (hb y (by simp[ho,Op.operands])) hxe hye hH hc c1 c2 c3 c4
        cases he
      cases he
    cases he
  case indexAddr t x y=>
    simp only[a0q,ho]at he
    split at he
    · rename_i e i kk j hu hxe hye
      split at he
      · rename_i nn k e' cs hH
        split at he<;>cases he
        rename_i hc
        obtain⟨c1,c2,c3,c4⟩:=hc
        exact r0Z h hs ho (hb x (by simp[ho,Op.operands])) (hb y (by simp[ho,Op.operands])) hu hxe hye hH c1 c2 c3 c4
      cases he
    cases he
  case slice t x lo hi mx=>
    simp only[a0q,ho]at he
    split at he
    · rename_i len e i off hu hxe
      split at he
      · rename_i hh hbd
        split at he<;>cases he
        rename_i hc
        obtain⟨c1,c2,c3⟩:=hc
        exact r0A h hs ho (hb x (by simp[ho,Op.operands])) (λy hy=>hb y (by subst hy;simp[ho,Op.operands])) hu hxe hbd c1 c2 c3
      cases he
    cases he
  case buildSlice t len parts=>
    have hpb: ∀p∈parts.toList,Operand.inB n p.2=true:=λp hp=>hb p.2 (by simp only[ho,Op.operands,ck,aR];exact⟨p,hp,rfl⟩)
    simp only[a0q,ho]at he
    split at he
    · rename_i e hu
      split at he
      · rename_i zs hz
        split at he
        · rename_i hc
          obtain⟨hok,hmax⟩:=hc
          split at he
          · rename_i cs hf
            obtain⟨cells',hrun,hcr,hcl⟩:=p0G (P:=P) h hs ho hpb hu hz hok hmax hf
            obtain⟨i',z',hi',hz',hzs,hk,hk0,hby⟩:=e0L hok
            split at he
            rename_i h0
            cases he
            subst h0
            obtain⟨g,hiv⟩:=HInv.push (w':=w.alloc (.cells cells' e)) (K':=K) h rfl rfl rfl rfl (λ_ _=>rfl)
            exact⟨_,_, .inl hrun,⟨K,D,g,hiv, .nl _⟩⟩
            · split at he<;>cases he
              rename_i hpl
              have hg:=r0T (w':=w.alloc (.cells cells' e)) (L:=cells') (vs:=cells'.toList) (rest:=[]) (cap:=len) (len:=len) (k:=P.cellsOf e) (e:=e) h hidx none (by simp) hcr hpl (by simp) rfl rfl rfl rfl hk0 (by simpa using hcl) (ai _) (by simpa using hcl) (by
                have:len*1<=len*P.cellsOf e:=Nat.mul_le_mul_left _ hk0
                unfold maxLen;omega)
              rw[e0T]at hg
              exact⟨_,_, .inl hrun,hg⟩
          cases he
        cases he
      cases he
    cases he
  case binOp op t x y ty=>
    simp only[a0q,ho]at he
    exact B0D h hs ho (hb x (by simp[ho,Op.operands])) (hb y (by simp[ho,Op.operands])) he
  case makeMap t r=>
    cases r with
    |none=>
      simp only[a0q,ho]at he
      split at he
      cases he;exact o0x h ho hidx
      cases he
    |some r=>simp only[a0q,ho]at he;cases he
  case insert t m k v=>
    simp only[a0q,ho]at he
    exact q0Q h hs (.inl ho) (hb m (by simp[ho,Op.operands])) (hb k (by simp[ho,Op.operands])) (hb v (by simp[ho,Op.operands])) he
  case mapUpdate t m k v=>
    simp only[a0q,ho]at he
    exact q0Q h hs (.inr ho) (hb m (by simp[ho,Op.operands])) (hb k (by simp[ho,Op.operands])) (hb v (by simp[ho,Op.operands])) he
  case lookup t m k ok=>
    simp only[a0q,ho]at he
    exact v0L h hs ho (hb m (by simp[ho,Op.operands])) (hb k (by simp[ho,Op.operands])) he
  case makeSlice t x y=>
    simp only[a0q,ho]at he
    split at he
    · rename_i e kl l kc c hu hxe hye
      split at he
      · rename_i zs hz
        split at he<;>cases he
        rename_i hc
        exact q0F h hs ho (hb x (by simp[ho,Op.operands])) (hb y (by simp[ho,Op.operands])) hu hidx hxe hye hz hc.1 hc.2.1 hc.2.2.1 hc.2.2.2.1 hc.2.2.2.2
      cases he
    cases he
  case convert src dst x=>
    simp only[a0q,ho]at he
    split at he
    rename_i e s hu1 hu2 hxe
    split at he
    rename_i he8;cases he;exact t0z h hs ho (hb x (by simp[ho,Op.operands])) hu1 hu2 he8 hxe
    rename_i he8;cases he;exact t0y h hs ho (hb x (by simp[ho,Op.operands])) hu1 hu2 he8 hxe
    cases he
    rename_i s hu1 hu2 hxe
    cases he;exact x0h h hs ho (hb x (by simp[ho,Op.operands])) hu1 hu2 hxe
    · rename_i e e' i hu1 hu2 hxe
      split at he
      · rename_i nn k e2 cs he8 hH
        split at he<;>cases he
        rename_i hc
        simp only[b0t,n0l hH]
        exact s0t h hs ho (hb x (by simp[ho,Op.operands])) hc.1 hu1 he8 hxe hH hc.2
      cases he
    · rename_i e s hu1 hu2 hxe
      split at he
      · rename_i m cs rd he8 hsc
        split at he<;>cases he
        rename_i hc
        exact x0g h hs ho (hb x (by simp[ho,Op.operands])) hu1 hu2 he8 hxe hsc hc.1 hc.2
      · rename_i m cs rd he8 hsc
        split at he<;>cases he
        rename_i hc
        exact u0G h hs ho (hb x (by simp[ho,Op.operands])) hu1 hu2 he8 hxe hsc hc.1 hc.2
      cases he
    cases he
  case call c=>
    have hbc: ∀x∈c.args,Operand.inB n x=true:=λx hx=>hb x (by simp only[ho,Op.operands,Call.operands];exact bw.2 (.inr hx))
    simp only[a0q,ho]at he
    split at he
    rename_i hcal;exact w0N h hs ho hcal hbc hidx he
    rename_i hcal;exact A0t h hs ho hcal hbc he
    rename_i hcal
    split at he
    rename_i x t ha ht
    split at he
    rename_i e i hu hxe
    split at he
    rename_i nn k e' cs hH
    cases he
    exact v0U h hs ho hcal ha ht (hbc x (by rw[<-aC,ha];simp)) hu hxe hH
    cases he
    cases he
    cases he
    rename_i hcal
    split at he
    rename_i x r ha
    split at he
    rename_i k ax hxe
    cases hv:v0G false k ax ρ r with
    |none=>rw[hv]at he;cases he
    |some v=>rw[hv]at he;cases he;exact q0z (big:=false) h hs ho hcal ha hbc hxe hv
    cases he
    cases he
    rename_i hcal
    split at he
    rename_i x r ha
    split at he
    rename_i k ax hxe
    cases hv:v0G true k ax ρ r with
    |none=>rw[hv]at he;cases he
    |some v=>rw[hv]at he;cases he;exact q0z (big:=true) h hs ho hcal ha hbc hxe hv
    cases he
    cases he
    cases he
  all_goals(simp only[a0q,ho]at he;cases he)
theorem s0V(h:HInv w K D H)(hs:Slots n w K D ρ a.tmps)(hb:Op.inB n o.op=true)(hidx:CanNew H idx) {ef:Eff} (he:a0E P o ρ H idx=some ef):m0w P w K D H o a ef.v (b0t H ef.wr):=by
  unfold a0E at he
  split at he
  rename_i v hv
  cases he
  obtain⟨r,hr,hrep⟩:=t0R hs hb hv
  exact f0j h hr hrep
  exact u0d h hs hb hidx he
/-! What an operation looks at. -/
theorem n0N {ρ ρ':Env} {place:Nat->Option (Nat×Nat)} : ∀(parts:List (Nat×Operand)) (cs:List SV),(∀p∈parts,a0F ρ p.2=a0F ρ' p.2)->l0E ρ place cs parts=l0E ρ' place cs parts:=by
  intro parts
  induction parts with
  |nil=>intro cs _;rfl
  |cons p rest ih=>
    intro cs h
    obtain⟨i,x⟩:=p
    have hx:=h (i,x) (ar ..)
    simp only at hx
    simp only[l0E,hx]
    split
    split
    exact ih _ λp hp=>h p (am _ hp)
    rfl
    rfl
theorem m0f {ρ ρ':Env} : ∀(l:List Operand),(∀x∈l,a0F ρ x=a0F ρ' x)->l.mapM (a0F ρ)=l.mapM (a0F ρ'):=by
  intro l
  induction l with
  |nil=>intro _;rfl
  |cons x l ih=>
    intro h
    simp only[cg,h x (ar ..),ih λy hy=>h y (am _ hy)]
theorem o0v {ρ ρ':Env} {big:Bool} {k:IntKind} : ∀(l:List Operand) (acc:Int),(∀x∈l,a0F ρ x=a0F ρ' x)->v0G big k acc ρ l=v0G big k acc ρ' l:=by
  intro l
  induction l with
  |nil=>intro acc _;rfl
  |cons x l ih=>
    intro acc h
    simp only[v0G,h x (ar ..)]
    split
    split
    exact ih _ λy hy=>h y (am _ hy)
    rfl
    rfl
theorem j0Q {ρ ρ':Env} {l:Option Operand} {d:Int} (hl: ∀y,l=some y->a0F ρ y=a0F ρ' y):g0j ρ l d=g0j ρ' l d:=by
  cases l with
  |none=>rfl
  |some y=>simp only[g0j,hl y rfl]
theorem m0H {c:Call} {x:Operand} (h:x∈c.args.toList):x∈c.operands:=by
  unfold Call.operands;exact bw.2 (.inr (aC.1 h))
theorem k0A {ρ ρ':Env} (h: ∀x∈o.op.operands,a0F ρ x=a0F ρ' x):a0g P o ρ=a0g P o ρ':=by
  cases ho:o.op
  case build t parts=>
    have hp: ∀p∈parts.toList,a0F ρ p.2=a0F ρ' p.2:=λp hp=>h p.2 (by simp only[ho,Op.operands,ck,aR];exact⟨p,hp,rfl⟩)
    simp only[a0g,ho,n0N parts.toList _ hp]
  case slice t x lo hi mx=>
    simp only[a0g,ho,h x (by simp[ho,Op.operands])]
    simp only[j0Q (l:=lo) (λy hy=>h y (by subst hy;simp[ho,Op.operands])),j0Q (l:=hi) (λy hy=>h y (by subst hy;simp[ho,Op.operands]))]
  case makeFunc f p q=>
    simp only[a0g,ho,m0f p.toList (λx hx=>h x (by simp only[ho,Op.operands];exact bw.2 (.inl (aC.1 hx)))),
      m0f q.toList (λx hx=>h x (by simp only[ho,Op.operands];exact bw.2 (.inr (aC.1 hx))))]
  case call c=>
    have hc: ∀x∈c.args.toList,a0F ρ x=a0F ρ' x:=λx hx=>h x (by simp only[ho,Op.operands];exact m0H hx)
    simp only[a0g,ho,s0w]
    split
    split
    rename_i x t hargs htys
    rw[hc x (by rw[hargs];simp)]
    rfl
    rfl
  case pick c x y=>simp only[a0g,ho,h c (by simp[ho,Op.operands]),h x (by simp[ho,Op.operands]),h y (by simp[ho,Op.operands])]
  case binOp op t x y u=>simp only[a0g,ho,h x (by simp[ho,Op.operands]),h y (by simp[ho,Op.operands])]
  case indexAddr t x i=>simp only[a0g,ho,h x (by simp[ho,Op.operands]),h i (by simp[ho,Op.operands])]
  case index t x i=>simp only[a0g,ho,h x (by simp[ho,Op.operands]),h i (by simp[ho,Op.operands])]
  case move x=>simp only[a0g,ho,h x (by simp[ho,Op.operands])]
  case assign x=>simp only[a0g,ho,h x (by simp[ho,Op.operands])]
  case unOp op t x=>simp only[a0g,ho,h x (by simp[ho,Op.operands])]
  case convert s d x=>simp only[a0g,ho,h x (by simp[ho,Op.operands])]
  case extract x i=>simp only[a0g,ho,h x (by simp[ho,Op.operands])]
  case nilCheck x=>simp only[a0g,ho,h x (by simp[ho,Op.operands])]
  case fieldAddr t x f=>simp only[a0g,ho,h x (by simp[ho,Op.operands])]
  case field t x f=>simp only[a0g,ho,h x (by simp[ho,Op.operands])]
  case load t x=>simp only[a0g,ho,h x (by simp[ho,Op.operands])]
  all_goals simp only[a0g,ho]
theorem h0J {H H':a0f} {k m:Nat} {s:SV} {cs:List SV} {rd:List Nat} (hs:p0N k s H=some (m,cs,rd))(hr: ∀i∈rd,H'[i]?=H[i]?):p0N k s H'=some (m,cs,rd):=by
  unfold p0N at hs⊢
  split
  exact hs
  exact hs
  exact hs
  · rename_i j
    simp only at hs
    split at hs
    · rename_i n k' e cs' hj
      split at hs<;>cases hs
      rename_i hc
      rw[hr j (by simp),hj]
      simp only
      rw[if_pos hc]
    cases hs
  · rename_i j off n k'
    simp only at hs
    split at hs
    · rename_i cs' hj
      split at hs<;>cases hs
      rename_i hc
      rw[hr j (by simp),hj]
      simp only
      rw[if_pos hc]
    cases hs
  · rename_i h1 h2 h3 h4 h5
    cases s<;>first|exact(h1 _ _ _ rfl).elim|exact(h2 rfl).elim|exact(h3 _ rfl).elim|exact(h4 _ rfl).elim|exact(h5 _ _ _ _ rfl).elim|cases hs
theorem o0k {P:Program} {H H':a0f} {e k m tx:Nat} {s:SV} {cs:List SV} {rd:List Nat} (hs:t0B P e k tx s H=some (m,cs,rd))(hr: ∀i∈rd,H'[i]?=H[i]?):t0B P e k tx s H'=some (m,cs,rd):=by
  unfold t0B at hs⊢
  split at hs
  exact hs
  split at hs
  rename_i hst
  rw[if_pos hst]
  exact h0J hs hr
  cases hs
theorem j0n {ρ ρ':Env} {H H':a0f} {ef:Eff} (h: ∀x∈o.op.operands,a0F ρ x=a0F ρ' x)(he:a0E P o ρ H idx=some ef)(hr: ∀i∈ef.rd,H'[i]?=H[i]?):a0E P o ρ' H' idx=some ef:=by
  unfold a0E at he⊢
  rw[<-k0A h]
  split
  rename_i v hv
  rw[hv]at he
  exact he
  · rename_i hn
    rw[hn]at he
    simp only at he
    cases ho:o.op
    case box e x=>
      simp only[a0q,ho]at he⊢
      rw[<-h x (by simp[ho,Op.operands])];exact he
    case alloc t=>simp only[a0q,ho]at he⊢;exact he
    case load t x=>
      simp only[a0q,ho]at he⊢
      rw[<-h x (by simp[ho,Op.operands])]
      split at he
      rename_i i off hxe
      split at he
      rename_i cs hc
      cases hv:b0j P t (cs.drop off)with
      |none=>rw[hv]at he;cases he
      |some v=>
        rw[hv]at he;cases he
        rw[hr i (by simp),hc]
        simp[hv]
      cases he
      cases he
    case store t x y=>
      simp only[a0q,ho]at he⊢
      rw[<-h x (by simp[ho,Op.operands]),<-h y (by simp[ho,Op.operands])]
      split at he
      · rename_i i off ps hxe hye
        split at he
        · rename_i en hH
          split at he
          · rename_i cs hc
            split at he<;>cases he
            rename_i hcond
            rw[hr i (by simp),hH]
            simp only[hc]
            rw[if_pos hcond]
          cases he
        cases he
      cases he
    case indexAddr t x y=>
      simp only[a0q,ho]at he⊢
      rw[<-h x (by simp[ho,Op.operands]),<-h y (by simp[ho,Op.operands])]
      split at he
      · rename_i e i kk j hu hxe hye
        split at he
        · rename_i nn k e' cs hH
          split at he<;>cases he
          rename_i hc
          rw[hr i (by simp),hH]
          simp only
          rw[if_pos hc]
        cases he
      cases he
    case slice t x lo hi mx=>
      simp only[a0q,ho]at he⊢
      rw[<-h x (by simp[ho,Op.operands])]
      simp only[<-j0Q (l:=hi) (λy hy=>h y (by subst hy;simp[ho,Op.operands]))]
      exact he
    case buildSlice t len parts=>
      have hp: ∀p∈parts.toList,a0F ρ p.2=a0F ρ' p.2:=λp hp=>h p.2 (by simp only[ho,Op.operands,ck,aR];exact⟨p,hp,rfl⟩)
      simp only[a0q,ho]at he⊢
      simp only[<-n0N parts.toList _ hp]
      exact he
    case binOp op t x y ty=>
      simp only[a0q,ho]at he⊢
      rw[<-h x (by simp[ho,Op.operands]),<-h y (by simp[ho,Op.operands])]
      exact he
    case makeMap t r=>cases r<;>(simp only[a0q,ho]at he⊢;exact he)
    case insert t m k v=>
      simp only[a0q,ho]at he⊢
      rw[<-h m (by simp[ho,Op.operands]),<-h k (by simp[ho,Op.operands]),<-h v (by simp[ho,Op.operands])]
      exact l0A he hr
    case mapUpdate t m k v=>
      simp only[a0q,ho]at he⊢
      rw[<-h m (by simp[ho,Op.operands]),<-h k (by simp[ho,Op.operands]),<-h v (by simp[ho,Op.operands])]
      exact l0A he hr
    case lookup t m k ok=>
      simp only[a0q,ho]at he⊢
      rw[<-h m (by simp[ho,Op.operands]),<-h k (by simp[ho,Op.operands])]
      exact p0l he hr
    case makeSlice t x y=>
      simp only[a0q,ho]at he⊢
      rw[<-h x (by simp[ho,Op.operands]),<-h y (by simp[ho,Op.operands])]
      exact he
    case convert src dst x=>
      simp only[a0q,ho]at he⊢
      rw[<-h x (by simp[ho,Op.operands])]
      split at he
      exact he
      exact he
      · rename_i e e' i hu1 hu2 hxe
        split at he
        · rename_i nn k e2 cs he8 hH
          split at he<;>cases he
          rename_i hc
          rw[hr i (by simp),hH]
          simp only[he8]
          rw[if_pos hc]
        cases he
      · rename_i e s hu1 hu2 hxe
        split at he
        · rename_i m cs rd he8 hsc
          split at he<;>cases he
          rename_i hc
          rw[h0J hsc hr]
          simp only[he8]
          rw[if_pos hc]
        · rename_i m cs rd he8 hsc
          split at he<;>cases he
          rename_i hc
          rw[h0J hsc hr]
          simp only[he8]
          rw[if_pos hc]
        cases he
      cases he
    case call c=>
      have hc: ∀x∈c.args.toList,a0F ρ x=a0F ρ' x:=λx hx=>h x (by simp only[ho,Op.operands];exact m0H hx)
      simp only[a0q,ho]at he⊢
      split at he
      · rename_i hcal
        unfold j0S at he⊢
        split at he
        · rename_i x y t tx hargs htys
          rw[<-hc x (by rw[hargs];simp),<-hc y (by rw[hargs];simp)]
          split at he
          · rename_i e sy hu hxe hye
            split at he
            · rename_i m cs2 rd hsc
              split at he<;>cases he
              rename_i hcd
              rw[o0k hsc hr]
              simp only
              rw[if_pos hcd]
            cases he
          · rename_i e i0 sy hu hxe hye
            split at he
            · rename_i nn k e' cs hH
              split at he
              · rename_i m cs2 rd hsc
                split at he<;>cases he
                rename_i hcd
                rw[hr i0 (by simp),hH]
                simp only
                rw[o0k hsc (λi hi=>hr i (by simp[hi]))]
                simp only
                rw[if_pos hcd]
              cases he
            cases he
          cases he
        cases he
      · rename_i hcal
        unfold w0A at he⊢
        split at he
        · rename_i x y t tx hargs htys
          rw[<-hc x (by rw[hargs];simp),<-hc y (by rw[hargs];simp)]
          split at he
          · rename_i e i0 sy hu hxe hye
            split at he
            · rename_i nn k e' cs hH
              split at he
              · rename_i m cs2 rd hsc
                split at he<;>cases he
                rename_i hcd
                rw[hr i0 (by simp),hH]
                simp only
                rw[h0J hsc (λi hi=>hr i (by simp[hi]))]
                simp only
                rw[if_pos hcd]
              cases he
            cases he
          · rename_i e i0 off nn k sy hu hxe hye
            split at he
            · rename_i cs hH
              split at he
              · rename_i m cs2 rd hsc
                split at he<;>cases he
                rename_i hcd
                rw[hr i0 (by simp),hH]
                simp only
                rw[h0J hsc (λi hi=>hr i (by simp[hi]))]
                simp only
                rw[if_pos hcd]
              cases he
            cases he
          cases he
        cases he
      rename_i hcal
      split at he
      rename_i x t ha ht
      rw[<-hc x (by rw[ha];simp)]
      split at he
      rename_i e i hu hxe
      split at he
      rename_i nn k e' cs hH
      cases he
      rw[hr i (by simp),hH]
      cases he
      cases he
      cases he
      rename_i hcal
      split at he
      rename_i x r ha
      rw[<-hc x (by rw[ha];simp)]
      split at he
      rename_i k ax hxe
      rw[<-o0v r ax (λy hy=>hc y (by rw[ha];simp[hy]))]
      exact he
      cases he
      cases he
      rename_i hcal
      split at he
      rename_i x r ha
      rw[<-hc x (by rw[ha];simp)]
      split at he
      rename_i k ax hxe
      rw[<-o0v r ax (λy hy=>hc y (by rw[ha];simp[hy]))]
      exact he
      cases he
      cases he
      cases he
    all_goals(simp only[a0q,ho]at he;cases he)
end
end
section
variable [Inhabited GT]
mutual
def SV.rn(f:Nat->Nat):SV->SV
  | .agg cs=> .agg (SV.rnL f cs)
  | .tup cs=> .tup (SV.rnL f cs)
  | .ptr i off=> .ptr (f i) off
  | .vc i=> .vc (f i)
  | .sl i off n k=> .sl (f i) off n k
  | .mp i=> .mp (f i)
  | .fn g a b=> .fn g (SV.rnL f a) (SV.rnL f b)
  | .undef=> .undef
  | .bool b=> .bool b
  | .int k n=> .int k n
  | .str s=> .str s
  | .nl=> .nl
  | .lst n k cs=> .lst n k cs
  | .ep cs=> .ep cs
  | .nilp=> .nilp
  | .yld i=> .yld (f i)
def SV.rnL(f:Nat->Nat):List SV->List SV
  | []=> []
  |c::cs=>SV.rn f c::SV.rnL f cs
end
mutual
def SV.refs(m:Nat):SV->Bool
  | .agg cs=>SV.refsL m cs
  | .tup cs=>SV.refsL m cs
  | .ptr i _=>decide (i<m)
  | .vc i=>decide (i<m)
  | .sl i _ _ _=>decide (i<m)
  | .mp i=>decide (i<m)
  | .fn _ a b=>SV.refsL m a&&SV.refsL m b
  | .undef=>true
  | .bool _=>true
  | .int _ _=>true
  | .str _=>true
  | .nl=>true
  | .lst _ _ _=>true
  | .ep _=>true
  | .nilp=>true
  | .yld i=>decide (i<m)
def SV.refsL(m:Nat):List SV->Bool
  | []=>true
  |c::cs=>SV.refs m c&&SV.refsL m cs
end
theorem d0Z(f:Nat->Nat): ∀(cs:List SV) (j:Nat),(SV.rnL f cs)[j]?=(cs[j]?).map (SV.rn f)
  | [],j=>by simp[SV.rnL]
  |c::cs,j=>by
    cases j with
    |zero=>simp[SV.rnL]
    |succ j=>simpa [SV.rnL]using d0Z f cs j
theorem b0M(f:Nat->Nat): ∀(cs:List SV),(SV.rnL f cs).length=cs.length
  | []=>rfl
  |c::cs=>by simp[SV.rnL,b0M f cs]
theorem d0M {m:Nat} : ∀ {cs:List SV},SV.refsL m cs=true-> ∀(j:Nat) (c:SV),cs[j]?=some c->SV.refs m c=true
  | [],_,j,c,h=>by simp at h
  |x::cs,h,j,c,hc=>by
    simp only[SV.refsL,aa]at h
    cases j with
    |zero=>simp at hc;subst hc;exact h.1
    |succ j=>exact d0M h.2 j c (by simpa using hc)
def Ent.rn(f:Nat->Nat):Ent->Ent
  | .box cs=> .box (SV.rnL f cs)
  | .map es=> .map (es.map λp=>(SV.rn f p.1,SV.rn f p.2))
  | .itr m n s=> .itr (f m) n s
  | .lop tm ps as bd st pd=> .lop (SV.rnL f tm) ps as bd st pd
  | .pmap es=> .pmap (es.map λp=>(SV.rn f p.1,SV.rn f p.2))
  |e=>e
def Ent.refs(m:Nat):Ent->Bool
  | .box cs=>SV.refsL m cs
  | .map es=>es.all λp=>SV.refs m p.1&&SV.refs m p.2
  | .itr i _ _=>SV.refs m (.mp i)
  | .lop tm _ _ _ _ _=>SV.refsL m tm
  | .pmap es=>es.all λp=>SV.refs m p.1&&SV.refs m p.2
  |_=>true
def i0F(D:DM)(f:Nat->Nat)(m:Nat):DM:=λj=>if j<m then D (f j)else none
section
variable {w : World} {K : Nat -> Nat} {D : DM}
theorem f0e {f:Nat->Nat} {m:Nat} {v:Value} {s':SV} (h:Rep w K D v s'): ∀s,s'=SV.rn f s->SV.refs m s=true->Rep w K (i0F D f m) v s:=by
  have hsub: ∀ {i:Nat} {x:Loc},i<m->D (f i)=some x->i0F D f m i=some x:=λ{i x} hi hd=>by simp[i0F,hi,hd]
  induction h with
  |undef v=>intro s hs hb;cases s<;>simp only[SV.rn]at hs<;>first|(cases hs;done)|exact .undef _
  |bool b=>intro s hs hb;cases s<;>simp only[SV.rn]at hs<;>cases hs;exact .bool _
  |int k n=>intro s hs hb;cases s<;>simp only[SV.rn]at hs<;>cases hs;exact .int _ _
  |str sb=>intro s hs hb;cases s<;>simp only[SV.rn]at hs<;>cases hs;exact .str _
  |nl a=>intro s hs hb;cases s<;>simp only[SV.rn]at hs<;>first|(cases hs;done)|exact .nl _
  |emp k a cap=>intro s hs hb;cases s<;>simp only[SV.rn]at hs<;>cases hs;exact .emp _ _ _
  |lst k b off len cap vs cs hk hl hc hcap hm hK h1 hp h _=>
    intro s hs hb
    cases s<;>simp only[SV.rn]at hs<;>cases hs
    exact .lst k b off len cap vs _ hk hl hc hcap hm hK h1 hp (λj v c hv hcc=>(h j v c hv hcc).plain (d0Q hp hcc))
  |ep b off vs cs hc hm hK h1 hp h _=>
    intro s hs hb
    cases s<;>simp only[SV.rn]at hs<;>cases hs
    exact .ep b off vs _ hc hm hK h1 hp (λj v c hv hcc=>(h j v c hv hcc).plain (d0Q hp hcc))
  |agg vs cs hc h1 _ ih=>
    intro s hs hb
    cases s<;>simp only[SV.rn]at hs<;>cases hs
    rename_i cs0 _
    refine .agg vs cs0 (by rw[<-hc,b0M]) h1 (λj v c hv hcc=>ih j v (SV.rn f c) hv (by rw[d0Z,hcc];rfl) c rfl ?_)
    simp only[SV.refs]at hb
    exact d0M hb j c hcc
  |tup vs cs hc _ ih=>
    intro s hs hb
    cases s<;>simp only[SV.rn]at hs<;>cases hs
    rename_i cs0 _
    refine .tup vs cs0 (by rw[<-hc,b0M]) (λj v c hv hcc=>ih j v (SV.rn f c) hv (by rw[d0Z,hcc];rfl) c rfl ?_)
    simp only[SV.refs]at hb
    exact d0M hb j c hcc
  |ptr i off b c n hd=>
    intro s hs hb
    cases s<;>simp only[SV.rn]at hs<;>cases hs
    simp only[SV.refs,decide_eq_true_eq]at hb
    exact .ptr _ _ b c n (hsub hb hd)
  |vcn i a hd=>
    intro s hs hb
    cases s<;>simp only[SV.rn]at hs<;>cases hs
    simp only[SV.refs,decide_eq_true_eq]at hb
    exact .vcn _ a (hsub hb hd)
  |vc i b c n hd=>
    intro s hs hb
    cases s<;>simp only[SV.rn]at hs<;>cases hs
    simp only[SV.refs,decide_eq_true_eq]at hb
    exact .vc _ b c n (hsub hb hd)
  |sl i off n k b c m' cap hd hn=>
    intro s hs hb
    cases s<;>simp only[SV.rn]at hs<;>cases hs
    simp only[SV.refs,decide_eq_true_eq]at hb
    exact .sl _ _ _ _ b c m' cap (hsub hb hd) hn
  |mp i r c n hd=>
    intro s hs hb
    cases s<;>simp only[SV.rn]at hs<;>cases hs
    simp only[SV.refs,decide_eq_true_eq]at hb
    exact .mp _ r c n (hsub hb hd)
  |fn g fs caps gs dcs hc hd _ _ ih ih'=>
    intro s hs hb
    cases s<;>simp only[SV.rn]at hs<;>cases hs
    rename_i a0 b0 _ _
    simp only[SV.refs,aa]at hb
    exact .fn g fs caps a0 b0 (by rw[<-hc,b0M]) (by rw[<-hd,b0M])
      (λj v c hv hcc=>ih j v (SV.rn f c) hv (by rw[d0Z,hcc];rfl) c rfl (d0M hb.1 j c hcc))
      (λj v c hv hcc=>ih' j v (SV.rn f c) hv (by rw[d0Z,hcc];rfl) c rfl (d0M hb.2 j c hcc))
  |nilp=>intro s hs hb;cases s<;>simp only[SV.rn]at hs<;>first|(cases hs;done)|exact .nilp
  |yld i l c n hd=>
    intro s hs hb
    cases s<;>simp only[SV.rn]at hs<;>cases hs
    simp only[SV.refs,decide_eq_true_eq]at hb
    exact .yld _ l c n (hsub hb hd)
theorem j0d {D':DM} {g:Nat->Nat} {v:Value} {s:SV} (h:Rep w K D v s)(hg: ∀j x,D j=some x->D' (g j)=some x):Rep w K D' v (SV.rn g s):=by
  induction h with
  |undef v=>exact .undef _
  |bool b=>exact .bool _
  |int k n=>exact .int _ _
  |str sb=>exact .str _
  |nl a=>exact .nl _
  |emp k a cap=>exact .emp _ _ _
  |lst k b off len cap vs cs hk hl hc hcap hm hK h1 hp h _=>
    exact .lst k b off len cap vs _ hk hl hc hcap hm hK h1 hp (λj v c hv hcc=>(h j v c hv hcc).plain (d0Q hp hcc))
  |ep b off vs cs hc hm hK h1 hp h _=>
    exact .ep b off vs _ hc hm hK h1 hp (λj v c hv hcc=>(h j v c hv hcc).plain (d0Q hp hcc))
  |agg vs cs hc h1 _ ih=>
    refine .agg vs _ (by rw[b0M,hc]) h1 (λj v c hv hcc=> ?_)
    rw[d0Z]at hcc
    cases hx:cs[j]? with
    |none=>rw[hx]at hcc;cases hcc
    |some x=>rw[hx]at hcc;cases hcc;exact ih j v x hv hx
  |tup vs cs hc _ ih=>
    refine .tup vs _ (by rw[b0M,hc]) (λj v c hv hcc=> ?_)
    rw[d0Z]at hcc
    cases hx:cs[j]? with
    |none=>rw[hx]at hcc;cases hcc
    |some x=>rw[hx]at hcc;cases hcc;exact ih j v x hv hx
  |ptr i off b c n hd=>exact .ptr _ _ b c n (hg _ _ hd)
  |vcn i a hd=>exact .vcn _ a (hg _ _ hd)
  |vc i b c n hd=>exact .vc _ b c n (hg _ _ hd)
  |sl i off n k b c m' cap hd hn=>exact .sl _ _ _ _ b c m' cap (hg _ _ hd) hn
  |mp i r c n hd=>exact .mp _ r c n (hg _ _ hd)
  |fn q fs caps gs dcs hc hd _ _ ih ih'=>
    refine .fn q fs caps _ _ (by rw[b0M,hc]) (by rw[b0M,hd]) (λj v c hv hcc=> ?_) (λj v c hv hcc=> ?_)
    rw[d0Z]at hcc
    cases hx:gs[j]? with
    |none=>rw[hx]at hcc;cases hcc
    |some x=>rw[hx]at hcc;cases hcc;exact ih j v x hv hx
    rw[d0Z]at hcc
    cases hx:dcs[j]? with
    |none=>rw[hx]at hcc;cases hcc
    |some x=>rw[hx]at hcc;cases hcc;exact ih' j v x hv hx
  |nilp=>exact .nilp
  |yld i l c n hd=>exact .yld _ l c n (hg _ _ hd)
theorem B0G {f:Nat->Nat} {m:Nat} {vs:List Value} {cs:List SV} (h:CR w K D vs (SV.rnL f cs))(hb:SV.refsL m cs=true):CR w K (i0F D f m) vs cs:=
  ⟨by rw[<-h.len,b0M],h.one,λj v c hv hc=>f0e (h.rep j v (SV.rn f c) hv (by rw[d0Z,hc];rfl)) c rfl (d0M hb j c hc)⟩
theorem C0p {D':DM} {g:Nat->Nat} {vs:List Value} {cs:List SV} (h:CR w K D vs cs)(hg: ∀j x,D j=some x->D' (g j)=some x):CR w K D' vs (SV.rnL g cs):=by
  refine⟨by rw[b0M,h.len],h.one,λj v c hv hc=> ?_⟩
  rw[d0Z]at hc
  cases hx:cs[j]? with
  |none=>rw[hx]at hc;cases hc
  |some x=>rw[hx]at hc;cases hc;exact j0d (h.rep j v x hv hx) hg
theorem A0e {f:Nat->Nat} {m j:Nat} {en:Ent} (hj:j<m)(h:EntOk w K D (f j) (Ent.rn f en))(hb:Ent.refs m en=true):EntOk w K (i0F D f m) j en:=by
  have hd:i0F D f m j=D (f j):=by simp[i0F,hj]
  cases en with
  |res=>show i0F D f m j=none;rw[hd];exact h
  |gone=>trivial
  |box cs=>
    obtain⟨b,vs,e,h1,h2,h3,h4⟩:=h
    exact⟨b,vs,e,by rw[hd];exact h1,h2,h3,B0G h4 hb⟩
  |vec n k e cs=>
    obtain⟨hp,h⟩:=h
    refine⟨hp, ?_⟩
    rcases h with⟨h1,h2,h3⟩|⟨b,c,vs,rest,h1,h2,h3,h4,h5,h6,h7,h8,h9⟩
    exact .inl ⟨by rw[hd];exact h1,h2,h3⟩
    exact .inr ⟨b,c,vs,rest,by rw[hd];exact h1,h2,h3,h4,h5,h6,h7,h8,⟨h9.len,h9.one,λj v c hv hc=>(h9.rep j v c hv hc).plain (d0Q hp hc)⟩⟩
  |map es=>
    obtain⟨r,mes,clock,h1,h2,h3,h4,hB,h5⟩:=h
    refine⟨r,mes,clock,by rw[hd];exact h1,h2,h3,by simpa using h4,hB,λq me kv hm hk=> ?_⟩
    have hrf:=List.all_eq_true.1 hb kv (aA hk)
    simp only[aa]at hrf
    obtain⟨p1,p2⟩:=h5 q me (SV.rn f kv.1,SV.rn f kv.2) hm (by rw[al,hk];rfl)
    exact⟨f0e p1 kv.1 rfl hrf.1,f0e p2 kv.2 rfl hrf.2⟩
  |pmap es=>
    obtain⟨es',r,mes,clock,hp,h1,h2,h3,h4,hB,h5⟩:=h
    obtain⟨e2,hp2,rfl⟩:=j0h es es' hp
    refine⟨e2,r,mes,clock,hp2,by rw[hd];exact h1,h2,h3,by simpa using h4,hB,λq me kv hm hk=> ?_⟩
    have hrf:=List.all_eq_true.1 hb kv (hp2.mem_iff.1 (aA hk))
    simp only[aa]at hrf
    obtain⟨p1,p2⟩:=h5 q me (SV.rn f kv.1,SV.rn f kv.2) hm (by rw[al,hk];rfl)
    exact⟨f0e p1 kv.1 rfl hrf.1,f0e p2 kv.2 rfl hrf.2⟩
  |itr i n' seen=>
    obtain⟨r,bm,c0,h1,h2,h3,h4,h5⟩:=h
    exact⟨r,bm,c0,by rw[hd];exact h1,h2,h3,h4,f0e h5 (.mp i) rfl hb⟩
  |lop tm ps as bd st pd=>
    obtain⟨l,r,h1,h2,h3,h4,h5,h6,h7,h8,h9,h10⟩:=h
    exact⟨l,r,by rw[hd];exact h1,h2,h3,h4,h5,h6,h7,h8,by rw[h9,b0M],λj v c hv hc=>f0e (h10 j v (SV.rn f c) hv (by rw[d0Z,hc];rfl)) c rfl (d0M hb j c hc)⟩
  |dfr=>
    obtain⟨b,h1,h2,h3⟩:=h
    exact⟨b,by rw[hd];exact h1,h2,h3⟩
theorem w0x {D':DM} {g:Nat->Nat} {j:Nat} {en:Ent} (h:EntOk w K D j en)(hg: ∀j x,D j=some x->D' (g j)=some x)(hn:D j=none->D' (g j)=none):EntOk w K D' (g j) (Ent.rn g en):=by
  cases en with
  |res=>exact hn h
  |gone=>trivial
  |box cs=>
    obtain⟨b,vs,e,h1,h2,h3,h4⟩:=h
    exact⟨b,vs,e,hg _ _ h1,h2,h3,C0p h4 hg⟩
  |vec n k e cs=>
    obtain⟨hp,h⟩:=h
    refine⟨hp, ?_⟩
    rcases h with⟨h1,h2,h3⟩|⟨b,c,vs,rest,h1,h2,h3,h4,h5,h6,h7,h8,h9⟩
    exact .inl ⟨hg _ _ h1,h2,h3⟩
    exact .inr ⟨b,c,vs,rest,hg _ _ h1,h2,h3,h4,h5,h6,h7,h8,⟨h9.len,h9.one,λj v c hv hc=>(h9.rep j v c hv hc).plain (d0Q hp hc)⟩⟩
  |map es=>
    obtain⟨r,mes,clock,h1,h2,h3,h4,hB,h5⟩:=h
    refine⟨r,mes,clock,hg _ _ h1,h2,h3,by simpa using h4,hB,λq me kv hm hk=> ?_⟩
    rw[al]at hk
    cases hx:es[q]? with
    |none=>rw[hx]at hk;cases hk
    |some x=>
      rw[hx]at hk;cases hk
      obtain⟨p1,p2⟩:=h5 q me x hm hx
      exact⟨j0d p1 hg,j0d p2 hg⟩
  |pmap es=>
    obtain⟨es',r,mes,clock,hp,h1,h2,h3,h4,hB,h5⟩:=h
    refine⟨es'.map λp=>(SV.rn g p.1,SV.rn g p.2),r,mes,clock,hp.map _,hg _ _ h1,h2,h3,by simpa using h4,hB,λq me kv hm hk=> ?_⟩
    rw[al]at hk
    cases hx:es'[q]? with
    |none=>rw[hx]at hk;cases hk
    |some x=>
      rw[hx]at hk;cases hk
      obtain⟨p1,p2⟩:=h5 q me x hm hx
      exact⟨j0d p1 hg,j0d p2 hg⟩
  |itr i n' seen=>
    obtain⟨r,bm,c0,h1,h2,h3,h4,h5⟩:=h
    exact⟨r,bm,c0,hg _ _ h1,h2,h3,h4,j0d h5 hg⟩
  |lop tm ps as bd st pd=>
    obtain⟨l,r,h1,h2,h3,h4,h5,h6,h7,h8,h9,h10⟩:=h
    refine⟨l,r,hg _ _ h1,h2,h3,h4,h5,h6,h7,h8,by rw[h9,b0M],λj v c hv hc=> ?_⟩
    rw[d0Z]at hc
    cases hx:tm[j]? with
    |none=>rw[hx]at hc;cases hc
    |some x=>rw[hx]at hc;cases hc;exact j0d (h10 j v x hv hx) hg
  |dfr=>
    obtain⟨b,h1,h2,h3⟩:=h
    exact⟨b,hg _ _ h1,h2,h3⟩
theorem f0l {f:Nat->Nat} (en:Ent):f0z (Ent.rn f en)=f0z en:=by cases en<;>rfl
structure Sel (H:a0f) (f:Nat->Nat) (H0:a0f):Prop where
  get: ∀(j:Nat) (en:Ent),H0[j]?=some en->H[f j]?=some (Ent.rn f en)
  inj: ∀i j,i<H0.length->j<H0.length->f i=f j->i=j
  refs: ∀(j:Nat) (en:Ent),H0[j]?=some en->Ent.refs H0.length en=true
theorem Sel.hinv {H H0:a0f} {f:Nat->Nat} (hs:Sel H f H0)(h:HInv w K D H):HInv w K (i0F D f H0.length) H0:=by
  refine⟨λi hi=>by simp[i0F,Nat.not_lt.2 hi],λj en hj=> ?_,λi j en en' b c n c' n' hi hj hl hl' hd hd'=> ?_,h.kw⟩
  have hjl:=(ab.1 hj).1
  exact A0e hjl (h.ent _ _ (hs.get j en hj)) (hs.refs j en hj)
  have hil:=(ab.1 hi).1
  have hjl:=(ab.1 hj).1
  simp only[i0F,hil,if_true]at hd
  simp only[i0F,hjl,if_true]at hd'
  exact hs.inj i j hil hjl (h.inj _ _ _ _ b c n c' n' (hs.get i en hi) (hs.get j en' hj) (by rw[f0l];exact hl) (by rw[f0l];exact hl') hd hd')
theorem Sel.mem {H H0:a0f} {f:Nat->Nat} (hs:Sel H f H0) {b:Nat} (hm:Mem (i0F D f H0.length) H0 b):Mem D H b:=by
  obtain⟨i,en,c,n,hi,hl,hd⟩:=hm
  have hil:=(ab.1 hi).1
  simp only[i0F,hil,if_true]at hd
  exact⟨f i,Ent.rn f en,c,n,hs.get i en hi,by rw[f0l];exact hl,hd⟩
end
theorem g0F {w:World} {K:Nat->Nat} {D D':DM} (h:i0E w K D):i0E w K D':=λg cs hg=>by
  have hr:=h g cs hg
  cases hr with
  |ep b off vs _ hc hm hK h1 hp h=>exact .ep _ _ vs cs hc hm hK h1 hp (λj v c hv hcc=>(h j v c hv hcc).plain (d0Q hp hcc))
def b0P(P:Program)(f:FuncId):Bool:=
  match P.funcs[f]? with
  | some fn => fn.body.isSome && !(fn.name == "runtime.NumGoroutine")
  |none=>false
def SC(P:Program)(f:FuncId)(args:List SV)(H:a0f)(v:SV)(H':a0f):Prop:=
  b0P P f=true/\
  ∀(w:World) (K:Nat->Nat) (D:DM) (vals:List Value),vals.length=args.length->(∀(j:Nat) (x:Value) (c:SV),vals[j]?=some x->args[j]?=some c->Rep w K D x c)->HInv w K D H->i0E w K D->
    Calls P f vals.toArray w λe w'=> ∃r,e= .returned r/\Good w K D H r w' v H'
def Le(s s':SV):Prop:= ∀(w:World) (K:Nat->Nat) (D:DM) (v:Value),Rep w K D v s->Rep w K D v s'
theorem Le.refl(s:SV):Le s s:=λ_ _ _ _ h=>h
theorem Le.nl(k:Nat):Le .nl (.lst 0 k []):=λ_ _ _ _ h=>by cases h;exact .emp _ _ _
theorem Le.undef(s:SV):Le s .undef:=λ_ _ _ _ _=> .undef _
inductive LeL:List SV->List SV->Prop
  |nil:LeL [] []
  |cons {a b:SV} {l m:List SV} (h:Le a b) (t:LeL l m):LeL (a::l) (b::m)
theorem LeL.refl: ∀l,LeL l l
  | []=> .nil
  |a::l=> .cons (Le.refl a) (LeL.refl l)
theorem LeL.length {l m:List SV} (h:LeL l m):l.length=m.length:=by
  induction h with
  |nil=>rfl
  |cons _ _ ih=>simp[ih]
theorem LeL.get {l m:List SV} (h:LeL l m): ∀(j:Nat) (c:SV),m[j]?=some c-> ∃b,l[j]?=some b/\Le b c:=by
  induction h with
  |nil=>intro j c hc;simp at hc
  |cons h _ ih=>
    intro j c hc
    cases j with
    |zero=>simp at hc;subst hc;exact⟨_,rfl,h⟩
    |succ j=>simpa using ih j c (by simpa using hc)
theorem Le.agg {l m:List SV} (h:LeL l m):Le (.agg l) (.agg m):=λw K D v hr=>by
  cases hr with
  |agg vs _ hc h1 hh=>
    refine .agg vs m (by rw[<-h.length];exact hc) h1 (λj v c hv hcc=> ?_)
    obtain⟨b,hb,hle⟩:=h.get j c hcc
    exact hle _ _ _ _ (hh j v b hv hb)
theorem Le.tup {l m:List SV} (h:LeL l m):Le (.tup l) (.tup m):=λw K D v hr=>by
  cases hr with
  |tup vs _ hc hh=>
    refine .tup vs m (by rw[<-h.length];exact hc) (λj v c hv hcc=> ?_)
    obtain⟨b,hb,hle⟩:=h.get j c hcc
    exact hle _ _ _ _ (hh j v b hv hb)
theorem SC.weak {P:Program} {f:FuncId} {args args':List SV} {H:a0f} {v:SV} {H':a0f} (h:SC P f args' H v H')(hl:LeL args args'):SC P f args H v H':=
  ⟨h.1,λw K D vals hlen hr hi hG=>h.2 w K D vals (by rw[hlen,hl.length]) (λj x c hx hc=>by
    obtain⟨b,hb,hle⟩:=hl.get j c hc
    exact hle _ _ _ _ (hr j x b hx hb)) hi hG⟩
mutual
theorem g0z {f g:Nat->Nat} {m:Nat} (hfg: ∀i,i<m->f i=g i): ∀(s:SV),SV.refs m s=true->SV.rn f s=SV.rn g s
  | .agg cs,h=>by simp only[SV.rn];rw[f0Z hfg cs h]
  | .tup cs,h=>by simp only[SV.rn];rw[f0Z hfg cs h]
  | .ptr i off,h=>by simp only[SV.rn];rw[hfg i (by simpa [SV.refs]using h)]
  | .vc i,h=>by simp only[SV.rn];rw[hfg i (by simpa [SV.refs]using h)]
  | .sl i off n k,h=>by simp only[SV.rn];rw[hfg i (by simpa [SV.refs]using h)]
  | .mp i,h=>by simp only[SV.rn];rw[hfg i (by simpa [SV.refs]using h)]
  | .fn q a b,h=>by
    simp only[SV.refs,aa]at h
    simp only[SV.rn];rw[f0Z hfg a h.1,f0Z hfg b h.2]
  | .undef,_=>rfl
  | .bool _,_=>rfl
  | .int _ _,_=>rfl
  | .str _,_=>rfl
  | .nl,_=>rfl
  | .lst _ _ _,_=>rfl
  | .ep _,_=>rfl
  | .nilp,_=>rfl
  | .yld i,h=>by simp only[SV.rn];rw[hfg i (by simpa [SV.refs]using h)]
theorem f0Z {f g:Nat->Nat} {m:Nat} (hfg: ∀i,i<m->f i=g i): ∀(cs:List SV),SV.refsL m cs=true->SV.rnL f cs=SV.rnL g cs
  | [],_=>rfl
  |c::cs,h=>by
    simp only[SV.refsL,aa]at h
    simp only[SV.rnL];rw[g0z hfg c h.1,f0Z hfg cs h.2]
end
theorem n0Q {f g:Nat->Nat} {m:Nat} (hfg: ∀i,i<m->f i=g i)(en:Ent)(h:Ent.refs m en=true):Ent.rn f en=Ent.rn g en:=by
  cases en with
  |box cs=>simp only[Ent.rn];rw[f0Z hfg cs h]
  |map es=>
    simp only[Ent.rn]
    congr 1
    refine bk λp hp=> ?_
    have hrf:=List.all_eq_true.1 h p hp
    simp only[aa]at hrf
    rw[g0z hfg p.1 hrf.1,g0z hfg p.2 hrf.2]
  |pmap es=>
    simp only[Ent.rn]
    congr 1
    refine bk λp hp=> ?_
    have hrf:=List.all_eq_true.1 h p hp
    simp only[aa]at hrf
    rw[g0z hfg p.1 hrf.1,g0z hfg p.2 hrf.2]
  |itr i n s=>show Ent.itr (f i) n s=Ent.itr (g i) n s;rw[hfg i (by simpa [Ent.refs,SV.refs]using h)]
  |lop tm ps as bd st pd=>simp only[Ent.rn];rw[f0Z hfg tm h]
  |_=>rfl
def gOf(f:Nat->Nat)(m N:Nat):Nat->Nat:=λj=>if j<m then f j else N+(j-m)
def r0K(g:Nat->Nat)(H0':a0f)(H:a0f):Nat->a0f
  |0=>H
  |j+1=>match H0'[j]? with
    |some en=>g0m (r0K g H0' H j) (g j) (Ent.rn g en)
    |none=>r0K g H0' H j
def d0q(f:Nat->Nat)(m:Nat)(H H0':a0f):a0f:=r0K (gOf f m H.length) H0' H H0'.length
theorem r0D {H:a0f} {i:Nat} {en:Ent} :(g0m H i en).length=if i<H.length then H.length else H.length+1:=by
  unfold g0m;split<;>simp
theorem Sel.lt {H H0:a0f} {f:Nat->Nat} (hs:Sel H f H0) {j:Nat} (hj:j<H0.length):f j<H.length:=by
  have:=hs.get j _ (ac hj)
  exact(ab.1 this).1
theorem w0l {f:Nat->Nat} {H H0:a0f} (hs:Sel H f H0) {i j:Nat} (h:gOf f H0.length H.length i=gOf f H0.length H.length j):i=j:=by
  unfold gOf at h
  by_cases hi:i<H0.length<;>by_cases hj:j<H0.length
  rw[if_pos hi,if_pos hj]at h;exact hs.inj i j hi hj h
  rw[if_pos hi,if_neg hj]at h;have:=hs.lt hi;omega
  rw[if_neg hi,if_pos hj]at h;have:=hs.lt hj;omega
  rw[if_neg hi,if_neg hj]at h;omega
theorem q0m {f:Nat->Nat} {H H0 H0':a0f} (hs:Sel H f H0): ∀q,q<=H0'.length->
    (r0K (gOf f H0.length H.length) H0' H q).length=H.length+(q-H0.length)/\
    (∀j en,j<q->H0'[j]?=some en->(r0K (gOf f H0.length H.length) H0' H q)[gOf f H0.length H.length j]?=some (Ent.rn (gOf f H0.length H.length) en))/\
    ∀i,(∀j,j<q->gOf f H0.length H.length j≠i)->(r0K (gOf f H0.length H.length) H0' H q)[i]?=H[i]?:=by
  intro q
  induction q with
  |zero=>intro _;exact⟨by simp[r0K],λj en h=>absurd h (cq _),λi _=>rfl⟩
  |succ q ih=>
    intro hq
    obtain⟨h1,h2,h3⟩:=ih (by omega)
    have hen:H0'[q]?=some (H0'[q]'(by omega)):=ac (by omega)
    have hle:gOf f H0.length H.length q<=(r0K (gOf f H0.length H.length) H0' H q).length:=by
      rw[h1]
      unfold gOf
      split
      rename_i hlt;have:=hs.lt hlt;omega
      omega
    have hget:=o0T (H:=r0K (gOf f H0.length H.length) H0' H q) (en:=Ent.rn (gOf f H0.length H.length) (H0'[q]'(by omega))) hle
    refine⟨?_,λj en hj hej=> ?_,λi hi=> ?_⟩
    simp only[r0K,hen]
    rw[r0D,h1]
    unfold gOf
    by_cases hlt:q<H0.length
    rw[if_pos hlt]
    have:=hs.lt hlt
    rw[if_pos (by omega)];omega
    rw[if_neg hlt,if_neg (by omega)];omega
    simp only[r0K,hen]
    rw[hget]
    by_cases hjq:j=q
    subst hjq
    rw[if_pos rfl]
    rw[hen]at hej;cases hej;rfl
    rw[if_neg (λe=>hjq (w0l hs e))]
    exact h2 j en (by omega) hej
    simp only[r0K,hen]
    rw[hget,if_neg (λe=>hi q (by omega) e.symm)]
    exact h3 i λj hj=>hi j (by omega)
theorem o0z {f:Nat->Nat} {H H0:a0f} (hs:Sel H f H0):d0q f H0.length H H0=H:=by
  obtain⟨h1,h2,h3⟩:=q0m (H0':=H0) hs H0.length (ai _)
  have hg: ∀i,i<H0.length->f i=gOf f H0.length H.length i:=λi hi=>by simp[gOf,hi]
  unfold d0q
  apply bh
  intro i
  by_cases hex: ∃j,j<H0.length/\gOf f H0.length H.length j=i
  obtain⟨j,hj,rfl⟩:=hex
  have hen:=ac hj
  rw[h2 j _ hj hen,<-hg j hj,hs.get j _ hen,<-n0Q hg _ (hs.refs j _ hen)]
  exact h3 i λj hj e=>hex ⟨j,hj,e⟩
theorem Good.frame {H0 H0':a0f} {v0:SV} {H:a0f} {f:Nat->Nat} {w w':World} {K:Nat->Nat} {D:DM} {r:Value} (hg0:Good w K (i0F D f H0.length) H0 r w' v0 H0')(hs:Sel H f H0)(hi:HInv w K D H)
    (hlive: ∀en∈H0,f0z en=true) (hl:H0.length<=H0'.length):Good w K D H r w' (SV.rn (gOf f H0.length H.length) v0) (d0q f H0.length H H0'):=by
  obtain⟨K',Ds',g,hi',hrep⟩:=hg0
  obtain⟨p1,p2,p3⟩:=q0m (H0':=H0') hs H0'.length (ai _)
  generalize hg:gOf f H0.length H.length=gg at p1 p2 p3
  have hgl: ∀j,j<H0.length->gg j=f j:=λj hj=>by rw[<-hg];simp[gOf,hj]
  have hgr: ∀j,H0.length<=j->gg j=H.length+(j-H0.length):=λj hj=>by rw[<-hg];simp[gOf,Nat.not_lt.2 hj]
  have hginj: ∀i j,gg i=gg j->i=j:=λi j e=>by rw[<-hg]at e;exact w0l hs e
  -- entries that were handed A0F are somewhere
  have hsome: ∀j,j<H0.length-> ∃x,D (f j)=some x:=by
    intro j hj
    have hen:=ac hj
    have hlv:=hlive _ (bX hj)
    have he:=hi.ent _ _ (hs.get j _ hen)
    generalize H0[j]=en at hlv he
    cases en with
    |res=>cases hlv
    |gone=>cases hlv
    |box cs=>obtain⟨b,vs,e,h1,_⟩:=he;exact⟨_,h1⟩
    |vec n k e cs=>rcases he.2 with⟨h1,_⟩|⟨b,c,vs,rest,h1,_⟩<;>exact⟨_,h1⟩
    |map es=>obtain⟨r,mes,clock,h1,_⟩:=he;exact⟨_,h1⟩
    |itr i n' s=>obtain⟨r,bm,c0,h1,_⟩:=he;exact⟨_,h1⟩
    |lop tm ps as bd st pd=>obtain⟨l,r,h1,_⟩:=he;exact⟨_,h1⟩
    |dfr=>obtain⟨b,h1,_⟩:=he;exact⟨_,h1⟩
    |pmap es=>obtain⟨es',r,mes,clock,_,h1,_⟩:=he;exact⟨_,h1⟩
  let D':DM:=λi=>if i<H.length then D i else Ds' (H0.length+(i-H.length))
  have hDold: ∀i,i<H.length->D' i=D i:=λi hi=>by simp[D',hi]
  have hDs: ∀j,j<H0.length->Ds' j=D (f j):=by
    intro j hj
    obtain⟨x,hx⟩:=hsome j hj
    have:i0F D f H0.length j=some x:=by simp[i0F,hj,hx]
    rw[g.dd j x this,hx]
  have hup: ∀j,D' (gg j)=Ds' j:=by
    intro j
    by_cases hj:j<H0.length
    rw[hgl j hj,hDold _ (hs.lt hj),hDs j hj]
    rw[hgr j (by omega)]
    simp only[D']
    rw[if_neg (by omega)]
    congr 1;omega
  have hdd: ∀i x,D i=some x->D' i=some x:=by
    intro i x hx
    have:i<H.length:=by
      rcases br i H.length with h1|h1
      exact h1
      rw[hi.dom i h1]at hx;cases hx
    rw[hDold i this];exact hx
  have hrep': ∀v s,Rep w K D v s->Rep w' K' D' v s:=λv s h1=>h1.mono g.cells g.le hdd
  -- an entry: an old one that was not handed A0F, or one of the call's
  have hcase: ∀i en,(d0q f H0.length H H0')[i]?=some en->(∃j en0,H0'[j]?=some en0/\i=gg j/\en=Ent.rn gg en0)\/((∀j,j<H0'.length->gg j≠i)/\H[i]?=some en/\i<H.length):=by
    intro i en hi2
    unfold d0q at hi2
    rw[hg]at hi2
    by_cases hex: ∃j,j<H0'.length/\gg j=i
    obtain⟨j,hj,rfl⟩:=hex
    have hen:=ac hj
    rw[p2 j _ hj hen]at hi2
    cases hi2
    exact .inl ⟨j,_,hen,rfl,rfl⟩
    have hno: ∀j,j<H0'.length->gg j≠i:=λj hj e=>hex ⟨j,hj,e⟩
    rw[p3 i hno]at hi2
    exact .inr ⟨hno,hi2,(ab.1 hi2).1⟩
  -- a block of the call's is old and handed A0F, or new
  have hblk: ∀j en0 b c n,H0'[j]?=some en0->f0z en0=true->Ds' j=some (.at b c n)->Mem (i0F D f H0.length) H0 b\/w.heap.size<=b:=λj en0 b c n h1 h2 h3=>g.new b ⟨j,en0,c,n,h1,h2,h3⟩
  have hapart: ∀i en b c n,(∀j,j<H0'.length->gg j≠i)->H[i]?=some en->f0z en=true->D i=some (.at b c n)-> ¬Mem (i0F D f H0.length) H0 b/\b<w.heap.size:=by
    intro i en b c n hno hie hli hdi
    refine⟨fun⟨j,en0,c0,n0,h1,h2,h3⟩=> ?_,(h0M hi ⟨i,en,c,n,hie,hli,hdi⟩).1⟩
    have hjl:=(ab.1 h1).1
    simp only[i0F,hjl,if_true]at h3
    have:=hi.inj i (f j) en _ b c n c0 n0 hie (hs.get j en0 h1) hli (by rw[f0l];exact h2) hdi h3
    exact hno j (by omega) (by rw[hgl j hjl];exact this.symm)
  refine⟨K',D',⟨g.os,g.tape,g.output,g.size,λb hb hm=>g.block b hb (λh1=>hm (hs.mem h1)),g.cells,g.le,λb hb hm=>g.kk b hb (λh1=>hm (hs.mem h1)),hdd,λb hm=> ?_⟩,
    ⟨λi hil=> ?_,λi en hie=> ?_,λi j en en' b c n c' n' hie hje hli hlj hdi hdj=> ?_,hi'.kw⟩, ?_⟩
  obtain⟨i,en,c,n,h1,h2,h3⟩:=hm
  rcases hcase i en h1 with⟨j,en0,q1,q2,q3⟩|⟨_,q2,q3⟩
  subst q2;subst q3
  rw[hup]at h3
  rw[f0l]at h2
  rcases hblk j en0 b c n q1 h2 h3 with h4|h4
  exact .inl (hs.mem h4)
  exact .inr h4
  rw[hDold i q3]at h3
  exact .inl ⟨i,en,c,n,q2,h2,h3⟩
  unfold d0q at hil
  rw[hg,p1]at hil
  simp only[D']
  rw[if_neg (by omega)]
  exact hi'.dom _ (by omega)
  rcases hcase i en hie with⟨j,en0,q1,q2,q3⟩|⟨q1,q2,q3⟩
  subst q2;subst q3
  exact w0x (hi'.ent j en0 q1) (λj x hx=>by rw[hup];exact hx) (λhn=>by rw[hup];exact hn)
  refine(hi.ent i en q2).keep hrep' (hDold i q3) (λb c n hlv hd=> ?_)
  obtain⟨a1,a2⟩:=hapart i en b c n q1 q2 hlv hd
  exact⟨g.block b a2 a1,g.kk b a2 a1⟩
  · rcases hcase i en hie with⟨ji,e1,q1,q2,q3⟩|⟨q1,q2,q3⟩<;>rcases hcase j en' hje with⟨jj,e2,r1,r2,r3⟩|⟨r1,r2,r3⟩
    subst q2;subst q3;subst r2;subst r3
    rw[hup]at hdi hdj
    rw[f0l]at hli hlj
    rw[hi'.inj ji jj e1 e2 b c n c' n' q1 r1 hli hlj hdi hdj]
    exfalso
    subst q2;subst q3
    rw[hup]at hdi
    rw[f0l]at hli
    rw[hDold j r3]at hdj
    obtain⟨a1,a2⟩:=hapart j en' b c' n' r1 r2 hlj hdj
    rcases hblk ji e1 b c n q1 hli hdi with h4|h4
    exact a1 h4
    omega
    exfalso
    subst r2;subst r3
    rw[hup]at hdj
    rw[f0l]at hlj
    rw[hDold i q3]at hdi
    obtain⟨a1,a2⟩:=hapart i en b c n q1 q2 hli hdi
    rcases hblk jj e2 b c' n' r1 hlj hdj with h4|h4
    exact a1 h4
    omega
    rw[hDold i q3]at hdi
    rw[hDold j r3]at hdj
    exact hi.inj i j en en' b c n c' n' q2 r2 hli hlj hdi hdj
  exact j0d hrep (λj x hx=>by rw[hup];exact hx)
theorem SC.frame {P:Program} {fid:FuncId} {args0:List SV} {H0:a0f} {v0:SV} {H0':a0f} (h:SC P fid args0 H0 v0 H0') {H:a0f} {f:Nat->Nat} (hs:Sel H f H0)
    (hlive: ∀en∈H0,f0z en=true) (ha:SV.refsL H0.length args0=true) (hl:H0.length<=H0'.length):
    SC P fid (SV.rnL f args0) H (SV.rn (gOf f H0.length H.length) v0) (d0q f H0.length H H0'):=by
  refine⟨h.1,λw K D vals hlen hr hi hG=> ?_⟩
  refine(h.2 w K (i0F D f H0.length) vals (by rw[hlen,b0M]) (λj x c hx hc=>f0e (hr j x (SV.rn f c) hx (by rw[d0Z,hc];rfl)) c rfl (d0M ha j c hc)) (hs.hinv hi) (g0F hG)).mono ?_
  rintro e w' ⟨r,he,hg⟩
  exact⟨r,he,hg.frame hs hi hlive hl⟩
end
section
variable [Inhabited GT]
structure Fr where
  n:Nat
  w0:World
  K0:Nat->Nat
  D0:DM
  H0:a0f
  ds:List Deferred
structure Inv (F:Fr) (w:World) (K:Nat->Nat) (D:DM) (H:a0f) (ρ:Env) (tm:Array Value):Prop where
  slots:Slots F.n w K D ρ tm
  hinv:HInv w K D H
  grow:Grow F.w0 F.K0 F.D0 F.H0 w K D H
def St(F:Fr)(ρ:Env)(H:a0f)(a:Act)(w:World):Prop:=a.defers=F.ds/\ ∃K D,Inv F w K D H ρ a.tmps
def b0i(ops:Array Oper)(ρ:Env)(o:Oper):Option Bool:=
  match o.guard with
  |none=>some true
  |some (j,want)=>match(ops[j]?).bind (·.dst)with
    |some d=>match ρ d with
      | .bool b=>some (b==want)
      | .tup _=>some false
      |_=>none
    |none=>none
def n0a(ρ:Env)(c:Call):Option (FuncId×List SV):=
  match c.callee with
  | .value f=>match a0F ρ f with
    |some (.fn (.func f) first captured)=>(c.args.toList.mapM (a0F ρ)).map λl=>(f,first++l++captured)
    |_=>none
  |_=>none
def b0T(o:Oper):Bool:=
  match o.op with
  | .call c=>match c.callee with
    | .value _=>true
    |_=>false
  |_=>false
def e0B(ρ:Env)(o:Oper):Option (FuncId×List SV):=
  match o.op with
  | .call c=>n0a ρ c
  |_=>none
section
variable {P : Program} {F : Fr} {w : World} {K : Nat -> Nat} {D : DM} {H : a0f} {ρ : Env} {a : Act} {o : Oper} {ops : Array Oper} {Q : Exit -> Act -> World -> Prop}
theorem a0T(a:Act)(d:Option Tmp)(v:Value):(a.put d v).defers=a.defers:=by cases d<;>rfl
theorem Inv.step(h:Inv F w K D H ρ a.tmps) {r:Value} {w':World} {s:SV} {H':a0f} (g:Good w K D H r w' s H')(d:Option Nat): ∃K' D',Inv F w' K' D' H' (j0e ρ d s) (a.put d r).tmps:=by
  obtain⟨K',D',gr,hi,hr⟩:=g
  exact⟨K',D',⟨(h.slots.mono λ_ _=>gr.rep).put d hr,hi,h.grow.trans gr⟩⟩
theorem b0H(h:Slots F.n w K D ρ a.tmps)(hb: ∀j want d,o.guard=some (j,want)->(ops[j]?).bind (·.dst)=some d->d<F.n) {b:Bool} (hg:b0i ops ρ o=some b):Region.wanted o (yielded ops a.tmps)=b:=by
  unfold b0i at hg
  unfold Region.wanted
  cases hgd:o.guard with
  |none=>rw[hgd]at hg;cases hg;rfl
  |some p=>
    obtain⟨j,want⟩:=p
    rw[hgd]at hg
    simp only at hg⊢
    cases hd:(ops[j]?).bind (·.dst)with
    |none=>rw[hd]at hg;cases hg
    |some d=>
      rw[hd]at hg
      simp only at hg
      have hdn:=hb j want d hgd hd
      have hr:=h.rep d hdn
      have hdt:d<a.tmps.size:=by rw[h.size];exact hdn
      have hget:a.tmps[d]?=some (a.tmps.getD d undef):=by simp[Array.getD,hdt]
      unfold yielded
      rw[hd]
      simp only[aq,hget]
      split at hg
      rename_i b' hv
      cases hg
      rw[hv]at hr
      generalize a.tmps.getD d undef=x at hr
      cases hr
      simp
      rename_i vs hv
      cases hg
      rw[hv]at hr
      generalize a.tmps.getD d undef=x at hr
      cases hr
      rfl
      cases hg
theorem w0L {n:Nat} (h:Slots n w K D ρ a.tmps): ∀(l:List Operand) (r:List SV),(∀x∈l,Operand.inB n x=true)->l.mapM (a0F ρ)=some r->r.length=(l.map a.eval).length/\
    ∀(j:Nat) (v:Value) (c:SV),(l.map a.eval)[j]?=some v->r[j]?=some c->Rep w K D v c:=by
  intro l
  induction l with
  |nil=>intro r _ hr;simp at hr;subst hr;exact⟨rfl,λj v c e=>by simp at e⟩
  |cons x l ih=>
    intro r hb hr
    simp only[cg]at hr
    cases hx1:a0F ρ x with
    |none=>rw[hx1]at hr;cases hr
    |some s1=>
      rw[hx1]at hr
      cases hr1:l.mapM (a0F ρ)with
      |none=>rw[hr1]at hr;cases hr
      |some r1=>
        rw[hr1]at hr
        cases hr
        obtain⟨i1,i2⟩:=ih r1 (λy hy=>hb y (am _ hy)) hr1
        refine⟨by simpa using i1,λj v c hv hc=> ?_⟩
        cases j with
        |zero=>simp at hv hc;subst hv;subst hc;exact a0e h (hb x (ar ..)) hx1
        |succ j=>exact i2 j v c (by simpa using hv) (by simpa using hc)
theorem q0f {c:Call} {f:FuncId} {fo:Operand} {fs caps:Array Value} (ho:o.op= .call c)(hcal:c.callee= .value fo)(hfv:a.eval fo= .func (.func f) fs caps)(hc:b0P P f=true):
    (execOp a.eval o).run P w= .ok (.enter f (fs.toList++c.args.toList.map a.eval++caps.toList).toArray) w:=by
  unfold b0P at hc
  cases hfn:P.funcs[f]? with
  |none=>rw[hfn]at hc;cases hc
  |some fn=>
    rw[hfn]at hc
    simp only[aa,ci]at hc
    unfold execOp
    simp only[ho,resolve,hcal,hfv,Deferred.ofValue,invoke,Sem.run_bind,Sem.run_pure,Result.andThen_ok,callFunc,run_program,hfn,hc.2,aH,if_false]
    have hbs:fn.body.isNone=false:=by cases hbd:fn.body<;>simp[hbd]at hc⊢
    rw[hbs]
    simp only[aH,if_false,Sem.run_pure]
    congr 2
    apply Array.ext'
    simp
theorem m0G {n:Nat} (h:Slots n w K D ρ a.tmps)(hb:Op.inB n o.op=true) {f:FuncId} {args:List SV} (hc:e0B ρ o=some (f,args)):
    ∃vals:List Value,(b0P P f=true->(execOp a.eval o).run P w= .ok (.enter f vals.toArray) w)/\vals.length=args.length/\(∀(j:Nat) (x:Value) (c:SV),vals[j]?=some x->args[j]?=some c->Rep w K D x c):=by
  unfold e0B at hc
  split at hc
  rename_i c ho
  unfold n0a at hc
  split at hc
  rename_i fo hcal
  split at hc
  rename_i f' first captured hfe
  cases hl:c.args.toList.mapM (a0F ρ)with
  |none=>rw[hl]at hc;cases hc
  |some l=>
    rw[hl]at hc;cases hc
    unfold Op.inB at hb
    rw[aK]at hb
    have hfr:=a0e h (hb fo (by simp[ho,Op.operands,Call.operands,hcal])) hfe
    generalize hfv:a.eval fo=fv at hfr
    cases hfr with
    |fn _ fs caps _ _ hc1 hc2 hr1 hr2=>
      obtain⟨l1,l2⟩:=w0L h c.args.toList l (λx hx=>hb x (by simp only[ho,Op.operands,Call.operands];exact bw.2 (.inr (aC.1 hx)))) hl
      refine⟨fs++c.args.toList.map a.eval++caps,λhcb=>by simpa using q0f (P:=P) (w:=w) ho hcal hfv hcb,by simp[hc1,hc2];simpa using l1.symm,λj x y0 hx hy0=> ?_⟩
      rw[aD]at hx hy0
      have hle:(first++l).length=(fs++c.args.toList.map a.eval).length:=by simp only[ay];omega
      rw[hle]at hy0
      split at hx
      rename_i hj
      rw[if_pos hj]at hy0
      rw[aD]at hx hy0
      rw[hc1]at hy0
      split at hx
      rename_i hj2;rw[if_pos hj2]at hy0;exact hr1 j x y0 hx hy0
      rename_i hj2;rw[if_neg hj2]at hy0;exact l2 _ x y0 hx hy0
      rename_i hj;rw[if_neg hj]at hy0;exact hr2 _ x y0 hx hy0
  cases hc
  cases hc
  cases hc
theorem k0X(h:Inv F w K D H ρ a.tmps)(hd:a.defers=F.ds)(hb:Op.inB F.n o.op=true) {f:FuncId} {args:List SV} (hc:e0B ρ o=some (f,args)) {v:SV} {H':a0f} (hs:SC P f args H v H')
    {KR:Act->World->Prop} (hK: ∀a' w',St F (j0e ρ o.dst v) H' a' w'->KR a' w'):o.wp P a w KR Q:=by
  obtain⟨vals,hrun,hl,hr⟩:=m0G (P:=P) h.slots hb hc
  unfold Oper.wp
  rw[hrun hs.1]
  refine(hs.2 w K D vals hl hr h.hinv h.slots.glob).mono ?_
  rintro e w' ⟨r,rfl,g⟩
  exact hK _ _ ⟨by rw[a0T];exact hd,h.step g o.dst⟩
theorem t0V(h:Inv F w K D H ρ a.tmps)(hd:a.defers=F.ds)(hb:Op.inB F.n o.op=true) {idx:Nat} (hidx:CanNew H idx) {ef:Eff} (he:a0E P o ρ H idx=some ef)
    {KR:Act->World->Prop} (hK: ∀a' w',St F (j0e ρ o.dst ef.v) (b0t H ef.wr) a' w'->KR a' w'):o.wp P a w KR Q:=by
  obtain⟨r,w',hrun,g⟩:=s0V h.hinv h.slots hb hidx he
  unfold Oper.wp
  rcases hrun with hrun|⟨hrun,hr⟩
  rw[hrun]
  exact hK _ _ ⟨by rw[a0T];exact hd,h.step g o.dst⟩
  rw[hrun]
  subst hr
  exact hK _ _ ⟨by rw[a0T];exact hd,h.step g o.dst⟩
theorem p0a(h:Inv F w K D H ρ a.tmps)(d:Option Nat):Inv F w K D H (j0e ρ d (.tup [])) (a.put d undef).tmps:=
  ⟨h.slots.put d (.tup [] [] rfl (λj v c e=>by simp at e)),h.hinv,h.grow⟩
def Oper.inB(n:Nat)(ops:Array Oper)(o:Oper):Bool:=
  Op.inB n o.op&&(match o.guard with
    |none=>true
    |some (j,_)=>match(ops[j]?).bind (·.dst)with
      |some d=>decide (d<n)
      |none=>true)
theorem Oper.inB_guard {n:Nat} (h:Oper.inB n ops o=true): ∀j want d,o.guard=some (j,want)->(ops[j]?).bind (·.dst)=some d->d<n:=by
  intro j want d hg hd
  unfold Oper.inB at h
  rw[hg]at h
  simp only[aa]at h
  have:=h.2
  rw[hd]at this
  simpa using this
theorem Oper.inB_op {n:Nat} (h:Oper.inB n ops o=true):Op.inB n o.op=true:=by
  unfold Oper.inB at h
  simp only[aa]at h
  exact h.1
end
end
section
variable [Inhabited GT]
theorem Good.freeze {w:World} {K:Nat->Nat} {D:DM} {H H':a0f} {r:Value} {w':World} {i n k e:Nat} {cs:List SV} (hg:Good w K D H r w' (.vc i) H')(hi:H'[i]?=some (.vec n k e cs)):Good w K D H r w' (.lst n k cs) (H'.set i .gone):=by
  obtain⟨K1,D1,g,hv,hr⟩:=hg
  have hil:i<H'.length:=(ab.1 hi).1
  obtain⟨hp,hent⟩:=hv.ent i _ hi
  have hget: ∀j en,(H'.set i .gone)[j]?=some en->(j=i/\en= .gone)\/(j≠i/\H'[j]?=some en):=by
    intro j en hj
    rw[aL]at hj
    by_cases hji:i=j
    subst hji
    rw[if_pos rfl,if_pos hil]at hj
    cases hj
    exact .inl ⟨rfl,rfl⟩
    rw[if_neg hji]at hj
    exact .inr ⟨Ne.symm hji,hj⟩
  have key: ∃K':Nat->Nat,(∀b,K1 b<=K' b)/\(∀v,Rep w' K1 D1 v (.vc i)->Rep w' K' D1 v (.lst n k cs))/\(∀b,K' b≠K1 b->Mem D1 H' b)/\(∀j en b c n',j≠i->H'[j]?=some en->f0z en=true->D1 j=some (.at b c n')->K' b=K1 b):=by
    rcases hent with⟨h1,h2,h3⟩|⟨b,c,vs,rest,h1,h2,h3,h4,h5,h6,h7,h8,h9⟩
    subst h2;subst h3
    refine⟨K1,λ_=>ai _,λv hv=> ?_,λb hb=>absurd rfl hb,λ_ _ _ _ _ _ _ _ _=>rfl⟩
    cases hv with
    |vcn _ ad hd=>exact .emp _ _ _
    |vc _ b c n hd=>rw[h1]at hd;cases hd
    have hmono: ∀b',K1 b'<=(if b'=b then n*k else K1 b'):=λb'=>by
      split
      rename_i e1;subst e1;omega
      exact ai _
    refine⟨λb'=>if b'=b then n*k else K1 b',hmono,λv hv=> ?_,λb' hb'=> ?_,λj en b' c' n' hji hj hl hdj=> ?_⟩
    cases hv with
    |vcn _ ad hd=>rw[h1]at hd;cases hd
    |vc _ b' c' n' hd=>
      rw[h1]at hd;cases hd
      have hrow:=f0u h6 h9
      have hm: ∀v s,Rep w' K1 D1 v s->Rep w' (λb'=>if b'=b then n*k else K1 b') D1 v s:=λv s hr=>hr.mono (λ_ _ _=>rfl) hmono (λ_ _ e=>e)
      exact .lst k b 0 n c vs cs h3 h7 h9.len h4 hrow.mem (by simp[h7]) h9.one hp (λj v c hv hc=>hm _ _ (h9.rep j v c hv hc))
    have:b'=b:=by
      rcases Nat.decEq b' b with hne|he
      exact absurd (if_neg hne) hb'
      exact he
    subst this
    exact⟨i,_,c,n,hi,rfl,h1⟩
    refine if_neg λe1=> ?_
    subst e1
    exact hji (hv.inj j i en _ b' c' n' c n hj hi hl rfl hdj h1)
  obtain⟨K',k1,k2,k3,k4⟩:=key
  have hm: ∀v s,Rep w' K1 D1 v s->Rep w' K' D1 v s:=λv s hr=>hr.mono (λ_ _ _=>rfl) k1 (λ_ _ e=>e)
  have hmem: ∀b,Mem D1 (H'.set i .gone) b->Mem D1 H' b:=by
    rintro b ⟨j,en,c,n',q1,q2,q3⟩
    rcases hget j en q1 with⟨_,rfl⟩|⟨_,g1⟩
    cases q2
    exact⟨j,en,c,n',g1,q2,q3⟩
  refine⟨K',D1,⟨g.os,g.tape,g.output,g.size,g.block,g.cells,λb=>aI (g.le b) (k1 b),λb hb hmm=> ?_,g.dd,λb hmm=>g.new b (hmem b hmm)⟩,
    ⟨λj hj=>hv.dom j (by simpa using hj),λj en hj=> ?_,λj j' en en' b c n1 c' n1' hj hj' hl hl' hdj hdj'=> ?_,λb hb=> ?_⟩,k2 _ hr⟩
  by_cases hbb:K' b=K1 b
  rw[hbb];exact g.kk b hb hmm
  rcases g.new b (k3 b hbb)with q|q
  exact absurd q hmm
  omega
  rcases hget j en hj with⟨_,rfl⟩|⟨hne,g1⟩
  trivial
  exact(hv.ent j en g1).keep hm rfl (λb c n' hl hd=>⟨rfl,k4 j en b c n' hne g1 hl hd⟩)
  rcases hget j en hj with⟨_,rfl⟩|⟨_,g1⟩
  cases hl
  rcases hget j' en' hj' with⟨_,rfl⟩|⟨_,g1'⟩
  cases hl'
  exact hv.inj j j' en en' b c n1 c' n1' g1 g1' hl hl' hdj hdj'
  by_cases hbb:K' b=K1 b
  rw[hbb]at hb;exact hv.kw b hb
  exact(h0M hv (k3 b hbb)).1
def n0L(ef:Eff)(idx:Nat)(H:a0f):Option Eff:=
  match ef.v,ef.wr.getLast? with
  | .vc j,some (i, .vec n k e cs)=>if i=idx/\j=idx/\idx<H.length then some ⟨.lst n k cs,ef.rd,ef.wr++ [(idx, .gone)]⟩else none
  |_,_=>none
def j0o(P:Program)(o:Oper)(ρ:Env)(H:a0f)(idx:Nat):Option Eff:=
  match a0E P o ρ H idx with
  |some ef=>n0L ef idx H
  |none=>none
theorem i0u: ∀(a b:List (Nat×Ent)) (H:a0f),b0t H (a++b)=b0t (b0t H a) b
  | [],b,H=>rfl
  |(i,en)::a,b,H=>by simp only[cn,b0t];exact i0u a b _
theorem r0E(H:a0f)(i:Nat)(en:Ent):H.length<=(g0m H i en).length:=by
  unfold g0m;split<;>simp
theorem i0t: ∀(a:List (Nat×Ent)) (H:a0f),H.length<=(b0t H a).length
  | [],H=>ai _
  |(i,en)::a,H=>aI (r0E H i en) (i0t a _)
section
variable {P : Program} {n : Nat} {w : World} {K : Nat -> Nat} {D : DM} {H : a0f} {ρ : Env} {a : Act} {o : Oper} {idx : Nat}
theorem v0A(h:HInv w K D H)(hs:Slots n w K D ρ a.tmps)(hb:Op.inB n o.op=true)(hidx:CanNew H idx) {ef:Eff} (he:j0o P o ρ H idx=some ef):m0w P w K D H o a ef.v (b0t H ef.wr):=by
  unfold j0o at he
  split at he
  rename_i ef0 h0
  unfold n0L at he
  split at he
  rename_i j i m k e cs hv hlast
  split at he
  rename_i hc
  obtain⟨e1,e2,hlt⟩:=hc
  cases he
  obtain⟨r,w',hrun,hg⟩:=s0V h hs hb hidx h0
  rw[hv,e2]at hg
  rw[e1]at hlast
  have hwr: ∃q,ef0.wr=q++ [(idx, .vec m k e cs)]:=by
    obtain⟨q,hq⟩:=List.getLast?_eq_some_iff.1 hlast
    exact⟨q,hq⟩
  obtain⟨q,hwr⟩:=hwr
  have hHl:idx<(b0t H ef0.wr).length:=aU hlt (i0t _ _)
  have hget:(b0t H ef0.wr)[idx]?=some (.vec m k e cs):=by
    rw[hwr,i0u]
    have hl2:idx<(b0t H q).length:=aU hlt (i0t _ _)
    simp only[b0t,g0m,if_pos hl2]
    rw[aL,if_pos rfl,if_pos hl2]
  refine⟨r,w',hrun, ?_⟩
  rw[i0u]
  simp only[b0t,g0m,if_pos hHl]
  exact hg.freeze hget
  cases he
  cases he
  cases he
theorem v0B {ρ':Env} {H':a0f} {ef:Eff} (h: ∀x∈o.op.operands,a0F ρ x=a0F ρ' x)(he:j0o P o ρ H idx=some ef)(hl:H'.length=H.length)(hr: ∀i∈ef.rd,H'[i]?=H[i]?):j0o P o ρ' H' idx=some ef:=by
  unfold j0o at he⊢
  split at he
  · rename_i ef0 h0
    have hrd:ef0.rd=ef.rd:=by
      unfold n0L at he
      split at he
      · split at he<;>cases he
        rfl
      cases he
    rw[j0n h h0 (by rw[hrd];exact hr)]
    simp only
    unfold n0L at he⊢
    rw[hl]
    exact he
  cases he
end
section
variable {P : Program} {F : Fr} {w : World} {K : Nat -> Nat} {D : DM} {H : a0f} {ρ : Env} {a : Act} {o : Oper} {Q : Exit -> Act -> World -> Prop}
theorem B0a(h:Inv F w K D H ρ a.tmps)(hd:a.defers=F.ds)(hb:Op.inB F.n o.op=true) {idx:Nat} (hidx:CanNew H idx) {ef:Eff} (he:j0o P o ρ H idx=some ef)
    {KR:Act->World->Prop} (hK: ∀a' w',St F (j0e ρ o.dst ef.v) (b0t H ef.wr) a' w'->KR a' w'):o.wp P a w KR Q:=by
  obtain⟨r,w',hrun,g⟩:=v0A h.hinv h.slots hb hidx he
  unfold Oper.wp
  rcases hrun with hrun|⟨hrun,hr⟩
  rw[hrun]
  exact hK _ _ ⟨by rw[a0T];exact hd,h.step g o.dst⟩
  rw[hrun]
  subst hr
  exact hK _ _ ⟨by rw[a0T];exact hd,h.step g o.dst⟩
end
end
end Go.Sy
