import Derived.WalkKit
import Derived.Orders
import Derived.Deep.AppendSrc
import Derived.Deep.DeepAppendWide
import Derived.Laws.MakeOwn
import Derived.Laws.BytesString
import Derived.Laws.CopyRow
import Derived.Laws.Cover4
import Derived.Laws.IdiomStrings
import Derived.Laws.StructEq
import Derived.MapKept
set_option linter.all false
namespace Go.Sy
open Go Go.RowKit
open _root_.Array renaming ext'->jK,range->yK,replicate->yD
open Go.Conv renaming runesFrom->zF
open Go.Instr renaming checkKey->wI,findAsking->zH,findKey->oH,findNow->jG,indexAt->yJ,sameNow->yI,slice->wK,sliceAt->yG,sliceBound->oI,sliceBounds->jE,sureAddr->jI
open Go.IntKind renaming bits->yH,signed->oG,wrap->wA
open _root_.List renaming all_eq_true->wD,range'->wH,replicate->oC
open _root_.Nat renaming beq->oB,ble->yC,blt->oD
open Go.Op renaming equalIn->vI,operands->wB
open Go.Program renaming cellsOf->vJ
open Go.Region renaming wanted->wG
open Go.Result renaming andThen->oE,andThen_ok->vC
open Go.Sem renaming run_bind->zD,run_pure->vE
open _root_.UInt8 renaming ofNat->wJ
open Go.Utf8 renaming encode->jJ
open Go.Value renaming int->oJ
open Go.World renaming freeze->oK
open _root_.Decidable renaming decide->yA
open _root_.Bool renaming false->oA,true->jB
open _root_.Option renaming some->vA
abbrev vB:=@if_pos
abbrev yB:=@if_neg
abbrev wC:=@cond_true
abbrev vD:=@cond_false
abbrev jF:=@of_decide_eq_true
variable {w w':World}{K' f g:Nat->Nat}{v r z:Value}{j i b k n off cap m nn:Nat}{vs us news:List Value}{op:BinOp}{t src dst e tx ty e' kt:TypeId}{x y:Operand}{s:Sem Value}{c:Call}{rd:List Nat}{KR:Act->World->Prop}
abbrev aa:= @Bool.and_eq_true
abbrev ab:= @List.getElem?_eq_some_iff
abbrev ae:= @Nat.eq_of_beq_eq_true
abbrev af:= @List.getElem?_eq_getElem
abbrev ag:= @Nat.le_of_ble_eq_true
abbrev ah:= @Option.bind_some
abbrev ai:= @Int.le_refl
abbrev aj:= @Option.some.injEq
abbrev ak:= @Nat.le_refl
abbrev al:= @Array.getElem?_eq_some_iff
abbrev am:= @List.getD_eq_getElem?_getD
abbrev ao:= @List.map_cons
abbrev aq:= @List.mem_cons_of_mem
abbrev ar:= @List.getElem?_map
abbrev au:= @Option.some.inj
abbrev av:= @List.mem_append
abbrev ay:= @List.eq_nil_of_length_eq_zero
abbrev az:= @List.length_append
abbrev aB:= @List.mem_cons_self
abbrev aC:= @List.getElem?_eq_none
abbrev aD:= @List.flatMap_cons
abbrev aE:= @List.length_take
abbrev aF:= @Bool.false_eq_true
abbrev aG:= @Prod.mk.injEq
abbrev aH:= @Nat.le_trans
abbrev aI:= @List.map_nil
abbrev aJ:= @List.mem_of_getElem?
abbrev aK:= @Nat.mul_le_mul_right
abbrev aL:= @List.all_cons
abbrev aM:= @List.getElem?_take
abbrev aN:= @List.mem_singleton
abbrev aO:= @Array.mem_toList_iff
abbrev aP:= @List.getElem?_append
abbrev aQ:= @Array.getElem?_eq_getElem
abbrev aR:= @List.getElem?_set
abbrev aS:= @List.append_assoc
abbrev aT:= @Array.all_eq_true_iff_forall_mem
abbrev aU:= @List.length_cons
abbrev aV:= @List.nil_append
abbrev aX:= @List.take_of_length_le
abbrev aY:= @List.mem_cons
abbrev aZ:= @Option.map_some
abbrev ba:= @Array.getD_eq_getD_getElem?
abbrev bc:= @List.length_drop
abbrev be:= @List.mem_map
abbrev bf:= @Int.le_trans
abbrev bg:= @Nat.zero_add
abbrev bh:= @Array.toList_inj
abbrev bk:= @Nat.lt_of_lt_of_le
abbrev bl:= @List.all_nil
abbrev bn:= @List.cons_append
abbrev bo:= @Nat.zero_le
abbrev bq:= @List.drop_eq_nil_of_le
abbrev br:= @List.mem_range
abbrev bu:= @Option.getD_some
abbrev bv:= @Array.mem_append
abbrev bw:= @List.getElem?_range
abbrev bz:= @List.take_append_drop
abbrev bA:= @List.mem_iff_getElem?
abbrev bB:= @Nat.eq_zero_or_pos
abbrev bC:= @List.ext_getElem?
abbrev bD:= @Int.le_of_lt
abbrev bE:= @Int.tdiv_eq_ediv_of_nonneg
abbrev bF:= @Nat.lt_of_succ_le
abbrev bG:= @Int.toNat_natCast
abbrev bH:= @List.map_congr_left
abbrev bI:= @List.getElem?_append_left
abbrev bJ:= @Nat.sub_zero
abbrev bK:= @Nat.lt_or_ge
abbrev bL:= @List.mem_of_mem_drop
abbrev bM:= @List.mem_of_mem_take
abbrev bN:= @Bool.and_eq_true_iff
abbrev bO:= @List.append_nil
abbrev bQ:= @Bool.or_eq_true
abbrev bS:= @Array.getElem?_push
abbrev bT:= @List.flatMap_append
abbrev bU:= @Nat.succ_mul
abbrev bV:= @Nat.add_mul
abbrev bW:= @Array.getElem?_append_left
abbrev bY:= @List.getElem?_append_right
abbrev bZ:= @List.take_succ_eq_append_getElem
abbrev ca:= @List.drop_eq_getElem_cons
abbrev cf:= @Int.mul_le_mul_of_nonneg_left
abbrev cg:= @List.map_toArray
abbrev ci:= @List.map_map
abbrev ck:= @List.all_append
abbrev cm:= @List.length_nil
abbrev cn:= @List.extract_eq_take_drop
abbrev co:= @Nat.ble_eq
abbrev cq:= @List.getElem?_set_ne
abbrev cu:= @Array.length_toList
abbrev cv:= @List.getElem?_cons_zero
abbrev cw:= @Bool.true_and
abbrev cx:= @List.map_append
abbrev cy:= @List.set_cons_succ
abbrev cz:= @List.set_cons_zero
abbrev cA:= @Array.getElem?_eq_none
abbrev cB:= @List.getElem?_set_self
abbrev cC:= @Nat.add_zero
abbrev cD:= @List.mem_append_right
abbrev cE:= @Array.getElem?_toList
abbrev cG:= @Bool.false_and
abbrev cH:= @List.length_filter_le
abbrev cI:= @Array.getElem?_modify
abbrev cJ:= @List.mem_append_left
abbrev cK:= @List.getElem_mem
abbrev cL:= @Nat.div_lt_of_lt_mul
abbrev cM:= @List.not_mem_nil
abbrev cN:= @List.filter_cons
abbrev cO:= @Int.tmod_eq_emod_of_nonneg
abbrev cP:= @Int.fdiv_eq_ediv_of_nonneg
abbrev cQ:= @Nat.not_lt_zero
abbrev cR:= @List.getElem?_drop
abbrev cU:= @List.mapM_cons
abbrev cV:= @List.drop_zero
abbrev cW:= @List.length_eq_zero_iff
abbrev cX:= @Bool.not_eq_true'
abbrev cY:= @Nat.div_div_eq_div_mul
abbrev cZ:= @List.mem_toArray
abbrev da:= @Nat.mod_eq_of_lt
abbrev db:= @List.drop_append
abbrev dc:= @List.mem_flatMap
abbrev de:= @Nat.blt_eq
abbrev df:= @List.length_set
abbrev dg:= @List.range_succ
abbrev dh:= @Nat.mul_comm
def dA{p:Prop}(h:p:=by omega):p:=h
def dB{p:Prop}(h:p:=by kernel_rfl):p:=h
def dC{p:Prop}(h:p:=by simp only;omega):p:=h
def dD{p:Prop}(h:p:=by simp;omega):p:=h
def dE{p:Prop}(h:p:=by simp):p:=h
def dG{p:Prop}(h:p:=by decide):p:=h
def C0t(n:Nat):Prop:=n<=4294967296
instance {n:Nat}:Decidable (C0t n):=inferInstanceAs<|Decidable<|n<=4294967296
inductive SV where
  |undef
  |bool (b:Bool)
  |int (k:IntKind) (n:Int)
  |str (s:List UInt8)
  |nl
  |lst (n k:Nat) (cs:List SV)
  |ep (cs:List SV)
  |agg (cs:List SV)
  |tup (vs:List SV)
  |ptr (i off:Nat)
  |vc (i:Nat)
  |sl (i off n k:Nat)
  |mp (i:Nat)
  |fn (f:Fn) (first captured:List SV)
  |nilp
  |yld (i:Nat)
def SV.plain:SV->Bool
  | .bool _=>jB
  | .int _ _=>jB
  | .str _=>jB
  | .nl=>jB
  | .lst _ _ _=>jB
  | .nilp=>jB
  |_=>oA
def a0P(cs:List SV):Bool:=cs.all SV.plain
inductive Loc where
  |nil
  |at(b c n:Nat)
abbrev DM:=Nat->Option Loc
inductive Ent where
  |res
  |gone
  |box (cs:List SV)
  |vec (n k:Nat) (e:TypeId) (cs:List SV)
  |map (es:List<|SV×SV)
  |itr (m n:Nat) (seen:List Nat)
  |pmap (es:List<|SV×SV)
  |lop (tm:List SV) (ps:List Nat) (as bd:Code) (st:LoopState) (pd:Option Code)
  |dfr
abbrev a0e:=List Ent
theorem n0e{α β:Type}{f:α->β}: ∀(l:List α) (l':List β),l'.Perm (l.map f)-> ∃m:List α,m.Perm l/\m.map f=l'
  | [],l',h=>by have:=h.eq_nil;subst this;exact⟨[], .refl _,rfl⟩
  |a::r,l',h=>by
    obtain⟨s,t,rfl⟩:=List.append_of_mem<|h.mem_iff.2 (dE:f a∈(a::r).map f);have h2:(s++t).Perm (r.map f):=(List.perm_middle.symm.trans h).cons_inv;obtain⟨m,hm,he⟩:=n0e r _ h2;obtain⟨m1,m2,rfl,rfl,rfl⟩:=List.map_eq_append_iff.1 he;exact⟨m1++a::m2,List.perm_middle.trans<|hm.cons a,dE⟩
inductive Rep (w:World) (K:Nat->Nat) (D:DM):Value->SV->Prop
  |undef (v:Value):Rep w K D v .undef
  |bool (b:Bool):Rep w K D (.bool b) (.bool b)
  |int (k:IntKind) (n:Int):Rep w K D (.int k n) (.int k n)
  |str (s:ByteArray):Rep w K D (.string s) (.str s.data.toList)
  |nl (a:Option Addr):Rep w K D (.slice a 0 0) .nl
  |emp (k:Nat) (a:Option Addr) (cap:Nat):Rep w K D (.slice a 0 cap) (.lst 0 k [])
  |lst (k b off len cap:Nat) (vs:List Value) (cs:List SV) (hk:0<k) (hl:vs.length=len*k) (hc:cs.length=vs.length)
      (hcap:len<=cap) (hm: ∀j v,vs[j]?=vA v->w.cell? ⟨b,off+j,none⟩=vA v) (hK:off+vs.length<=K b)
      (h1: ∀v∈vs,v.oneCell'=jB) (hp:a0P cs=jB) (h: ∀(j:Nat) (v:Value) (c:SV),vs[j]?=vA v->cs[j]?=vA c->Rep w K D v c):
      Rep w K D (.slice (vA ⟨b,off,none⟩) len cap) (.lst len k cs)
  |ep (b off:Nat) (vs:List Value) (cs:List SV) (hc:cs.length=vs.length)
      (hm: ∀j v,vs[j]?=vA v->w.cell? ⟨b,off+j,none⟩=vA v) (hK:off+vs.length<=K b)
      (h1: ∀v∈vs,v.oneCell'=jB) (hp:a0P cs=jB) (h: ∀(j:Nat) (v:Value) (c:SV),vs[j]?=vA v->cs[j]?=vA c->Rep w K D v c):
      Rep w K D (.pointer<|vA ⟨b,off,none⟩) (.ep cs)
  |agg (vs:List Value) (cs:List SV) (hc:cs.length=vs.length) (h1: ∀v∈vs,v.oneCell'=jB)
      (h: ∀(j:Nat) (v:Value) (c:SV),vs[j]?=vA v->cs[j]?=vA c->Rep w K D v c):Rep w K D (.agg vs.toArray) (.agg cs)
  |tup (vs:List Value) (cs:List SV) (hc:cs.length=vs.length)
      (h: ∀(j:Nat) (v:Value) (c:SV),vs[j]?=vA v->cs[j]?=vA c->Rep w K D v c):Rep w K D (.tuple vs.toArray) (.tup cs)
  |ptr (i off b c n:Nat) (hd:D i=vA (.at b c n)):Rep w K D (.pointer<|vA ⟨b,off,none⟩) (.ptr i off)
  |vcn (i:Nat) (a:Option Addr) (hd:D i=vA .nil):Rep w K D (.slice a 0 0) (.vc i)
  |vc (i b c n:Nat) (hd:D i=vA (.at b c n)):Rep w K D (.slice (vA ⟨b,0,none⟩) n c) (.vc i)
  |sl (i off n k b c m cap:Nat) (hd:D i=vA (.at b c m)) (hn:n<=cap):Rep w K D (.slice (vA ⟨b,off,none⟩) n cap) (.sl i off n k)
  |mp (i r c n:Nat) (hd:D i=vA (.at r c n)):Rep w K D (.map<|vA r) (.mp i)
  |fn (f:Fn) (fs caps:List Value) (gs dcs:List SV) (hc:gs.length=fs.length) (hd:dcs.length=caps.length)
      (h: ∀(j:Nat) (v:Value) (c:SV),fs[j]?=vA v->gs[j]?=vA c->Rep w K D v c)
      (h': ∀(j:Nat) (v:Value) (c:SV),caps[j]?=vA v->dcs[j]?=vA c->Rep w K D v c):
      Rep w K D (.func f fs.toArray caps.toArray) (.fn f gs dcs)
  |nilp:Rep w K D (.pointer none) .nilp
  |yld (i l c n:Nat) (hd:D i=vA (.at l c n)):Rep w K D (.func (.yield l) #[] #[]) (.yld i)
theorem Rep.mono{K:Nat->Nat}{D D':DM}(hw: ∀b j,j<K b->w'.cell? ⟨b,j,none⟩=w.cell? ⟨b,j,none⟩)
    (hK: ∀b,K b<=K' b) (hD: ∀i x,D i=vA x->D' i=vA x) {s:SV} (h:Rep w K D v s):Rep w' K' D' v s:=by
  induction h with
  |undef v=>exact .undef v
  |bool b=>exact .bool b
  |int k n=>exact .int k n
  |str s=>exact .str s
  |nl a=>exact .nl a
  |emp k a cap=>exact .emp k a cap
  |lst k b off len cap vs cs hk hl hc hcap hm hKb h1 hp _ ih=>
    refine .lst k b off len cap vs cs hk hl hc hcap (λj v hj=> ?_) (aH hKb<|hK b) h1 hp ih;rw[hw b (off+j)<|by have:=(ab.1 hj).1;omega];exact hm j v hj
  |ep b off vs cs hc hm hKb h1 hp _ ih=>
    refine .ep b off vs cs hc (λj v hj=> ?_) (aH hKb<|hK b) h1 hp ih;rw[hw b (off+j)<|by have:=(ab.1 hj).1;omega];exact hm j v hj
  |agg vs cs hc h1 _ ih=>exact .agg vs cs hc h1 ih
  |tup vs cs hc _ ih=>exact .tup vs cs hc ih
  |ptr i off b c n hd=>exact .ptr i off b c n (hD _ _ hd)
  |vcn i a hd=>exact .vcn i a (hD _ _ hd)
  |vc i b c n hd=>exact .vc i b c n (hD _ _ hd)
  |sl i off n k b c m cap hd hn=>exact .sl i off n k b c m cap (hD _ _ hd) hn
  |mp i r c n hd=>exact .mp i r c n (hD _ _ hd)
  |fn f fs caps gs dcs hc hd _ _ ih ih'=>exact .fn f fs caps gs dcs hc hd ih ih'
  |nilp=>exact .nilp
  |yld i l c n hd=>exact .yld i l c n<|hD _ _ hd
def f0c{cs:List SV}(h:a0P cs=jB){c:SV}(hc:cs[j]?=vA c):c.plain=true:=
  List.all_eq_true.1 h c (aJ hc)
theorem Rep.plain{K:Nat->Nat}{D D':DM}{s:SV}(h:Rep w K D v s)(hp:s.plain=jB):Rep w K D' v s:=by
  induction h with
  |bool b=>exact .bool b
  |int k n=>exact .int k n
  |str s=>exact .str s
  |nl a=>exact .nl a
  |emp k a cap=>exact .emp k a cap
  |lst k b off len cap vs cs hk hl hc hcap hm hKb h1 hp' _ ih=>
    exact .lst k b off len cap vs cs hk hl hc hcap hm hKb h1 hp' (λj v c hv hcc=>ih j v c hv hcc<|f0c hp' hcc)
  |nilp=>exact .nilp
  |_=>cases hp
def x0p{K:Nat->Nat}{D:DM}{s:SV}(h:Rep w K D v s)(hp:s.plain=jB):v.oneCell'=true:=by
  cases h<;>first|rfl|cases hp
structure CR(w:World)(K:Nat->Nat)(D:DM)(vs:List Value)(cs:List SV):Prop where
  len:cs.length=vs.length
  one: ∀v∈vs,v.oneCell'=jB
  rep: ∀(j:Nat) (v:Value) (c:SV),vs[j]?=vA v->cs[j]?=vA c->Rep w K D v c
def h0e(en:Ent):Bool:=match en with
  | .res=>oA
  | .gone=>oA
  |_=>jB
def Mem(D:DM)(H:a0e)(b:Nat):Prop:= ∃i en c n,H[i]?=vA en/\h0e en=jB/\D i=vA (.at b c n)
def N0F(mes:Array MapEntry)(clock:Nat):Prop:=clock=mes.size/\ ∀(j:Nat) (me:MapEntry),mes[j]?=vA me->me.born=j
def EntOk(w:World)(K:Nat->Nat)(D:DM)(i:Nat):Ent->Prop
  | .res=>D i=none
  | .gone=>True
  | .box cs=> ∃b vs e,D i=vA (.at b 0 0)/\K b=0/\w.heap[b]?=vA (.cells vs.toArray e (0,0))/\CR w K D vs cs
  | .vec n k e cs=>a0P cs=jB/\((D i=vA .nil/\n=0/\cs=[])\/ ∃b c vs rest,D i=vA (.at b c n)/\K b=0/\0<k/\n<=c/\c<=maxLen/\
      w.heap[b]?=vA (.cells (vs++rest).toArray e (0,0))/\vs.length=n*k/\(vs++rest).length=c*k/\CR w K D vs cs)
  | .map es=> ∃r mes clock,D i=vA (.at r 0 0)/\K r=0/\w.heap[r]?=vA (.map mes clock)/\es.length=mes.size/\N0F mes clock/\
      ∀(j:Nat) (me:MapEntry) (kv:SV×SV),mes[j]?=vA me->es[j]?=vA kv->Rep w K D me.key kv.1/\Rep w K D me.val kv.2
  | .pmap es=> ∃(es':List<|SV×SV) (r:Nat) (mes:Array MapEntry) (clock:Nat),es'.Perm es/\D i=vA (.at r 0 0)/\K r=0/\w.heap[r]?=vA (.map mes clock)/\es'.length=mes.size/\N0F mes clock/\
      ∀(j:Nat) (me:MapEntry) (kv:SV×SV),mes[j]?=vA me->es'[j]?=vA kv->Rep w K D me.key kv.1/\Rep w K D me.val kv.2
  | .itr m n seen=> ∃r bm c0,D i=vA (.at r 0 0)/\K r=0/\w.heap[r]?=vA (.mapIter (vA bm) n seen.toArray c0)/\c0=n/\Rep w K D (.map<|vA bm) (.mp m)
  | .lop tm ps as bd st pd=> ∃l r,D i=vA (.at l 0 0)/\K l=0/\w.heap[l]?=vA (.loop r)/\r.params=ps.toArray/\r.assign=as/\r.body=bd/\r.state=st/\r.pending=pd/\r.tmps.size=tm.length/\
      ∀(j:Nat) (v:Value) (c:SV),r.tmps[j]?=vA v->tm[j]?=vA c->Rep w K D v c
  | .dfr=> ∃b,D i=vA (.at b 0 0)/\K b=0/\w.heap[b]?=vA (.deferred<|vA [])
structure HInv(w:World)(K:Nat->Nat)(D:DM)(H:a0e):Prop where
  dom: ∀i,H.length<=i->D i=none
  ent: ∀i en,H[i]?=vA en->EntOk w K D i en
  inj: ∀i j en en' b c n c' n',H[i]?=vA en->H[j]?=vA en'->h0e en=jB->h0e en'=jB->D i=vA (.at b c n)->D j=vA (.at b c' n')->i=j
  kw: ∀b,K b≠0->b<w.heap.size
structure Grow(w:World)(K:Nat->Nat)(D:DM)(H:a0e)(w':World)(K':Nat->Nat)(D':DM)(H':a0e):Prop where
  os:w'.os=w.os
  tape:w'.tape=w.tape
  output:w'.output=w.output
  size:w.heap.size<=w'.heap.size
  block: ∀b,b<w.heap.size-> ¬Mem D H b->w'.heap[b]?=w.heap[b]?
  cells: ∀b j,j<K b->w'.cell? ⟨b,j,none⟩=w.cell? ⟨b,j,none⟩
  le: ∀b,K b<=K' b
  kk: ∀b,b<w.heap.size-> ¬Mem D H b->K' b=K b
  dd: ∀i x,D i=vA x->D' i=vA x
  new: ∀b,Mem D' H' b->Mem D H b\/w.heap.size<=b
def Grow.refl(w:World)(K:Nat->Nat)(D:DM)(H:a0e):Grow w K D H w K D H:=
  ⟨rfl,rfl,rfl,ak _,λ_ _ _=>rfl,λ_ _ _=>rfl,λ_=>ak _,λ_ _ _=>rfl,λ_ _ h=>h,λ_ h=> .inl h⟩
theorem Grow.trans{w1 w2:World}{K K1 K2:Nat->Nat}{D D1 D2:DM}{H H1 H2:a0e}(g:Grow w K D H w1 K1 D1 H1)(g':Grow w1 K1 D1 H1 w2 K2 D2 H2):Grow w K D H w2 K2 D2 H2:=by
  have hn: ∀b,b<w.heap.size-> ¬Mem D H b-> ¬Mem D1 H1 b:=λb hb hm h=>by
    rcases g.new b h with h|h;exact hm h;omega
  refine⟨g'.os.trans g.os,g'.tape.trans g.tape,g'.output.trans g.output,aH g.size g'.size,λb hb hm=> ?_,λb j hj=> ?_,λb=>aH (g.le b)<|g'.le b,λb hb hm=> ?_,λi x h=>g'.dd i x<|g.dd i x h,λb h=> ?_⟩;rw[g'.block b (bk hb g.size)<|hn b hb hm];exact g.block b hb hm;rw[g'.cells b j<|bk hj<|g.le b];exact g.cells b j hj;rw[g'.kk b (bk hb g.size)<|hn b hb hm];exact g.kk b hb hm;rcases g'.new b h with h|h;exact g.new b h;exact .inr<|aH g.size h
def Grow.rep{K:Nat->Nat}{D D':DM}{H H':a0e}(g:Grow w K D H w' K' D' H'){s:SV}(h:Rep w K D v s):Rep w' K' D' v s:=
  h.mono g.cells g.le g.dd
theorem CR.mono{K:Nat->Nat}{D D':DM}(hr: ∀v s,Rep w K D v s->Rep w' K' D' v s){cs:List SV}(h:CR w K D vs cs):CR w' K' D' vs cs:=
  ⟨h.len,h.one,λj v c hv hc=>hr _ _<|h.rep j v c hv hc⟩
theorem World.drew_rep{K:Nat->Nat}{D:DM}{s:SV}(h:Rep w K D v s):Rep w.drew K D v s:=
  Rep.mono (w:=w) (w':=w.drew) (λ_ _ _=>rfl) (λ_=>ak _) (λ_ _ e=>e) h
theorem EntOk.keep{K:Nat->Nat}{D D':DM}{en:Ent}(h:EntOk w K D i en)(hr: ∀v s,Rep w K D v s->Rep w' K' D' v s)(hd:D' i=D i)
    (hb: ∀b c n,h0e en=jB->D i=vA (.at b c n)->w'.heap[b]?=w.heap[b]?/\K' b=K b):EntOk w' K' D' i en:=by
  cases en with
  |res=>simpa only[EntOk,hd]using h
  |gone=>trivial
  |box cs=>
    obtain⟨b,vs,e,h1,h2,h3,h4⟩:=h;obtain⟨g1,g2⟩:=hb b 0 0 rfl h1;exact⟨b,vs,e,by rw[hd];exact h1,by rw[g2];exact h2,by rw[g1];exact h3,h4.mono hr⟩
  |vec n k e cs=>
    obtain⟨hp,h⟩:=h;refine⟨hp, ?_⟩;rcases h with⟨h1,h2,h3⟩|⟨b,c,vs,rest,h1,h2,h3,h4,h5,h6,h7,h8,h9⟩;exact .inl ⟨by rw[hd];exact h1,h2,h3⟩;obtain⟨g1,g2⟩:=hb b c n rfl h1;exact .inr ⟨b,c,vs,rest,by rw[hd];exact h1,by rw[g2];exact h2,h3,h4,h5,by rw[g1];exact h6,h7,h8,h9.mono hr⟩
  |map es=>
    obtain⟨r,mes,clock,h1,h2,h3,h4,hB,h5⟩:=h;obtain⟨g1,g2⟩:=hb r 0 0 rfl h1;exact⟨r,mes,clock,by rw[hd];exact h1,by rw[g2];exact h2,by rw[g1];exact h3,h4,hB,λj me kv hm hk=>⟨hr _ _ (h5 j me kv hm hk).1,hr _ _ (h5 j me kv hm hk).2⟩⟩
  |pmap es=>
    obtain⟨es',r,mes,clock,hp,h1,h2,h3,h4,hB,h5⟩:=h;obtain⟨g1,g2⟩:=hb r 0 0 rfl h1;exact⟨es',r,mes,clock,hp,by rw[hd];exact h1,by rw[g2];exact h2,by rw[g1];exact h3,h4,hB,λj me kv hm hk=>⟨hr _ _ (h5 j me kv hm hk).1,hr _ _ (h5 j me kv hm hk).2⟩⟩
  |itr m n seen=>
    obtain⟨r,bm,c0,h1,h2,h3,h4,h5⟩:=h;obtain⟨g1,g2⟩:=hb r 0 0 rfl h1;exact⟨r,bm,c0,by rw[hd];exact h1,by rw[g2];exact h2,by rw[g1];exact h3,h4,hr _ _ h5⟩
  |lop tm ps as bd st pd=>
    obtain⟨l,r,h1,h2,h3,h4,h5,h6,h7,h8,h9,h10⟩:=h;obtain⟨g1,g2⟩:=hb l 0 0 rfl h1;exact⟨l,r,by rw[hd];exact h1,by rw[g2];exact h2,by rw[g1];exact h3,h4,h5,h6,h7,h8,h9,λj v c hv hc=>hr _ _<|h10 j v c hv hc⟩
  |dfr=>
    obtain⟨b,h1,h2,h3⟩:=h;obtain⟨g1,g2⟩:=hb b 0 0 rfl h1;exact⟨b,by rw[hd];exact h1,by rw[g2];exact h2,by rw[g1];exact h3⟩
theorem k0A{K:Nat->Nat}{D:DM}{H:a0e}(h:HInv w K D H)(hm:Mem D H b):b<w.heap.size/\K b=0:=by
  obtain⟨i,en,c,n,hi,hl,hd⟩:=hm;have he:=h.ent i en hi
  cases en with
  |res=>cases hl
  |gone=>cases hl
  |box cs=>
    obtain⟨b',vs,e,h1,h2,h3,_⟩:=he;rw[h1]at hd;cases hd;exact⟨(al.1 h3).1,h2⟩
  |vec m k e cs=>
    rcases he.2 with⟨h1,_⟩|⟨b',c',vs,rest,h1,h2,_,_,_,h6,_⟩;rw[h1]at hd;cases hd;rw[h1]at hd;cases hd;exact⟨(al.1 h6).1,h2⟩
  |map es=>
    obtain⟨r,mes,clock,h1,h2,h3,_⟩:=he;rw[h1]at hd;cases hd;exact⟨(al.1 h3).1,h2⟩
  |pmap es=>
    obtain⟨es',r,mes,clock,_,h1,h2,h3,_⟩:=he;rw[h1]at hd;cases hd;exact⟨(al.1 h3).1,h2⟩
  |itr m n' seen=>
    obtain⟨r,bm,c0,h1,h2,h3,_⟩:=he;rw[h1]at hd;cases hd;exact⟨(al.1 h3).1,h2⟩
  |lop tm ps as bd st pd=>
    obtain⟨l,r,h1,h2,h3,_⟩:=he;rw[h1]at hd;cases hd;exact⟨(al.1 h3).1,h2⟩
  |dfr=>
    obtain⟨b',h1,h2,h3⟩:=he;rw[h1]at hd;cases hd;exact⟨(al.1 h3).1,h2⟩
def Good(w:World)(K:Nat->Nat)(D:DM)(H:a0e)(r:Value)(w':World)(s:SV)(H':a0e):Prop:=
  ∃K' D',Grow w K D H w' K' D' H'/\HInv w' K' D' H'/\Rep w' K' D' r s
def Good.here{K:Nat->Nat}{D:DM}{H:a0e}{s:SV}(hi:HInv w K D H)(h:Rep w K D r s):Good w K D H r w s H:=
  ⟨K,D,Grow.refl _ _ _ _,hi,h⟩
theorem HInv.drew{K:Nat->Nat}{D:DM}{H:a0e}(h:HInv w K D H):HInv w.drew K D H:=
  ⟨h.dom,λi en hi=>(h.ent i en hi).keep (λ_ _=>World.drew_rep) rfl λ_ _ _ _ _=>⟨rfl,rfl⟩,h.inj,h.kw⟩
def Grow.drew(w:World)(K:Nat->Nat)(D:DM)(H:a0e):Grow w K D H w.drew K D H:=
  ⟨rfl,rfl,rfl,ak _,λ_ _ _=>rfl,λ_ _ _=>rfl,λ_=>ak _,λ_ _ _=>rfl,λ_ _ h=>h,λ_ h=> .inl h⟩
section
def p0B:Value->Option SV
  | .bool b=>vA (.bool b)
  | .int k n=>vA (.int k n)
  | .string s=>vA (.str s.data.toList)
  | .slice none 0 0=>vA .nl
  | .pointer none=>vA .nilp
  |_=>none
structure GT where
  tab:Nat->Option (List SV)
def N0z[G:Inhabited GT](g:Nat):Option (List SV):=G.default.tab g
variable [Inhabited GT]
def a0B(ρ:Nat->SV):Operand->Option SV
  | .tmp t=>vA (ρ t)
  | .const v=>vA ((p0B v).getD .undef)
  | .func f=>vA (.fn (.func f) [] [])
  | .global g=>(N0z g).map .ep
def v0V(P:Program)(t:TypeId):Bool:=match P.underlying t with
  |some .bool=>jB
  |_=>oA
def k0p(bt:Bool)(op:BinOp)(a b:SV):Option SV:=
  match op with
  | .add=>match a,b with
    | .int k x, .int k' y=>if k=k' then vA (.int k<|k.wrap<|x+y)else none
    | .str s, .str t=>if C0t (s.length+t.length)then vA (.str<|s++t)else none
    |_,_=>none
  | .sub=>match a,b with
    | .int k x, .int k' y=>if k=k' then vA (.int k<|k.wrap<|x-y)else none
    |_,_=>none
  | .mul=>match a,b with
    | .int k x, .int k' y=>if k=k' then vA (.int k<|k.wrap<|x*y)else none
    |_,_=>none
  | .quo=>match a,b with
    | .int k x, .int k' y=>if k=k' then(if y=0 then none else vA<|.int k<|k.wrap<|x.tdiv y)else none
    |_,_=>none
  | .rem=>match a,b with
    | .int k x, .int k' y=>if k=k' then(if y=0 then none else vA<|.int k<|x.tmod y)else none
    |_,_=>none
  | .and=>match a,b with
    | .int k x, .int k' y=>if k=k' then vA (.int k<|bits .and k x y)else none
    |_,_=>none
  | .or=>match a,b with
    | .int k x, .int k' y=>if k=k' then vA (.int k<|bits .or k x y)else none
    |_,_=>none
  | .xor=>match a,b with
    | .int k x, .int k' y=>if k=k' then vA (.int k<|bits .xor k x y)else none
    |_,_=>none
  | .andNot=>match a,b with
    | .int k x, .int k' y=>if k=k' then vA (.int k<|bits .andNot k x y)else none
    |_,_=>none
  | .shl=>match a,b with
    | .int k x, .int _ y=>if y<0 then none else vA (.int k<|k.wrap<|x*2^(min y.toNat k.bits))
    |_,_=>none
  | .shr=>match a,b with
    | .int k x, .int _ y=>if y<0 then none else vA (.int k<|x.fdiv<|2^(min y.toNat k.bits))
    |_,_=>none
  | .eql=>match a,b with
    | .int k x, .int k' y=>if k=k' then vA (.bool<|yA<|x=y)else none
    | .bool x, .bool y=>if bt then vA (.bool<|x==y)else none
    | .str s, .str t=>vA (.bool<|s==t)
    |_,_=>none
  | .neq=>match a,b with
    | .int k x, .int k' y=>if k=k' then vA (.bool<|yA<|¬x=y)else none
    | .bool x, .bool y=>if bt then vA (.bool<|x !=y)else none
    | .str s, .str t=>vA (.bool<|s !=t)
    |_,_=>none
  | .lss=>match a,b with
    | .int k x, .int k' y=>if k=k' then vA (.bool<|yA<|x<y)else none
    | .str s, .str t=>vA (.bool<|Op.bytesLess s t)
    |_,_=>none
  | .leq=>match a,b with
    | .int k x, .int k' y=>if k=k' then vA (.bool<|yA<|x<=y)else none
    | .str s, .str t=>vA (.bool (Op.bytesLess s t||s==t))
    |_,_=>none
  | .gtr=>match a,b with
    | .int k x, .int k' y=>if k=k' then vA (.bool<|yA<|x>y)else none
    | .str s, .str t=>vA (.bool !(Op.bytesLess s t||s==t))
    |_,_=>none
  | .geq=>match a,b with
    | .int k x, .int k' y=>if k=k' then vA (.bool<|yA<|x≥y)else none
    | .str s, .str t=>vA (.bool !(Op.bytesLess s t))
    |_,_=>none
def l0W(s:ByteArray):s.toList=s.data.toList:=ByteArray.toList_eq s
def p0c{P:Program}(s:Sem Unit)(t:Sem Value)(hs:s=pure ()):(do s;t:Sem Value).run P w=t.run P w:=by
  subst hs;rfl
def i0Z{P:Program}{k:IntKind}{a b:Int}
    (h:(binOp op t (.int k a)<|.int k b).run P w= .ok r w):(do eqGuard op t x y (.int k a) (.int k b);binOp op t (.int k a) (.int k b):Sem Value).run P w= .ok r w:=by
  rw[p0c _ _<|by cases op<;>rfl];exact h
def A0V{P:Program}{a b:Bool}
    (h:(binOp op t (.bool a)<|.bool b).run P w= .ok r w):(do eqGuard op t x y (.bool a) (.bool b);binOp op t (.bool a) (.bool b):Sem Value).run P w= .ok r w:=by
  rw[p0c _ _<|by cases op<;>rfl];exact h
def w0p{P:Program}{a b:ByteArray}
    (h:(binOp op t (.string a)<|.string b).run P w= .ok r w):(do eqGuard op t x y (.string a) (.string b);binOp op t (.string a) (.string b):Sem Value).run P w= .ok r w:=by
  rw[p0c _ _<|by cases op<;>rfl];exact h
def PureV(P:Program)(w:World)(K:Nat->Nat)(D:DM)(s:Sem Value)(c:SV):Prop:=
  ∃r,s.run P w= .ok r w/\Rep w K D r c
section
variable {P : Program}{w : World}{K : Nat -> Nat}{D : DM}
def PureV.int{k:IntKind}{n:Int}(h:s.run P w= .ok (.int k n) w):PureV P w K D s (.int k n):=⟨_,h, .int _ _⟩
def PureV.bool{b:Bool}(h:s.run P w= .ok (.bool b) w):PureV P w K D s (.bool b):=⟨_,h, .bool _⟩
def PureV.str{b:ByteArray}{l:List UInt8}(h:s.run P w= .ok (.string b) w)(hl:l=b.data.toList):PureV P w K D s (.str l):=by subst hl;exact⟨_,h, .str _⟩
end
def r0M{P:Program}(h:v0V P t=jB):P.underlying t=vA .bool:=by
  unfold v0V at h;split at h<;>first|assumption|cases h
def z0I{P:Program}{K:Nat->Nat}{D:DM}{u:Value}{a b c:SV}
    (hu:Rep w K D u a) (hv:Rep w K D v b) (h:k0p (v0V P t) op a b=vA c):PureV P w K D (do eqGuard op t x y u v;binOp op t u v:Sem Value) c:=by
  cases op
  case add=>
    simp only[k0p]at h
    split at h
    · cases hu;cases hv;split at h<;>cases h
      rename_i hk;subst hk;exact .int (i0Z<|by simp[binOp,Op.intArith])
    · cases hu;cases hv;split at h<;>cases h
      rename_i hl;unfold C0t at hl
      exact .str (w0p (by
        simp only[binOp,Op.stringOp]
        rw[yB<|by simp[IntKind.max,oG,yH]at hl⊢;omega];rfl)) dE
    cases h
  case sub=>
    simp only[k0p]at h
    split at h
    · cases hu;cases hv;split at h<;>cases h
      rename_i hk;subst hk;exact .int (i0Z<|by simp[binOp,Op.intArith])
    cases h
  case mul=>
    simp only[k0p]at h
    split at h
    · cases hu;cases hv;split at h<;>cases h
      rename_i hk;subst hk;exact .int (i0Z<|by simp[binOp,Op.intArith])
    cases h
  case quo=>
    simp only[k0p]at h
    split at h
    · cases hu;cases hv;split at h<;>try cases h
      rename_i hk;subst hk;split at h<;>cases h
      rename_i hy;exact .int (i0Z<|by simp[binOp,Op.intDiv,hy])
    cases h
  case rem=>
    simp only[k0p]at h
    split at h
    · cases hu;cases hv;split at h<;>try cases h
      rename_i hk;subst hk;split at h<;>cases h
      rename_i hy;exact .int (i0Z<|by simp[binOp,Op.intDiv,hy])
    cases h
  case and=>
    simp only[k0p]at h
    split at h
    · cases hu;cases hv;split at h<;>cases h
      rename_i hk;subst hk;exact .int (i0Z<|by simp[binOp,intBits_and])
    cases h
  case or=>
    simp only[k0p]at h
    split at h
    · cases hu;cases hv;split at h<;>cases h
      rename_i hk;subst hk;exact .int (i0Z<|by simp[binOp,intBits_or])
    cases h
  case xor=>
    simp only[k0p]at h
    split at h
    · cases hu;cases hv;split at h<;>cases h
      rename_i hk;subst hk;exact .int (i0Z<|by simp[binOp,intBits_xor])
    cases h
  case andNot=>
    simp only[k0p]at h
    split at h
    · cases hu;cases hv;split at h<;>cases h
      rename_i hk;subst hk;exact .int (i0Z<|by simp[binOp,intBits_andNot])
    cases h
  case shl=>
    simp only[k0p]at h
    split at h
    · cases hu;cases hv;split at h<;>cases h
      rename_i hy;exact .int (by rw[p0c _ _ (show eqGuard .shl t x y _ _=pure ()from rfl)];simp[binOp,Op.shift,hy])
    cases h
  case shr=>
    simp only[k0p]at h
    split at h
    · cases hu;cases hv;split at h<;>cases h
      rename_i hy;exact .int (by rw[p0c _ _ (show eqGuard .shr t x y _ _=pure ()from rfl)];simp[binOp,Op.shift,hy])
    cases h
  case eql=>
    simp only[k0p]at h
    split at h
    · cases hu;cases hv;split at h<;>cases h
      rename_i hk;subst hk;exact .bool (i0Z<|by simp[binOp,Op.intCmp];rfl)
    · cases hu;cases hv;split at h<;>cases h
      rename_i hb;exact .bool (A0V<|run_eql_bool _ _ _ _<|r0M hb)
    cases hu;cases hv;cases h;exact .bool (w0p<|by simp[binOp,Op.stringOp,l0W]);cases h
  case neq=>
    simp only[k0p]at h
    split at h
    · cases hu;cases hv;split at h<;>cases h
      rename_i hk;subst hk;exact .bool (i0Z<|by simp[binOp,Op.intCmp,bne];rfl)
    · cases hu;cases hv;split at h<;>cases h
      rename_i hb;exact .bool (A0V<|by simp[binOp,run_equal_bool w _ _ _<|r0M hb,bne])
    cases hu;cases hv;cases h;exact .bool (w0p<|by simp[binOp,Op.stringOp,l0W,bne]);cases h
  all_goals
    simp only[k0p]at h
    split at h
    · cases hu;cases hv;split at h<;>cases h
      rename_i hk;subst hk;exact .bool (i0Z<|by simp[binOp,Op.intCmp])
    cases hu;cases hv;cases h;exact .bool (w0p<|by simp[binOp,Op.stringOp,l0W]);cases h
end
section
variable [Inhabited GT]
abbrev Env:=Nat->SV
def upd(ρ:Env)(d:Nat)(v:SV):Env:=λi=>if i=d then v else ρ i
def m0I(ρ:Env)(d:Option Nat)(s:SV):Env:=match d with
  |some d=>upd ρ d s
  |none=>ρ
def Operand.inB(n:Nat):Operand->Bool
  | .tmp t=>yA (t<n)
  |_=>jB
def m0p(w:World)(K:Nat->Nat)(D:DM):Prop:= ∀g cs,N0z g=vA cs->Rep w K D (.pointer<|vA ⟨g,0,none⟩) (.ep cs)
structure Slots(n:Nat)(w:World)(K:Nat->Nat)(D:DM)(ρ:Env)(tm:Array Value):Prop where
  size:tm.size=n
  rep: ∀i,i<n->Rep w K D (tm.getD i undef) (ρ i)
  glob:m0p w K D
theorem Slots.mono{K:Nat->Nat}{D D':DM}{ρ:Env}{tm:Array Value}(h:Slots n w K D ρ tm)(hr: ∀v s,Rep w K D v s->Rep w' K' D' v s):Slots n w' K' D' ρ tm:=
  ⟨h.size,λi hi=>hr _ _<|h.rep i hi,λg cs hg=>hr _ _<|h.glob g cs hg⟩
theorem Slots.put{K:Nat->Nat}{D:DM}{ρ:Env}{a:Act}(h:Slots n w K D ρ a.tmps)(d:Option Nat){s:SV}(hr:Rep w K D r s):Slots n w K D (m0I ρ d s) (a.put d r).tmps:=by
  cases d with
  |none=>exact h
  |some d=>
    refine⟨by simpa [Act.put]using h.size,λi hi=> ?_,h.glob⟩;simp only[m0I,upd,Act.put];by_cases hd:i=d;subst hd;have:i<a.tmps.size:=by rw[h.size];exact hi
    simpa [Array.getD,this]using hr;rw[yB hd];have:=h.rep i hi;simpa [ba,Ne.symm hd]using this
def l0X{K:Nat->Nat}{D:DM}{s:SV}(h:p0B v=vA s):Rep w K D v s:=by
  unfold p0B at h;split at h<;>cases h
  exact .bool _;exact .int _ _;exact .str _;exact .nl _;exact .nilp
theorem a0i{K:Nat->Nat}{D:DM}{ρ:Env}{a:Act}(h:Slots n w K D ρ a.tmps)(hx:Operand.inB n x=jB){s:SV}
    (hv:a0B ρ x=vA s):Rep w K D (a.eval x) s:=by
  cases x with
  |tmp t=>
    cases hv;exact h.rep t (by simpa [Operand.inB]using hx)
  |const v=>
    cases hc:p0B v with
    |none=>simp only[a0B,hc,Option.getD_none,aj]at hv;subst hv;exact .undef _
    |some c=>simp only[a0B,hc,bu,aj]at hv;subst hv;exact l0X hc
  |global g=>
    cases hg:N0z g with
    |none=>simp only[a0B,hg,Option.map_none]at hv;cases hv
    |some cs=>
      simp only[a0B,hg,aZ,aj]at hv;subst hv;exact h.glob g cs hg
  |func f=>
    cases hv;exact .fn _ [] [] [] [] rfl rfl (λj v c e=>by simp at e) (λj v c e=>by simp at e)
def b0q(P:Program)(t:TypeId)(cs:List SV):Option SV:=
  match P.underlying t with
  |some (.struct _)=>if P.cellsOf t<=cs.length then vA (.agg<|cs.take<|P.cellsOf t)else none
  |some (.array _ _)=>if P.cellsOf t<=cs.length then vA (.agg<|cs.take<|P.cellsOf t)else none
  |some _=>match cs with
    |c::_=>vA c
    | []=>none
  |none=>none
def O0P(op:UnOp)(a:SV):Option SV:=
  match op,a with
  | .neg, .int k n=>vA (.int k<|k.wrap<|0-n)
  | .xor, .int k n=>vA (.int k<|bits .xor k (if k.signed then-1 else k.max) n)
  | .not, .bool b=>vA (.bool !b)
  |_,_=>none
def t0Q(P:Program)(dst:TypeId)(a:SV):Option SV:=
  match P.underlying dst,a with
  |some (.int k), .int _ n=>vA (.int k<|k.wrap n)
  |_,_=>none
def O0Z(P:Program)(t:TypeId)(s:SV):Option SV:=
  match P.underlying t,s with
  |some (.slice _), .lst n _ _=>vA (.int .i64 n)
  |some (.slice _), .nl=>vA (.int .i64 0)
  |some (.slice _), .sl _ _ n _=>vA (.int .i64 n)
  |some .string, .str s=>vA (.int .i64 s.length)
  |some (.array n _),_=>vA (.int .i64 n)
  |_,_=>none
def i0O(ρ:Env)(lo:Option Operand)(d:Int):Option Int:=
  match lo with
  |none=>vA d
  |some l=>match a0B ρ l with
    |some (.int _ n)=>vA n
    |_=>none
def O0n(n k:Nat)(cs:List SV)(i:Int):Option SV:=if 0<k/\0<=i/\i<n then vA (.ep<|(cs.drop<|i.toNat*k).take k)else none
def D0e(n k:Nat)(cs:List SV)(l h:Int):Option SV:=if 0<k/\0<=l/\l<=h/\h<=n then vA (.lst (h.toNat-l.toNat) k<|(cs.take<|h.toNat*k).drop<|l.toNat*k)else none
def J0P(ρ:Env)(big:Bool):List Operand->Option SV
  | [x]=>match a0B ρ x with
    |some (.int k a)=>vA (.int k a)
    |_=>none
  |x::r=>match a0B ρ x,J0P ρ big r with
    |some (.int k a),vA (.int k' b)=>if k=k' then vA (.int k (if big then max a b else min a b))else none
    |_,_=>none
  | []=>none
def z0G(P:Program)(c:Call)(ρ:Env):Option SV:=
  match c.callee with
  | .builtin .len=>match c.args.toList,c.argTypes.toList with
    | [x],[t]=>(a0B ρ x).bind (O0Z P t)
    |_,_=>none
  |_=>none
def SV.cells?:SV->Option (List SV)
  | .undef=>none
  | .agg cs=>vA cs
  | .tup _=>none
  | .ep _=>none
  |s=>vA [s]
def C0u(v:Value):Option SV:=match p0B v with
  |some s=>vA s
  |none=>if v.oneCell'=jB then vA .undef else none
def o0j(v:Value):Option (List SV):=v.cells.toList.mapM C0u
def r0T(P:Program)(t:TypeId):Option (List SV):=
  match P.info? t with
  |some i=>match i.zero with
    |some z=>match o0j z with
      |some cs=>if cs.length=i.size then vA cs else none
      |none=>none
    |none=>none
  |none=>none
def splice(cs:List SV)(off:Nat)(ps:List SV):List SV:=cs.take off++(ps++cs.drop (off+ps.length))
def q0F(ρ:Env)(place:Nat->Option (Nat×Nat))(cs:List SV):List (Nat×Operand)->Option (List SV)
  | []=>vA cs
  |(i,x)::rest=>match place i,(a0B ρ x).bind SV.cells? with
    |some (off,size),vA ps=>if ps.length=size/\off+ps.length<=cs.length then q0F ρ place (splice cs off ps) rest else none
    |_,_=>none
def A0o(P:Program)(t:TypeId):Option (List<|Nat×Nat):=
  match P.underlying t with
  |some (.struct fs)=>fs.toList.mapM λf=>(P.info? f.type).map λi=>(f.offset,i.size)
  |_=>none
def y0i(P:Program)(t:TypeId):Option Nat:=
  match P.underlying t with
  |some (.array _ e)=>(P.info? e).map λi=>i.size
  |_=>none
def a0k(P:Program)(o:Oper)(ρ:Env):Option SV:=
  match o.op with
  | .move x=>a0B ρ x
  | .assign x=>a0B ρ x
  | .pick c a b=>match a0B ρ c with
    |some (.bool jB)=>a0B ρ a
    |some (.bool oA)=>a0B ρ b
    |_=>none
  | .binOp op t x y _=>match a0B ρ x,a0B ρ y with
    |some a,vA b=>k0p (v0V P t) op a b
    |_,_=>none
  | .unOp op _ x=>match a0B ρ x with
    |some a=>O0P op a
    |none=>none
  | .convert src dst x=>match P.underlying src,a0B ρ x with
    |some _,vA a=>t0Q P dst a
    |_,_=>none
  | .extract t i=>match a0B ρ t with
    |some (.tup vs)=>vs[i]?
    |_=>none
  | .nilCheck x=>match a0B ρ x with
    |some (.ptr i off)=>vA (.ptr i off)
    |some (.ep cs)=>vA (.ep cs)
    |some (.fn (.func f) a b)=>vA (.fn (.func f) a b)
    |_=>none
  | .indexAddr t x i=>match P.underlying t,a0B ρ x,a0B ρ i with
    |some (.slice e),vA (.lst n k cs),vA (.int _ j)=>if k=P.cellsOf e then O0n n k cs j else none
    |some (.slice e),vA (.sl b off n k),vA (.int _ j)=>if k=P.cellsOf e/\0<k/\0<=j/\j<n then vA (.ptr b<|off+j.toNat*k)else none
    |some (.array len e),vA (.ep cs),vA (.int _ n)=>if 0<=n/\n<len/\(n.toNat+1)*P.cellsOf e<=cs.length/\0<P.cellsOf e then vA (.ep<|(cs.drop<|n.toNat*P.cellsOf e).take<|P.cellsOf e)else none
    |some (.array len e),vA (.ptr b off),vA (.int _ n)=>if 0<=n/\n<len/\0<P.cellsOf e then vA (.ptr b<|off+n.toNat*P.cellsOf e)else none
    |_,_,_=>none
  | .fieldAddr s x f=>match P.underlying s with
    |some (.struct fs)=>match fs[f]?,a0B ρ x with
      |some fd,vA (.ep cs)=>if 0<P.cellsOf fd.type/\fd.offset<=cs.length then vA (.ep<|cs.drop fd.offset)else none
      |some fd,vA (.ptr b off)=>if 0<P.cellsOf fd.type then vA (.ptr b<|off+fd.offset)else none
      |_,_=>none
    |_=>none
  | .field t x f=>match P.underlying t with
    |some (.struct fs)=>match fs[f]?,a0B ρ x with
      |some fd,vA (.agg cs)=>b0q P fd.type (cs.drop fd.offset)
      |_,_=>none
    |_=>none
  | .load t x=>match a0B ρ x with
    |some (.ep cs)=>b0q P t cs
    |_=>none
  | .slice t x lo hi mx=>match P.underlying t,a0B ρ x,mx with
    |some (.slice e),vA (.lst n k cs),none=>
      match i0O ρ lo 0,i0O ρ hi (n:Int)with
      |some l,vA h=>if k=P.cellsOf e then D0e n k cs l h else none
      |_,_=>none
    |some .string,vA (.str s),none=>
      match i0O ρ lo 0,i0O ρ hi (s.length:Int)with
      |some l,vA h=>if 0<=l/\l<=h/\h.toNat<=s.length then vA (.str<|(s.take h.toNat).drop l.toNat)else none
      |_,_=>none
    |_,_,_=>none
  | .index t x i=>match P.underlying t,a0B ρ x,a0B ρ i with
    |some .string,vA (.str s),vA (.int _ n)=>if 0<=n then(match s[n.toNat]? with|some b=>vA (.int .u8 b.toNat)|none=>none)else none
    |some (.array len e),vA (.agg cs),vA (.int _ n)=>if 0<=n/\n<len then b0q P e (cs.drop<|n.toNat*P.cellsOf e)else none
    |_,_,_=>none
  | .call c=>z0G P c ρ
  | .makeFunc fn first captured=>match first.toList.mapM (a0B ρ),captured.toList.mapM (a0B ρ)with
    |some a,vA b=>vA (.fn fn a b)
    |_,_=>none
  | .build t parts=>match r0T P t,A0o P t,y0i P t with
    |some zs,vA pl,_=>(q0F ρ (λi=>pl[i]?) zs parts.toList).map .agg
    |some zs,none,vA k=>(q0F ρ (λi=>vA (i*k,k)) zs parts.toList).map .agg
    |_,_,_=>none
  |_=>none
section
variable {P : Program}{n : Nat}{w : World}{K : Nat -> Nat}{D : DM}{ρ : Env}{a : Act}{o : Oper}
def h0H(P:Program)(w:World)(K:Nat->Nat)(D:DM)(o:Oper)(a:Act)(s:SV):Prop:=
  ∃r,(execOp a.eval o).run P w= .ok (.value r) w/\Rep w K D r s
def b0k{w:World}(h:s.run P w= .ok r w'):(do pure (Next.value<|<-s):Sem Next).run P w= .ok (.value r) w':=by
  simp[h]
def add_lit(b off n:Nat):(⟨b,off,none⟩:Addr).add n=⟨b,off+n,none⟩:=by
  unfold Addr.add;split<;>simp_all
structure RowAt(w:World)(K:Nat->Nat)(D:DM)(b off:Nat)(vs:List Value)(cs:List SV):Prop where
  len:cs.length=vs.length
  mem: ∀j v,vs[j]?=vA v->w.cell? ⟨b,off+j,none⟩=vA v
  one: ∀v∈vs,v.oneCell'=jB
  rep: ∀(j:Nat) (v:Value) (c:SV),vs[j]?=vA v->cs[j]?=vA c->Rep w K D v c
theorem RowAt.drop{cs:List SV}(h:RowAt w K D b off vs cs)(n:Nat):RowAt w K D b (off+n) (vs.drop n) (cs.drop n):=
  ⟨by simp[h.len],λj v hj=>by rw[Nat.add_assoc];exact h.mem (n+j) v<|by simpa using hj,λc hc=>h.one c<|bL hc,λj v c hv hc=>h.rep (n+j) v c (by simpa using hv)<|by simpa using hc⟩
theorem RowAt.take{cs:List SV}(h:RowAt w K D b off vs cs)(n:Nat):RowAt w K D b off (vs.take n) (cs.take n):=
  ⟨by simp[h.len],λj v hj=>h.mem j v (by rw[aM]at hj;split at hj<;>first|exact hj|cases hj),λc hc=>h.one c<|bM hc,λj v c hv hc=>
    h.rep j v c (by rw[aM]at hv;split at hv<;>first|exact hv|cases hv) (by rw[aM]at hc;split at hc<;>first|exact hc|cases hc)⟩
theorem i0e{cs:List SV}(h:a0P cs=jB)(n:Nat):a0P (cs.drop n)=true:=
  List.all_eq_true.2 λc hc=>List.all_eq_true.1 h c<|bL hc
theorem f0B{cs:List SV}(h:a0P cs=jB)(n:Nat):a0P (cs.take n)=true:=
  List.all_eq_true.2 λc hc=>List.all_eq_true.1 h c<|bM hc
theorem m0b{cs:List SV}{s:SV}(h:RowAt w K D b off vs cs)(hv:b0q P t cs=vA s):
    ∃r,(loadVar t ⟨b,off,none⟩).run P w= .ok r w/\Rep w K D r s:=by
  have hagg:(if P.cellsOf t<=cs.length then vA (SV.agg<|cs.take<|P.cellsOf t)else none)=vA s->(isAgg t).run P w= .ok jB w->P.underlying t≠none->
      ∃r,(loadVar t ⟨b,off,none⟩).run P w= .ok r w/\Rep w K D r s:=by
    intro h1 h2 h3;split at h1<;>cases h1
    rename_i hle
    obtain⟨i,hi⟩: ∃i,P.info? t=vA i:=by
      cases hi:P.info? t with
      |none=>exact absurd (by simp[Program.underlying,hi]) h3
      |some i=>exact⟨i,rfl⟩
    have hsz:P.cellsOf t=i.size:=by simp[vJ,hi]
    have ht:=h.take<|P.cellsOf t;refine⟨.agg (vs.take<|P.cellsOf t).toArray, ?_, .agg _ _ (by simp[h.len]) ht.one ht.rep⟩;have hl:(vs.take<|P.cellsOf t).length=P.cellsOf t:=by simp;rw[<-h.len];omega
    have:=run_loadCells_list (P:=P) (w:=w) ⟨b,off,none⟩ (vs.take<|P.cellsOf t) (λj v hj=>by rw[add_lit];exact ht.mem j v hj);rw[hl]at this;simp[loadVar,h2,sizeOf,typeInfo,hi,<-hsz,this]
  unfold b0q at hv;split at hv;rename_i fs hu;exact hagg hv (by simp[isAgg,run_underlying hu]) (by simp[hu]);rename_i n e hu;exact hagg hv (by simp[isAgg,run_underlying hu]) (by simp[hu])
  · rename_i d hns hna hu
    split at hv<;>cases hv
    rename_i cs'
    cases vs with
    |nil=>have:=h.len;simp at this
    |cons v vs'=>
      refine⟨v, ?_,h.rep 0 v s rfl rfl⟩;have hm:=h.mem 0 v rfl;simp only[cC]at hm
      have hia:(isAgg t).run P w= .ok oA w:=by
        simp only[isAgg,zD,run_underlying hu,vC];cases d<;>first|rfl|exact(hns _ rfl).elim|exact(hna _ _ rfl).elim
      simp[loadVar,hia,run_load,hm]
  cases hv
def a0H{c:SV}(he:execOp a.eval o=(do pure (Next.value<|<-s)))(hr:s.run P w= .ok r w)(h:Rep w K D r c):h0H P w K D o a c:=
  ⟨r,by rw[he];exact b0k hr,h⟩
def x0l{c:SV}(he:execOp a.eval o=(do pure (Next.value<|<-s)))(h:PureV P w K D s c):h0H P w K D o a c:=
  let⟨_,hr,hrep⟩:=h;a0H he hr hrep
def r0f{cs:List SV}(h:Rep w K D v<|.ep cs): ∃b off vs,v= .pointer (vA ⟨b,off,none⟩)/\RowAt w K D b off vs cs/\off+vs.length<=K b/\a0P cs=true:=by
  cases h with
  |ep b off vs _ hc hm hK h1 hp h=>exact⟨b,off,vs,rfl,⟨hc,hm,h1,h⟩,hK,hp⟩
def RowAt.ep{cs:List SV}(h:RowAt w K D b off vs cs)(hK:off+vs.length<=K b)(hp:a0P cs=jB):Rep w K D (.pointer<|vA ⟨b,off,none⟩) (.ep cs):=
  .ep b off vs cs h.len h.mem hK h.one hp h.rep
def l0A{n:Nat}{cs:List SV}(h:Rep w K D v<|.lst n k cs):
    (∃a cap,v= .slice a 0 cap/\cs=[]/\n=0)\/ ∃b off cap vs,v= .slice (vA ⟨b,off,none⟩) n cap/\RowAt w K D b off vs cs/\off+vs.length<=K b/\0<k/\vs.length=n*k/\n<=cap/\a0P cs=true:=by
  cases h with
  |emp _ a cap=>exact .inl ⟨a,cap,rfl,rfl,rfl⟩
  |lst _ b off len cap vs _ hk hl hc hcap hm hK h1 hp h=>exact .inr ⟨b,off,cap,vs,rfl,⟨hc,hm,h1,h⟩,hK,hk,hl,hcap,hp⟩
def RowAt.lst{len:Nat}{cs:List SV}(h:RowAt w K D b off vs cs)(hK:off+vs.length<=K b)(hk:0<k)(hl:vs.length=len*k)(hcap:len<=cap)(hp:a0P cs=jB):
    Rep w K D (.slice (vA ⟨b,off,none⟩) len cap) (.lst len k cs):=
  .lst k b off len cap vs cs hk hl h.len hcap h.mem hK h.one hp h.rep
def r0Q(h:0<P.cellsOf t): ∃i,P.info? t=vA i/\i.size=P.cellsOf t:=by
  cases hi:P.info? t with
  |none=>simp[vJ,hi]at h
  |some i=>exact⟨i,rfl,by simp[vJ,hi]⟩
theorem b0N(h:0<P.cellsOf t):(sizeOf t).run P w= .ok (P.cellsOf t) w:=by
  obtain⟨i,hi,hs⟩:=r0Q h;simp[sizeOf,typeInfo,hi,hs]
def RowAt.part{n:Nat}{cs:List SV}(h:RowAt w K D b off vs cs)(hK:off+vs.length<=K b)(hp:a0P cs=jB)(hle:n+k<=cs.length):
    Rep w K D (.pointer<|vA ⟨b,off+n,none⟩) (.ep<|(cs.drop n).take k):=
  ((h.drop n).take k).ep (by
    have:=h.len;simp only[aE,bc]
    omega) (f0B (i0e hp n) k)
theorem x0U(h:Slots n w K D ρ a.tmps){i:Operand}(ho:o.op= .indexAddr t x i)(hx:Operand.inB n x=jB)(hi:Operand.inB n i=jB){s:SV}
    (hs:a0k P o ρ=vA s):h0H P w K D o a s:=by
  have he:execOp a.eval o=(do pure (Next.value<|<-yJ t (a.eval x) (a.eval i))):=by unfold execOp;rw[ho]
  simp only[a0k,ho]at hs
  split at hs
  · rename_i e q k cs kk j hu hxe hie
    split at hs<;>try cases hs
    rename_i hk;unfold O0n at hs;split at hs<;>cases hs
    rename_i hc;obtain⟨hk1,hn,hlt⟩:=hc;have hrx:=a0i h hx hxe;have hri:=a0i h hi hie;generalize hvi:a.eval i=vi at hri;cases hri;rcases l0A hrx with⟨ea,ecap,hv,hcs,hn0⟩|⟨b,off,cap,vs,hv,hrow,hK,hk0,hl,hcap,hp⟩;omega
    have hle:j.toNat*k+k<=cs.length:=by
      rw[hrow.len,hl,<-bU];exact aK _ dA
    subst hk;refine a0H he (r:= .pointer<|vA ⟨b,off+j.toNat*P.cellsOf e,none⟩) ?_<|hrow.part hK hp hle;rw[hv,hvi];simp[yJ,asIntOf,run_underlying hu,b0N hk0,hn,hlt,add_lit]
  · rename_i e bi off m k kk j hu hxe hie
    split at hs<;>cases hs
    rename_i hc;obtain⟨hk,hk0,hn,hlt⟩:=hc;have hrx:=a0i h hx hxe;have hri:=a0i h hi hie;generalize hvi:a.eval i=vi at hri;cases hri;generalize hvx:a.eval x=vx at hrx;subst hk
    cases hrx with
    |sl _ _ _ _ b c m' cap hd hcap=>
      refine a0H he (r:= .pointer<|vA ⟨b,off+j.toNat*P.cellsOf e,none⟩) ?_<|.ptr _ _ _ _ _ hd;rw[hvx,hvi];simp[yJ,asIntOf,run_underlying hu,b0N hk0,hn,hlt,add_lit]
  · rename_i len e cs kk j hu hxe hie
    split at hs<;>cases hs
    rename_i hc;obtain⟨hn,hlen,hle,hk0⟩:=hc;have hrx:=a0i h hx hxe;have hri:=a0i h hi hie;generalize hvi:a.eval i=vi at hri;cases hri;rw[bU]at hle;obtain⟨b,off,vs,hv,hrow,hK,hp⟩:=r0f hrx;refine a0H he (r:= .pointer<|vA ⟨b,off+j.toNat*P.cellsOf e,none⟩) ?_<|hrow.part hK hp hle;rw[hv,hvi];simp[yJ,jI,asIntOf,run_underlying hu,b0N hk0,hn,hlen,add_lit]
  · rename_i len e bx off kk j hu hxe hie
    split at hs<;>cases hs
    rename_i hc;obtain⟨hn,hlen,hk0⟩:=hc;have hrx:=a0i h hx hxe;have hri:=a0i h hi hie;generalize hvi:a.eval i=vi at hri;cases hri;generalize hvx:a.eval x=vx at hrx
    cases hrx with
    |ptr _ _ b c m hb=>
      refine a0H he (r:= .pointer<|vA ⟨b,off+j.toNat*P.cellsOf e,none⟩) ?_<|.ptr _ _ _ _ _ hb;rw[hvx,hvi];simp[yJ,jI,asIntOf,run_underlying hu,b0N hk0,hn,hlen,add_lit]
  cases hs
theorem y0c(h:Slots n w K D ρ a.tmps){f:Nat}(ho:o.op= .fieldAddr t x f)(hx:Operand.inB n x=jB){s:SV}
    (hs:a0k P o ρ=vA s):h0H P w K D o a s:=by
  have he:execOp a.eval o=(do pure (Next.value<|<-Instr.fieldAt t (a.eval x) f)):=by unfold execOp;rw[ho]
  simp only[a0k,ho]at hs
  split at hs
  · rename_i fs hu
    split at hs
    · rename_i fd cs hf hxe
      split at hs<;>cases hs
      rename_i hc;obtain⟨hk0,hle⟩:=hc;obtain⟨b,off,vs,hv,hrow,hK,hp⟩:=r0f<|a0i h hx hxe;have hne:P.cellsOf fd.type≠0:=by omega
      refine a0H he (r:= .pointer<|vA ⟨b,off+fd.offset,none⟩) ?_ ((hrow.drop fd.offset).ep (by have:=hrow.len;simp only[bc];omega)<|i0e hp _);rw[hv];simp[Instr.fieldAt,jI,run_underlying hu,hf,fieldPlace,b0N hk0,hne,add_lit]
    · rename_i fd bx off hf hxe
      split at hs<;>cases hs
      rename_i hk0;have hrx:=a0i h hx hxe;generalize hvx:a.eval x=vx at hrx;have hne:P.cellsOf fd.type≠0:=by omega
      cases hrx with
      |ptr _ _ b c m hb=>
        refine a0H he (r:= .pointer<|vA ⟨b,off+fd.offset,none⟩) ?_<|.ptr _ _ _ _ _ hb;rw[hvx];simp[Instr.fieldAt,jI,run_underlying hu,hf,fieldPlace,b0N hk0,hne,add_lit]
    cases hs
  cases hs
theorem J0T(h:Slots n w K D ρ a.tmps)(ho:o.op= .load t x)(hx:Operand.inB n x=jB){s:SV}
    (hs:a0k P o ρ=vA s):h0H P w K D o a s:=by
  have he:execOp a.eval o=(do pure (Next.value<|<-Instr.loadAt t (a.eval x))):=by unfold execOp;rw[ho]
  simp only[a0k,ho]at hs;split at hs;rename_i cs hxe;obtain⟨b,off,vs,hv,hrow,hK,hp⟩:=r0f<|a0i h hx hxe;obtain⟨r,hr,hrep⟩:=m0b (P:=P) hrow hs;exact a0H he (by rw[hv];simp[Instr.loadAt,jI,hr]) hrep;cases hs
theorem B0Z(h:Slots n w K D ρ a.tmps)(ho:o.op= .extract x i)(hx:Operand.inB n x=jB){s:SV}
    (hs:a0k P o ρ=vA s):h0H P w K D o a s:=by
  have he:execOp a.eval o=(do pure (Next.value<|<-Instr.extract (a.eval x) i)):=by unfold execOp;rw[ho]
  simp only[a0k,ho]at hs;split at hs;rename_i vs hxe;have hrx:=a0i h hx hxe;generalize hvx:a.eval x=vx at hrx
  cases hrx with
  |tup ws _ hl hrep=>
    have hi:i<ws.length:=by rw[<-hl];exact(ab.1 hs).1
    have hg:ws[i]?=vA ws[i]:=af hi;exact a0H he (r:=ws[i]) (by rw[hvx];simp[Instr.extract,hg]) (hrep i _ s hg hs)
  cases hs
theorem e0b{cs:List SV}{s:SV}(hl:cs.length=vs.length)(h1: ∀v∈vs,v.oneCell'=jB)
    (h: ∀(j:Nat) (v:Value) (c:SV),vs[j]?=vA v->cs[j]?=vA c->Rep w K D v c) (hv:b0q P t (cs.drop off)=vA s):
    ∃r,(part t vs.toArray off).run P w= .ok r w/\Rep w K D r s:=by
  have hagg:(if P.cellsOf t<=(cs.drop off).length then vA (SV.agg<|(cs.drop off).take<|P.cellsOf t)else none)=vA s->(isAgg t).run P w= .ok jB w->P.underlying t≠none->
      ∃r,(part t vs.toArray off).run P w= .ok r w/\Rep w K D r s:=by
    intro h1' h2 h3;split at h1'<;>cases h1'
    rename_i hle
    obtain⟨i,hi⟩: ∃i,P.info? t=vA i:=by
      cases hi:P.info? t with
      |none=>exact absurd (by simp[Program.underlying,hi]) h3
      |some i=>exact⟨i,rfl⟩
    have hsz:P.cellsOf t=i.size:=by simp[vJ,hi]
    refine⟨.agg ((vs.drop off).take<|P.cellsOf t).toArray, ?_, .agg _ _ (by simp[hl]) (λc hc=>h1 c<|bL<|bM hc) λj v c hv hc=> ?_⟩;simp only[part,zD,h2,vC,if_true,sizeOf,typeInfo,run_program,hi,vE,<-hsz];congr 2;apply jK;simp[cn];rw[aM]at hv hc;by_cases hj:j<P.cellsOf t;rw[vB hj]at hv hc;exact h (off+j) v c (by simpa using hv) (by simpa using hc);rw[yB hj]at hv;cases hv
  unfold b0q at hv;split at hv;rename_i fs hu;exact hagg hv (by simp[isAgg,run_underlying hu]) (by simp[hu]);rename_i n e hu;exact hagg hv (by simp[isAgg,run_underlying hu]) (by simp[hu])
  · rename_i d hns hna hu
    split at hv<;>cases hv
    rename_i cs' hcs
    have hc:cs[off]?=vA s:=by
      have:(cs.drop off)[0]?=vA s:=by rw[hcs];rfl
      simpa using this
    have hi:off<vs.length:=by rw[<-hl];exact(ab.1 hc).1
    have hg:vs[off]?=vA vs[off]:=af hi;refine⟨vs[off], ?_,h off _ s hg hc⟩
    have hia:(isAgg t).run P w= .ok oA w:=by
      simp only[isAgg,zD,run_underlying hu,vC];cases d<;>first|rfl|exact(hns _ rfl).elim|exact(hna _ _ rfl).elim
    simp[part,hia,hg]
  cases hv
theorem H0x(h:Slots n w K D ρ a.tmps){f:Nat}(ho:o.op= .field t x f)(hx:Operand.inB n x=jB){s:SV}
    (hs:a0k P o ρ=vA s):h0H P w K D o a s:=by
  have he:execOp a.eval o=(do pure (Next.value<|<-Instr.field t (a.eval x) f)):=by unfold execOp;rw[ho]
  simp only[a0k,ho]at hs;split at hs;rename_i fs hu;split at hs;rename_i fd cs hf hxe;have hrx:=a0i h hx hxe;generalize hvx:a.eval x=vx at hrx
  cases hrx with
  |agg vs _ hl h1 hrep=>
    obtain⟨r,hr,hrep⟩:=e0b (P:=P) hl h1 hrep hs;exact a0H he (by rw[hvx];simp[Instr.field,run_underlying hu,hf,asAgg,hr]) hrep
  cases hs;cases hs
theorem H0q(h:Slots n w K D ρ a.tmps){i:Operand}(ho:o.op= .index t x i)(hx:Operand.inB n x=jB)(hi:Operand.inB n i=jB){s:SV}
    (hs:a0k P o ρ=vA s):h0H P w K D o a s:=by
  have he:execOp a.eval o=(do pure (Next.value<|<-Instr.index t (a.eval x) (a.eval i))):=by unfold execOp;rw[ho]
  simp only[a0k,ho]at hs
  split at hs
  · rename_i l k m hu hxe hie
    have hrx:=a0i h hx hxe;have hri:=a0i h hi hie;generalize hvi:a.eval i=vi at hri;cases hri;generalize hvx:a.eval x=vx at hrx
    cases hrx with
    |str sb=>
      split at hs
      · rename_i hn
        split at hs<;>cases hs
        rename_i b hb;refine a0H he (r:= .int .u8 b.toNat) ?_<|.int _ _;rw[hvx,hvi]
        have hb':sb[m.toNat]?=vA b:=by
          have hb2:sb.data[m.toNat]?=vA b:=by simpa using hb
          obtain⟨h1,h2⟩:=al.1 hb2;rw[getElem?_pos sb m.toNat h1];exact congrArg vA h2
        simp[Instr.index,asIntOf,run_underlying hu,hn,hb']
      cases hs
  rename_i len e cs k m hu hxe hie;split at hs;rename_i hc;obtain⟨hn,hlen⟩:=hc;have hrx:=a0i h hx hxe;have hri:=a0i h hi hie;generalize hvi:a.eval i=vi at hri;cases hri;generalize hvx:a.eval x=vx at hrx
  cases hrx with
  |agg vs _ hl h1 hrep=>
    obtain⟨r,hr,hrep'⟩:=e0b (P:=P) hl h1 hrep hs
    have hsz:(sizeOf e).run P w= .ok (P.cellsOf e) w:=by
      cases hi:P.info? e with
      |none=>
        have:P.underlying e=none:=by simp[Program.underlying,hi]
        simp[b0q,this]at hs
      |some i=>simp[sizeOf,typeInfo,hi,vJ]
    exact a0H he (by rw[hvx,hvi];simp[Instr.index,asIntOf,run_underlying hu,hn,hlen,hsz,hr]) hrep'
  cases hs;cases hs
theorem M0m(h:Slots n w K D ρ a.tmps)(ho:o.op= .call c)(hx: ∀x∈c.args,Operand.inB n x=jB){s:SV}
    (hs:a0k P o ρ=vA s):h0H P w K D o a s:=by
  simp only[a0k,ho,z0G]at hs
  split at hs
  · rename_i hcal
    split at hs
    · rename_i x t hargs htys
      have ha:c.args= #[x]:=by rw[<-bh];exact hargs
      have ht:c.argTypes= #[t]:=by rw[<-bh];exact htys
      have hrun: ∀r,(Builtin.len_ #[t] o.type #[a.eval x]).run P w= .ok r w->(execOp a.eval o).run P w= .ok (.value r) w:=λr hr=>by
        unfold execOp;simp only[ho,resolve,hcal,ha,ht,invoke,builtin,zD,vE,vC,cg,ao,aI,hr]
      have hxb:=hx x (by rw[ha];simp)
      cases hxe:a0B ρ x with
      |none=>rw[hxe]at hs;cases hs
      |some s0=>
        rw[hxe]at hs;simp only[ah,O0Z]at hs;have hrx:=a0i h hxb hxe;split at hs;rename_i e m k cs hu;cases hs
        have hv: ∃ad cap,a.eval x= .slice ad m cap:=by
          rcases l0A hrx with⟨ea,ecap,hv,hcs,hn0⟩|⟨b,off,cap,vs,hv,_⟩;exact⟨_,_,by rw[hv,hn0]⟩;exact⟨_,_,hv⟩
        obtain⟨ad,cap,hv⟩:=hv;exact⟨.int .i64 m,hrun _<|by rw[hv];simp[Builtin.len_,run_underlying hu,goInt], .int _ _⟩;rename_i e hu;cases hs;generalize hvx:a.eval x=vx at hrx;cases hrx;exact⟨.int .i64 0,hrun _<|by rw[hvx];simp[Builtin.len_,run_underlying hu,goInt], .int _ _⟩;rename_i e i off m k hu;cases hs;generalize hvx:a.eval x=vx at hrx;cases hrx;exact⟨.int .i64 m,hrun _<|by rw[hvx];simp[Builtin.len_,run_underlying hu,goInt], .int _ _⟩;rename_i l hu;cases hs;generalize hvx:a.eval x=vx at hrx
        cases hrx with
        |str sb=>exact⟨.int .i64 sb.size,hrun _<|by rw[hvx];simp[Builtin.len_,run_underlying hu,goInt],by simpa using Rep.int .i64 sb.size⟩
        · rename_i m e hu
          cases hs;refine⟨.int .i64 m,hrun _ ?_, .int _ _⟩;cases a.eval x<;>simp[Builtin.len_,run_underlying hu,goInt]
        cases hs
    cases hs
  cases hs
end
section
variable {P : Program}{n : Nat}{w : World}{K : Nat -> Nat}{D : DM}{ρ : Env}{a : Act}{o : Oper}
theorem C0c(h:Slots n w K D ρ a.tmps)(ho:o.op= .convert src dst x)(hx:Operand.inB n x=jB){s:SV}
    (hs:a0k P o ρ=vA s):h0H P w K D o a s:=by
  have he:execOp a.eval o=(do pure (Next.value<|<-convert src dst (a.eval x))):=by unfold execOp;rw[ho]
  simp only[a0k,ho]at hs;split at hs;rename_i d sv hsrc hxe;have hrx:=a0i h hx hxe;unfold t0Q at hs;split at hs;rename_i k k' n hdst;cases hs;generalize hvx:a.eval x=vx at hrx;cases hrx;exact a0H he (r:= .int k<|k.wrap n) (by rw[hvx];simp[convert,run_underlying hsrc,run_underlying hdst,Conv.intToInt])<|.int _ _;cases hs;cases hs
def I0X(h:Slots n w K D ρ a.tmps){op:UnOp}(ho:o.op= .unOp op t x)(hx:Operand.inB n x=jB){s:SV}
    (hs:a0k P o ρ=vA s):h0H P w K D o a s:=by
  have he:execOp a.eval o=(do pure (Next.value<|<-Op.unary op (a.eval x))):=by unfold execOp;rw[ho]
  simp only[a0k,ho]at hs;split at hs;rename_i sv hxe;have hrx:=a0i h hx hxe;unfold O0P at hs;split at hs;cases hs;generalize hvx:a.eval x=vx at hrx;cases hrx;exact a0H he (by rw[hvx];simp only[Op.unary,Op.intArith];rfl)<|.int _ _;cases hs;generalize hvx:a.eval x=vx at hrx;cases hrx;exact a0H he (by rw[hvx];simp only[Op.unary,intBits_xor];rfl)<|.int _ _;cases hs;generalize hvx:a.eval x=vx at hrx;cases hrx;exact a0H he (by rw[hvx];simp only[Op.unary];rfl)<|.bool _;cases hs;cases hs
def H0M(h:Slots n w K D ρ a.tmps){u:TypeId}(ho:o.op= .binOp op t x y u)(hx:Operand.inB n x=jB)(hy:Operand.inB n y=jB){s:SV}
    (hs:a0k P o ρ=vA s):h0H P w K D o a s:=by
  have he:execOp a.eval o=(do pure (Next.value<|<-(do eqGuard op t x y (a.eval x) (a.eval y);binOp op t (a.eval x) (a.eval y):Sem Value))):=by unfold execOp;rw[ho]
  simp only[a0k,ho]at hs;split at hs;rename_i sa sb hxe hye;exact x0l he<|z0I (a0i h hx hxe) (a0i h hy hye) hs;cases hs
def E0c(h:Slots n w K D ρ a.tmps)(ho:o.op= .move x\/o.op= .assign x)(hx:Operand.inB n x=jB){s:SV}
    (hs:a0k P o ρ=vA s):h0H P w K D o a s:=by
  have he:(execOp a.eval o).run P w= .ok (.value<|a.eval x) w:=by unfold execOp;rcases ho with ho|ho<;>rw[ho]<;>rfl
  have hs':a0B ρ x=vA s:=by rcases ho with ho|ho<;>simpa only[a0k,ho]using hs
  exact⟨_,he,a0i h hx hs'⟩
def J0D(h:Slots n w K D ρ a.tmps){c:Operand}(ho:o.op= .pick c x y)(hc:Operand.inB n c=jB)(hx:Operand.inB n x=jB)(hy:Operand.inB n y=jB){s:SV}
    (hs:a0k P o ρ=vA s):h0H P w K D o a s:=by
  simp only[a0k,ho]at hs;have he:execOp a.eval o=(do pure (.value (if<-asBool (a.eval c)then a.eval x else a.eval y))):=by unfold execOp;rw[ho]
  split at hs;rename_i hce;have hrc:=a0i h hc hce;generalize hvc:a.eval c=vc at hrc;cases hrc;exact⟨_,by rw[he,hvc];simp[asBool],a0i h hx hs⟩;rename_i hce;have hrc:=a0i h hc hce;generalize hvc:a.eval c=vc at hrc;cases hrc;exact⟨_,by rw[he,hvc];simp[asBool],a0i h hy hs⟩;cases hs
theorem z0c(h:Slots n w K D ρ a.tmps)(ho:o.op= .nilCheck x)(hx:Operand.inB n x=jB){s:SV}
    (hs:a0k P o ρ=vA s):h0H P w K D o a s:=by
  simp only[a0k,ho]at hs
  have he: ∀r,a.eval x=r->(match r with| .pointer (vA _)=>True| .func (.func _) _ _=>True|_=>False)->(execOp a.eval o).run P w= .ok (.value r) w:=by
    intro r hr hm;unfold execOp;rw[ho];dsimp only;rw[hr];split at hm;rfl;rfl;exact hm.elim
  split at hs;rename_i i off hxe;cases hs;have hrx:=a0i h hx hxe;generalize hvx:a.eval x=vx at hrx
  cases hrx with
  |ptr _ _ b c m hb=>exact⟨_,he _ hvx trivial, .ptr _ _ _ _ _ hb⟩
  rename_i cs hxe;cases hs;have hrx:=a0i h hx hxe;generalize hvx:a.eval x=vx at hrx;have hrx':=hrx
  cases hrx with
  |ep=>exact⟨_,he _ hvx trivial,hrx'⟩
  rename_i f p q hxe;cases hs;have hrx:=a0i h hx hxe;generalize hvx:a.eval x=vx at hrx;have hrx':=hrx
  cases hrx with
  |fn=>exact⟨_,he _ hvx trivial,hrx'⟩
  cases hs
theorem q0K(h:Slots n w K D ρ a.tmps){lo:Option Operand}{d m:Int}{y:Nat}{code:BoundsCode}(hx: ∀x,lo=vA x->Operand.inB n x=jB)
    (hl:i0O ρ lo d=vA m) (h0:0<=m) (h1:m<=y):
    (lo=none/\m=d)\/ ∃l,lo=vA l/\(oI (a.eval l) y code).run P w= .ok m.toNat w:=by
  cases lo with
  |none=>simp[i0O]at hl;exact .inl ⟨rfl,hl.symm⟩
  |some l=>
    right;refine⟨l,rfl, ?_⟩;simp only[i0O]at hl;split at hl<;>cases hl
    rename_i k hle;have hr:=a0i h (hx l rfl) hle;generalize hvl:a.eval l=vl at hr;cases hr;simp[oI,asIntOf,h0,h1]
theorem G0q(h:Slots n w K D ρ a.tmps){lo hi mx:Option Operand}(ho:o.op= .slice t x lo hi mx)(hx:Operand.inB n x=jB)
    (hlo: ∀x,lo=vA x->Operand.inB n x=jB) (hhi: ∀x,hi=vA x->Operand.inB n x=jB) {s:SV}
    (hs:a0k P o ρ=vA s):h0H P w K D o a s:=by
  have he:execOp a.eval o=(do pure (Next.value<|<-yG t (a.eval x) (lo.map a.eval) (hi.map a.eval) (mx.map a.eval))):=by unfold execOp;rw[ho]
  simp only[a0k,ho]at hs
  split at hs
  · rename_i e n k cs hu hxe
    split at hs
    · rename_i l hh hle hhe
      split at hs<;>try cases hs
      rename_i hk;unfold D0e at hs;split at hs<;>cases hs
      rename_i hc;obtain⟨hk0,hl0,hlh,hle'⟩:=hc;have hrx:=a0i h hx hxe;have hsz:(sizeOf e).run P w= .ok k w:=by rw[hk];exact b0N (by rw[<-hk];exact hk0)
      have bounds: ∀cap:Nat,n<=cap->(jE jB n cap (lo.map a.eval) (hi.map a.eval) none).run P w= .ok (l.toNat,hh.toNat,cap) w:=by
        intro cap hlc;have b1:=q0K (P:=P) (code:= .sliceAcap) h hhi hhe dA (show hh<=(cap:Int) by omega);have b2:=q0K (P:=P) (code:= .sliceB) (y:=hh.toNat) h hlo hle hl0 dA;rcases b1 with⟨rfl,e1⟩|⟨y1,rfl,e1⟩<;>rcases b2 with⟨rfl,e2⟩|⟨y2,rfl,e2⟩
        subst e1;subst e2;simp[jE];subst e1;simp at e2;simp[jE,e2];subst e2;simp[jE,e1];simp[jE,e1,e2]
      rcases l0A hrx with⟨ea,ecap,hv,hcs,hn0⟩|⟨b,off,cap,vs,hv,hrow,hK,_,hl,hcap,hp⟩
      · subst hcs;subst hn0
        have hb:=bounds ecap<|bo _;have h0:hh.toNat=0:=by omega
        have h0':l.toNat=0:=by omega
        refine a0H he (r:= .slice ea 0 ecap) ?_ (by simpa [h0,h0']using Rep.emp k ea ecap);rw[hv];have hadd:ea.map (λx=>x.add<|0*k)=ea:=by cases ea<;>simp[Addr.add]
        have hadd':ea.map (λx=>x.add 0)=ea:=by cases ea<;>simp[Addr.add]
        simp[yG,wK,run_underlying hu,hb,hsz,h0,h0',hadd']
      have hb:=bounds cap hcap;have hlk:l.toNat*k<=hh.toNat*k:=aK k dA;have hhk:hh.toNat*k<=n*k:=aK k dA;have hrow':=(hrow.take<|hh.toNat*k).drop (l.toNat*k)
      have hvl:((vs.take<|hh.toNat*k).drop<|l.toNat*k).length=(hh.toNat-l.toNat)*k:=by
        simp only[bc,aE,Nat.sub_mul];omega
      have hcl:(hh.toNat-l.toNat)<=cap-l.toNat:=by omega
      have hp':a0P ((cs.take<|hh.toNat*k).drop<|l.toNat*k)=true:=i0e (f0B hp _) _;by_cases hml:cap=l.toNat;have hz:(hh.toNat-l.toNat)=0:=by omega
      have hnil:(cs.take<|hh.toNat*k).drop (l.toNat*k)=[]:=by
        apply ay;rw[hrow'.len,hvl,hz,Nat.zero_mul]
      refine a0H he (r:= .slice (vA ⟨b,off,none⟩) (hh.toNat-l.toNat)<|cap-l.toNat) ?_ ?_;rw[hv];subst hml;simp[yG,wK,run_underlying hu,hb,hsz];rw[hnil,hz];exact .emp _ _ _;refine a0H he (r:= .slice (vA ⟨b,off+l.toNat*k,none⟩) (hh.toNat-l.toNat)<|cap-l.toNat) ?_ (hrow'.lst (by rw[hvl,Nat.sub_mul];omega) hk0 hvl hcl hp');rw[hv];simp[yG,wK,run_underlying hu,hb,hsz,hml,add_lit]
    cases hs
  · rename_i l0 hu hxe
    split at hs
    · rename_i l hh hle hhe
      split at hs<;>cases hs
      rename_i hc;obtain⟨hl0,hlh,hle'⟩:=hc;have hrx:=a0i h hx hxe;generalize hvx:a.eval x=vx at hrx
      cases hrx with
      |str sb=>
        have hsl:hh.toNat<=sb.size:=by simpa using hle'
        have b1:=q0K (P:=P) (code:= .sliceAlen) h hhi hhe dA (show hh<=(sb.size:Int) by omega);have b2:=q0K (P:=P) (code:= .sliceB) (y:=hh.toNat) h hlo hle hl0 dA
        have hb:(jE oA sb.size sb.size (lo.map a.eval) (hi.map a.eval) none).run P w= .ok (l.toNat,hh.toNat,sb.size) w:=by
          rcases b1 with⟨rfl,e1⟩|⟨y1,rfl,e1⟩<;>rcases b2 with⟨rfl,e2⟩|⟨y2,rfl,e2⟩
          subst e1;subst e2;simp[jE];subst e1;simp at e2;simp[jE,e2];subst e2;simp[jE,e1];simp[jE,e1,e2]
        have hex:(sb.extract l.toNat hh.toNat).data.toList=(sb.data.toList.take hh.toNat).drop l.toNat:=by
          simp[ByteArray.data_extract,cn,List.drop_take]
        refine a0H he (r:= .string<|sb.extract l.toNat hh.toNat) ?_ (by rw[<-hex];exact .str _);rw[hvx];simp[yG,wK,run_underlying hu,hb]
    cases hs
  cases hs
theorem z0g(h:Slots n w K D ρ a.tmps){fn:Fn}{first captured:Array Operand}(ho:o.op= .makeFunc fn first captured)
    (hx: ∀x∈first,Operand.inB n x=jB) (hy: ∀x∈captured,Operand.inB n x=jB) {s:SV}
    (hs:a0k P o ρ=vA s):h0H P w K D o a s:=by
  have he:execOp a.eval o=(do pure (Next.value<|<-Instr.makeFunc fn (first.map a.eval) (captured.map a.eval))):=by unfold execOp;rw[ho]
  simp only[a0k,ho]at hs
  have key: ∀(l:List Operand) (r:List SV),(∀x∈l,Operand.inB n x=jB)->l.mapM (a0B ρ)=vA r->r.length=(l.map a.eval).length/\
      ∀(j:Nat) (v:Value) (c:SV),(l.map a.eval)[j]?=vA v->r[j]?=vA c->Rep w K D v c:=by
    intro l
    induction l with
    |nil=>intro r _ hr;simp at hr;subst hr;exact⟨rfl,λj v c e=>by simp at e⟩
    |cons x l ih=>
      intro r hb hr;simp only[cU]at hr
      cases hx1:a0B ρ x with
      |none=>rw[hx1]at hr;cases hr
      |some s1=>
        rw[hx1]at hr
        cases hr1:l.mapM (a0B ρ)with
        |none=>rw[hr1]at hr;cases hr
        |some r1=>
          rw[hr1]at hr;cases hr;obtain⟨i1,i2⟩:=ih r1 (λy hy=>hb y<|aq _ hy) hr1;refine⟨by simp[i1],λj v c hv hc=> ?_⟩
          cases j with
          |zero=>simp at hv hc;subst hv;subst hc;exact a0i h (hb x<|aB ..) hx1
          |succ j=>exact i2 j v c (by simpa using hv) (by simpa using hc)
  split at hs;rename_i p q hp hq;cases hs;obtain⟨p1,p2⟩:=key _ _ (λx hm=>hx x<|aO.1 hm) hp;obtain⟨q1,q2⟩:=key _ _ (λx hm=>hy x<|aO.1 hm) hq;refine a0H he (r:= .func fn (first.map a.eval)<|captured.map a.eval) rfl ?_;have:=Rep.fn (w:=w) (K:=K) (D:=D) fn (first.toList.map a.eval) (captured.toList.map a.eval) p q p1 q1 p2 q2;rw[show first.map a.eval=(first.toList.map a.eval).toArray from by apply jK;simp,show captured.map a.eval=(captured.toList.map a.eval).toArray from by apply jK;simp];exact this;cases hs
theorem CR.nil:CR w K D [] []:=⟨rfl,λc h=>(by cases h),λj v c h=>by simp at h⟩
theorem CR.append{cs ds:List SV}(h:CR w K D vs cs)(g:CR w K D us ds):CR w K D (vs++us) (cs++ds):=by
  refine⟨by simp[h.len,g.len],λc hc=> ?_,λj v c hv hc=> ?_⟩;rcases av.1 hc with hc|hc;exact h.one c hc;exact g.one c hc;rw[aP]at hv hc;rw[h.len]at hc;split at hv;rename_i hj;rw[vB hj]at hc;exact h.rep j v c hv hc;rename_i hj;rw[yB hj]at hc;exact g.rep _ v c hv hc
theorem CR.take{cs:List SV}(h:CR w K D vs cs)(n:Nat):CR w K D (vs.take n) (cs.take n):=
  ⟨by simp[h.len],λc hc=>h.one c<|bM hc,λj v c hv hc=>
    h.rep j v c (by rw[aM]at hv;split at hv<;>first|exact hv|cases hv) (by rw[aM]at hc;split at hc<;>first|exact hc|cases hc)⟩
theorem CR.drop{cs:List SV}(h:CR w K D vs cs)(n:Nat):CR w K D (vs.drop n) (cs.drop n):=
  ⟨by simp[h.len],λc hc=>h.one c<|bL hc,λj v c hv hc=>h.rep (n+j) v c (by simpa using hv)<|by simpa using hc⟩
def CR.splice{cs ds:List SV}(h:CR w K D vs cs)(g:CR w K D us ds)(off:Nat):CR w K D (vs.take off++(us++vs.drop (off+us.length))) (splice cs off ds):=by
  unfold Sy.splice;rw[g.len];exact(h.take off).append<|g.append<|h.drop _
theorem w0k{s:SV}{ps:List SV}(h:Rep w K D v s)(hp:s.cells?=vA ps):CR w K D v.cells.toList ps:=by
  have single: ∀(u:Value),Rep w K D u s->u.cells= #[u]->u.oneCell'=jB->CR w K D u.cells.toList [s]:=by
    intro u hu hc h1;rw[hc];refine⟨rfl,λc hm=> ?_,λj x c hx hc=> ?_⟩;simp at hm;subst hm;exact h1
    cases j with
    |zero=>simp at hx hc;subst hx;subst hc;exact hu
    |succ j=>simp at hx
  cases h with
  |agg vs cs hc h1 h=>cases hp;exact⟨hc,h1,h⟩
  |undef=>cases hp
  |tup=>cases hp
  |ep=>cases hp
  |bool b=>cases hp;exact single _ (.bool b) rfl rfl
  |int k n=>cases hp;exact single _ (.int k n) rfl rfl
  |str sb=>cases hp;exact single _ (.str sb) rfl rfl
  |nl a=>cases hp;exact single _ (.nl a) rfl rfl
  |emp k a cap=>cases hp;exact single _ (.emp k a cap) rfl rfl
  |lst k b off len cap vs cs hk hl hc hcap hm hK h1 hpl h=>cases hp;exact single _ (.lst k b off len cap vs cs hk hl hc hcap hm hK h1 hpl h) rfl rfl
  |ptr i off b c n hb=>cases hp;exact single _ (.ptr i off b c n hb) rfl rfl
  |vcn i a hd=>cases hp;exact single _ (.vcn i a hd) rfl rfl
  |vc i b c n hd=>cases hp;exact single _ (.vc i b c n hd) rfl rfl
  |sl i off n k b c m cap hd hn=>cases hp;exact single _ (.sl i off n k b c m cap hd hn) rfl rfl
  |mp i r c n hd=>cases hp;exact single _ (.mp i r c n hd) rfl rfl
  |fn f fs caps gs dcs hc hd h h'=>cases hp;exact single _ (.fn f fs caps gs dcs hc hd h h') rfl rfl
  |nilp=>cases hp;exact single _ .nilp rfl rfl
  |yld i l c n hd=>cases hp;exact single _ (.yld i l c n hd) rfl rfl
def z0r: ∀(l:List Value) (k off:Nat) (cells:Array Value),off+k+l.length<=cells.size->
    ((l.zipIdx k).foldl (λcs x=>cs.setIfInBounds (off+x.2) x.1) cells).toList=cells.toList.take (off+k)++(l++cells.toList.drop (off+k+l.length)):=by
  intro l
  induction l with
  |nil=>intro k off cells _;simp
  |cons x l ih=>
    intro k off cells h;simp only[List.zipIdx_cons,List.foldl_cons];rw[ih (k+1) off _<|by simp at h⊢;omega];have hlt:off+k<cells.toList.length:=by simp at h⊢;omega
    simp only[Array.toList_setIfInBounds,aU];rw[show off+(k+1)=off+k+1 from by omega,show off+k+1+l.length=off+k+(l.length+1)from by omega];rw[bZ<|by simpa using hlt,List.take_set_of_le<|ak _,List.drop_set_of_lt dA];simp
theorem z0v(h:Slots n w K D ρ a.tmps){place:Nat->Option (Nat×Nat)}: ∀(parts:List<|Nat×Operand) (cells:Array Value) (cs cs':List SV),(∀p∈parts,Operand.inB n p.2=jB)->
    CR w K D cells.toList cs->q0F ρ place cs parts=vA cs'-> ∃cells',Instr.fill place cells (parts.map λp=>(p.1,a.eval p.2))=vA cells'/\CR w K D cells'.toList cs':=by
  intro parts
  induction parts with
  |nil=>intro cells cs cs' _ hcr hs;cases hs;exact⟨cells,rfl,hcr⟩
  |cons p rest ih=>
    intro cells cs cs' hb hcr hs;obtain⟨i,x⟩:=p;simp only[q0F]at hs;split at hs;rename_i off size ps hp hx;split at hs;rename_i hc;obtain⟨hl,hle⟩:=hc
    cases hxe:a0B ρ x with
    |none=>rw[hxe]at hx;cases hx
    |some sx=>
      rw[hxe]at hx;have hrx:=a0i h (hb (i,x)<|aB ..) hxe;have hcx:=w0k hrx hx;have hvl:(a.eval x).cells.size=size:=by have:=hcx.len;simp at this;omega
      have hcl:cs.length=cells.size:=by simpa using hcr.len
      have hle':off+0+(a.eval x).cells.toList.length<=cells.size:=by simp;omega
      have hf:=z0r (a.eval x).cells.toList 0 off cells hle';have hcond: ¬(((a.eval x).cells.size≠size||off+(a.eval x).cells.size>cells.size)=jB):=by simp;omega
      obtain⟨cells',h1,h2⟩:=ih ((a.eval x).cells.toList.zipIdx.foldl (λcs x=>cs.setIfInBounds (off+x.2) x.1) cells) _ cs' (λp hm=>hb p<|aq _ hm) (by
        rw[hf];simpa using hcr.splice hcx off) hs
      refine⟨cells', ?_,h2⟩;simp only[ao,Instr.fill,hp];rw[yB<|by simpa using hcond]
      have hz:(a.eval x).cells.zipIdx.foldl (λcs x=>cs.setIfInBounds (off+x.2) x.1) cells=(a.eval x).cells.toList.zipIdx.foldl (λcs x=>cs.setIfInBounds (off+x.2) x.1) cells:=by
        rw[<-Array.foldl_toList];simp
      rw[<-hz]at h1;exact h1
    cases hs;cases hs
def A0Y{x:Value}{s:SV}(h:C0u x=vA s):Rep w K D x s/\x.oneCell'=true:=by
  unfold C0u at h
  split at h
  · rename_i s' hx
    cases h;have hpl:s.plain=true:=by unfold p0B at hx;split at hx<;>cases hx<;>rfl
    exact⟨l0X hx,x0p (w:=w) (K:=K) (D:=D) (l0X hx) hpl⟩
  · split at h<;>cases h
    rename_i h1;exact⟨.undef _,h1⟩
theorem q0I{cs:List SV}(h:o0j v=vA cs):CR w K D v.cells.toList cs:=by
  unfold o0j at h;generalize v.cells.toList=l at h
  induction l generalizing cs with
  |nil=>simp at h;subst h;exact CR.nil
  |cons x l ih=>
    simp only[cU]at h
    cases hx:C0u x with
    |none=>rw[hx]at h;cases h
    |some s=>
      rw[hx]at h
      cases hl:l.mapM C0u with
      |none=>rw[hl]at h;cases h
      |some r=>
        rw[hl]at h;cases h;obtain⟨hz1,hz2⟩:=A0Y (w:=w) (K:=K) (D:=D) hx
        have h1:CR w K D [x] [s]:=⟨rfl,λc hm=>by simp at hm;subst hm;exact hz2,λj v c hv hc=>by
          cases j with
          |zero=>simp at hv hc;subst hv;subst hc;exact hz1
          |succ j=>simp at hv⟩
        exact h1.append<|ih hl
def n0U{cs:List SV}(h:r0T P t=vA cs): ∃i z,P.info? t=vA i/\i.zero=vA z/\cs.length=i.size/\P.cellsOf t=i.size/\True/\ ∀(w:World) (K:Nat->Nat) (D:DM),CR w K D z.cells.toList cs:=by
  unfold r0T at h
  split at h
  · rename_i i hi
    split at h
    · rename_i z hz
      split at h
      · rename_i cs' hcs
        split at h<;>cases h
        rename_i hl;exact⟨i,z,hi,hz,hl,by simp[vJ,hi],trivial,λw K D=>q0I hcs⟩
      cases h
    cases h
  cases h
theorem H0L(h:Slots n w K D ρ a.tmps){parts:Array (Nat×Operand)}(ho:o.op= .build t parts)(hb: ∀p∈parts.toList,Operand.inB n p.2=jB){s:SV}
    (hs:a0k P o ρ=vA s):h0H P w K D o a s:=by
  have he:execOp a.eval o=(do pure (Next.value<|<-Instr.build t (parts.map λp=>(p.1,a.eval p.2)))):=by unfold execOp;rw[ho]
  have hpl:(parts.map λp=>(p.1,a.eval p.2)).toList=parts.toList.map λp=>(p.1,a.eval p.2):=by simp
  simp only[a0k,ho]at hs;split at hs;rename_i zs pl hz hp
  cases hf:q0F ρ (λi=>pl[i]?) zs parts.toList with
  |none=>rw[hf]at hs;cases hs
  |some cs=>
    rw[hf]at hs;cases hs;obtain⟨i,z,hi,hzz,hl,hc,_,hcr⟩:=n0U hz;obtain⟨cells',h1,h2⟩:=z0v h parts.toList z.cells zs cs hb (hcr w K D) hf;unfold A0o at hp;split at hp;rename_i fs hu;refine a0H he (r:= .agg cells') (run_build w t _ _ ?_) (by have:=Rep.agg _ _ h2.len h2.one h2.rep;simpa using this);unfold Program.built;simp only[hi,hu,hzz,hp,hpl];rw[<-h1];congr 1;funext j;simp;cases hp
  rename_i zs k hz hp hk
  cases hf:q0F ρ (λi=>vA (i*k,k)) zs parts.toList with
  |none=>rw[hf]at hs;cases hs
  |some cs=>
    rw[hf]at hs;cases hs;obtain⟨i,z,hi,hzz,hl,hc,_,hcr⟩:=n0U hz;obtain⟨cells',h1,h2⟩:=z0v h parts.toList z.cells zs cs hb (hcr w K D) hf;unfold y0i at hk;split at hk;rename_i n e hu
    cases hie:P.info? e with
    |none=>rw[hie]at hk;cases hk
    |some ie=>
      rw[hie]at hk;cases hk;refine a0H he (r:= .agg cells') (run_build w t _ _ ?_) (by have:=Rep.agg _ _ h2.len h2.one h2.rep;simpa using this);unfold Program.built;simp only[hi,hu,hzz,hie,hpl];exact h1
    cases hk
  cases hs
def Op.inB(n:Nat)(o:Op):Bool:=o.operands.all<|Operand.inB n
theorem B0z(h:Slots n w K D ρ a.tmps)(hb:Op.inB n o.op=jB){s:SV}(hs:a0k P o ρ=vA s):h0H P w K D o a s:=by
  unfold Op.inB at hb;rw[aT]at hb;cases ho:o.op
  case move x=>exact E0c h (.inl ho) (hb x<|by simp[ho,wB]) hs
  case assign x=>exact E0c h (.inr ho) (hb x<|by simp[ho,wB]) hs
  case pick c x y=>exact J0D h ho (hb c<|by simp[ho,wB]) (hb x<|by simp[ho,wB]) (hb y<|by simp[ho,wB]) hs
  case binOp op t x y u=>exact H0M h ho (hb x<|by simp[ho,wB]) (hb y<|by simp[ho,wB]) hs
  case unOp op t x=>exact I0X h ho (hb x<|by simp[ho,wB]) hs
  case convert s d x=>exact C0c h ho (hb x<|by simp[ho,wB]) hs
  case extract x i=>exact B0Z h ho (hb x<|by simp[ho,wB]) hs
  case nilCheck x=>exact z0c h ho (hb x<|by simp[ho,wB]) hs
  case indexAddr t x i=>exact x0U h ho (hb x<|by simp[ho,wB]) (hb i<|by simp[ho,wB]) hs
  case index t x i=>exact H0q h ho (hb x<|by simp[ho,wB]) (hb i<|by simp[ho,wB]) hs
  case fieldAddr t x f=>exact y0c h ho (hb x<|by simp[ho,wB]) hs
  case field t x f=>exact H0x h ho (hb x<|by simp[ho,wB]) hs
  case load t x=>exact J0T h ho (hb x<|by simp[ho,wB]) hs
  case slice t x lo hi mx=>
    exact G0q h ho (hb x<|by simp[ho,wB]) (λy hy=>hb y<|by subst hy;simp[ho,wB]) (λy hy=>hb y<|by subst hy;simp[ho,wB]) hs
  case makeFunc f p q=>exact z0g h ho (λx hm=>hb x<|by simp[ho,wB,hm]) (λx hm=>hb x<|by simp[ho,wB,hm]) hs
  case build t parts=>exact H0L h ho (λp hp=>hb p.2<|by simp only[ho,wB,cZ,be];exact⟨p,hp,rfl⟩) hs
  case call c=>exact M0m h ho (λx hm=>hb x<|by simp[ho,wB,Call.operands,hm]) hs
  all_goals(simp only[a0k,ho]at hs;cases hs)
end
def g0y(D:DM)(i:Nat)(l:Loc):DM:=λj=>if j=i then vA l else D j
def h0Y(H:a0e)(i:Nat)(en:Ent):a0e:=if i<H.length then H.set i en else H++ [en]
def CanNew(H:a0e)(i:Nat):Prop:=i=H.length\/H[i]?=vA .res
def i0j(H:a0e):Option Nat->a0e
  |none=>H
  |some i=>H.set i .gone
def r0L(H:a0e)(x:Option Nat):(i0j H x).length=H.length:=by cases x<;>simp[i0j]
def v0q{H:a0e}{en:Ent}(hi:i<=H.length)(j:Nat):(h0Y H i en)[j]?=if j=i then vA en else H[j]?:=by
  unfold h0Y;by_cases hl:i<H.length;rw[vB hl,aR];by_cases hj:j=i;subst hj;simp[hl];rw[yB<|Ne.symm hj,yB hj];rw[yB hl,aP];have:i=H.length:=by omega
  subst this;by_cases hj:j=H.length;subst hj;simp;rw[yB hj];split;rfl;rw[aC dD,aC dA]
theorem l0h{H:a0e}{x:Option Nat}{en:Ent}(h:(i0j H x)[j]?=vA en):en= .gone\/(H[j]?=vA en/\x≠vA j):=by
  cases x with
  |none=>exact .inr ⟨h,dE⟩
  |some i=>
    simp only[i0j]at h;rw[aR]at h;by_cases hij:i=j
    · subst hij
      rw[vB rfl]at h;split at h<;>cases h
      exact .inl rfl
    rw[yB hij]at h;exact .inr ⟨h,by simp[hij]⟩
section
variable {P : Program}{n : Nat}{w : World}{K : Nat -> Nat}{D : DM}{H : a0e}{ρ : Env}{a : Act}{o : Oper}
def CanNew.le(h:CanNew H i):i<=H.length:=by
  rcases h with h|h;omega;exact Nat.le_of_lt (ab.1 h).1
def CanNew.free(h:CanNew H i)(hi:HInv w K D H):D i=none:=by
  rcases h with h|h;exact hi.dom i dA;exact hi.ent i _ h
theorem place(h:HInv w K D H){idx:Nat}(hidx:CanNew H idx){x:Option Nat}(hx:x≠vA idx){c:Nat}{en:Ent}
    (hb:w.heap.size<=b\/ ∃i en0 c0 n0,x=vA i/\H[i]?=vA en0/\h0e en0=jB/\D i=vA (.at b c0 n0))
    (h1:w'.os=w.os) (h2:w'.tape=w.tape) (h3:w'.output=w.output) (h4:w.heap.size<=w'.heap.size)
    (h5: ∀b',b'≠b->b'<w.heap.size->w'.heap[b']?=w.heap[b']?)
    (hen:(∀v s,Rep w K D v s->Rep w' K (g0y D idx<|.at b c m) v s)->EntOk w' K (g0y D idx<|.at b c m) idx en):
    Grow w K D H w' K (g0y D idx<|.at b c m) (h0Y (i0j H x) idx en)/\HInv w' K (g0y D idx<|.at b c m) (h0Y (i0j H x) idx en):=by
  have hfree:=hidx.free h;have hle:=hidx.le;have hlen:(i0j H x).length=H.length:=r0L H x;have hget: ∀j,(h0Y (i0j H x) idx en)[j]?=if j=idx then vA en else(i0j H x)[j]?:=v0q dA
  have hbK:K b=0:=by
    rcases hb with hb|⟨i,en0,c0,n0,_,g1,g2,g3⟩;rcases bB (K b)with hz|hz;exact hz;have:=h.kw b dA;omega;exact(k0A h ⟨i,en0,c0,n0,g1,g2,g3⟩).2
  have hdd: ∀i x,D i=vA x->g0y D idx (.at b c m) i=vA x:=by
    intro i x hi;unfold g0y;rw[yB λe=>by subst e;rw[hfree]at hi;cases hi];exact hi
  have hcells: ∀b' j,j<K b'->w'.cell? ⟨b',j,none⟩=w.cell? ⟨b',j,none⟩:=by
    intro b' j hj;have hne:b'≠b:=λe=>by subst e;omega
    exact World.cell?_of_block (w:=w) (a:=⟨b',j,none⟩) (h5 b' hne<|h.kw b' dA)
  have hrep: ∀v s,Rep w K D v s->Rep w' K (g0y D idx<|.at b c m) v s:=λv s hr=>hr.mono hcells (λ_=>ak _) hdd
  -- a h0e entry beside has another block
  have hother: ∀j enj bj cj nj,j≠idx->(i0j H x)[j]?=vA enj->h0e enj=jB->D j=vA (.at bj cj nj)->bj≠b/\bj<w.heap.size/\H[j]?=vA enj:=by
    intro j enj bj cj nj hj hkj hlj hdj;rcases l0h hkj with hg|⟨hj1,hj2⟩;subst hg;cases hlj;have hlt:=(k0A h ⟨j,enj,cj,nj,hj1,hlj,hdj⟩).1;refine⟨λe=> ?_,hlt,hj1⟩;subst e;rcases hb with hb|⟨i,en0,c0,n0,hxi,g1,g2,g3⟩;omega;have:=h.inj j i enj en0 bj cj nj c0 n0 hj1 g1 hlj g2 hdj g3;subst this;exact hj2 hxi
  have hgrow:Grow w K D H w' K (g0y D idx<|.at b c m) (h0Y (i0j H x) idx en):=by
    refine⟨h1,h2,h3,h4,λb' hb' hm=>h5 b' (λe=> ?_) hb',hcells,λ_=>ak _,λ_ _ _=>rfl,hdd,λb' hm=> ?_⟩;subst e;rcases hb with hb|⟨i,en0,c0,n0,_,g1,g2,g3⟩;omega;exact hm ⟨i,en0,c0,n0,g1,g2,g3⟩;obtain⟨j,enj,cj,nj,e1,e2,e3⟩:=hm;rw[hget]at e1;by_cases hj:j=idx;subst hj;simp only[g0y,if_true]at e3;cases e3;rcases hb with hb|⟨i,en0,c0,n0,_,g1,g2,g3⟩;exact .inr hb;exact .inl ⟨i,en0,c0,n0,g1,g2,g3⟩;rw[yB hj]at e1;simp only[g0y,yB hj]at e3;obtain⟨_,_,q⟩:=hother j enj b' cj nj hj e1 e2 e3;exact .inl ⟨j,enj,cj,nj,q,e2,e3⟩
  refine⟨hgrow,⟨λi hi=> ?_,λi eni hi=> ?_,λi j eni enj bb cc nn cc' nn' hi hj hli hlj hdi hdj=> ?_,λb' hb'=>bk (h.kw b' hb') h4⟩⟩
  have hl:H.length<=i/\i≠idx:=by
    unfold h0Y at hi;split at hi;simp[hlen]at hi;exact⟨dA,dA⟩;simp[hlen]at hi;exact⟨dA,dA⟩
  simp only[g0y,yB hl.2];exact h.dom i hl.1;rw[hget]at hi;by_cases hii:i=idx;subst hii;rw[vB rfl]at hi;cases hi;exact hen hrep;rw[yB hii]at hi;rcases l0h hi with hg|⟨g1,g2⟩;subst hg;trivial;refine(h.ent i eni g1).keep hrep (by simp[g0y,hii]) λbb cc nn hl hd=>⟨?_,rfl⟩;obtain⟨q1,q2,_⟩:=hother i eni bb cc nn hii hi hl hd;exact h5 bb q1 q2;rw[hget]at hi hj;by_cases hii:i=idx;by_cases hjj:j=idx;rw[hii,hjj];rw[yB hjj]at hj;subst hii;simp only[g0y,if_true]at hdi;cases hdi;simp only[g0y,yB hjj]at hdj;exact absurd rfl (hother j enj _ cc' nn' hjj hj hlj hdj).1;rw[yB hii]at hi;simp only[g0y,yB hii]at hdi;by_cases hjj:j=idx;subst hjj;simp only[g0y,if_true]at hdj;cases hdj;exact absurd rfl (hother i eni _ cc nn hii hi hli hdi).1;rw[yB hjj]at hj;simp only[g0y,yB hjj]at hdj;obtain⟨_,_,q1⟩:=hother i eni bb cc nn hii hi hli hdi;obtain⟨_,_,q2⟩:=hother j enj bb cc' nn' hjj hj hlj hdj;exact h.inj i j eni enj bb cc nn cc' nn' q1 q2 hli hlj hdi hdj
theorem t0p(h:HInv w K D H){idx:Nat}(hidx:CanNew H idx)(x:Option Nat)(hx:x≠vA idx)(k:Nat)(e:TypeId):
    Grow w K D H w K (g0y D idx .nil) (h0Y (i0j H x) idx<|.vec 0 k e [])/\HInv w K (g0y D idx .nil) (h0Y (i0j H x) idx<|.vec 0 k e []):=by
  have hfree:=hidx.free h;have hle:=hidx.le;have hlen:(i0j H x).length=H.length:=r0L H x;have hget: ∀j,(h0Y (i0j H x) idx<|.vec 0 k e [])[j]?=if j=idx then vA (.vec 0 k e [])else(i0j H x)[j]?:=v0q dA
  have hdd: ∀i x,D i=vA x->g0y D idx .nil i=vA x:=by
    intro i x hi;unfold g0y;rw[yB λe=>by subst e;rw[hfree]at hi;cases hi];exact hi
  have hrep: ∀v s,Rep w K D v s->Rep w K (g0y D idx .nil) v s:=λv s hr=>hr.mono (λ_ _ _=>rfl) (λ_=>ak _) hdd
  refine⟨⟨rfl,rfl,rfl,ak _,λ_ _ _=>rfl,λ_ _ _=>rfl,λ_=>ak _,λ_ _ _=>rfl,hdd,λb hm=> ?_⟩,⟨λi hi=> ?_,λi eni hi=> ?_,λi j eni enj bb cc nn cc' nn' hi hj hli hlj hdi hdj=> ?_,h.kw⟩⟩;obtain⟨j,enj,cj,nj,e1,e2,e3⟩:=hm;rw[hget]at e1;by_cases hj:j=idx;subst hj;simp only[g0y,if_true]at e3;cases e3;rw[yB hj]at e1;simp only[g0y,yB hj]at e3;rcases l0h e1 with hg|⟨g1,_⟩;subst hg;cases e2;exact .inl ⟨j,enj,cj,nj,g1,e2,e3⟩
  have hl:H.length<=i/\i≠idx:=by
    unfold h0Y at hi;split at hi;simp[hlen]at hi;exact⟨dA,dA⟩;simp[hlen]at hi;exact⟨dA,dA⟩
  simp only[g0y,yB hl.2];exact h.dom i hl.1;rw[hget]at hi;by_cases hii:i=idx;subst hii;rw[vB rfl]at hi;cases hi;exact⟨rfl, .inl ⟨by simp[g0y],rfl,rfl⟩⟩;rw[yB hii]at hi;rcases l0h hi with hg|⟨g1,g2⟩;subst hg;trivial;exact(h.ent i eni g1).keep hrep (by simp[g0y,hii]) λbb cc nn hl hd=>⟨rfl,rfl⟩;rw[hget]at hi hj;by_cases hii:i=idx;subst hii;simp only[g0y,if_true]at hdi;cases hdi;rw[yB hii]at hi;simp only[g0y,yB hii]at hdi;by_cases hjj:j=idx;subst hjj;simp only[g0y,if_true]at hdj;cases hdj;rw[yB hjj]at hj;simp only[g0y,yB hjj]at hdj;rcases l0h hi with hg|⟨g1,_⟩;subst hg;cases hli;rcases l0h hj with hg|⟨g2,_⟩;subst hg;cases hlj;exact h.inj i j eni enj bb cc nn cc' nn' g1 g2 hli hlj hdi hdj
theorem modify(h:HInv w K D H){en en':Ent}{c:Nat}(hi:H[i]?=vA en)(hl:h0e en=jB)(hl':h0e en'=jB)(hd:D i=vA (.at b c m))
    (h1:w'.os=w.os) (h2:w'.tape=w.tape) (h3:w'.output=w.output) (h4:w'.heap.size=w.heap.size) (h5: ∀b',b'≠b->w'.heap[b']?=w.heap[b']?)
    (hen:(∀v s,Rep w K D v s->Rep w' K D v s)->EntOk w' K D i en'):
    Grow w K D H w' K D (H.set i en')/\HInv w' K D (H.set i en'):=by
  have hil:i<H.length:=(ab.1 hi).1;obtain⟨hblt,hbK⟩:=k0A h ⟨i,en,c,m,hi,hl,hd⟩
  have hcells: ∀b' j,j<K b'->w'.cell? ⟨b',j,none⟩=w.cell? ⟨b',j,none⟩:=by
    intro b' j hj;have hne:b'≠b:=λe=>by subst e;omega
    exact World.cell?_of_block (w:=w) (a:=⟨b',j,none⟩) (h5 b' hne)
  have hrep: ∀v s,Rep w K D v s->Rep w' K D v s:=λv s hr=>hr.mono hcells (λ_=>ak _) (λ_ _ e=>e)
  have hget: ∀j,(H.set i en')[j]?=if j=i then vA en' else H[j]?:=by
    intro j;rw[aR];by_cases hj:i=j;subst hj;simp[hil];rw[yB hj,yB<|Ne.symm hj]
  have hmem: ∀b',Mem D (H.set i en') b'->Mem D H b':=by
    rintro b' ⟨j,enj,cj,nj,e1,e2,e3⟩;rw[hget]at e1;by_cases hj:j=i;subst hj;exact⟨j,en,cj,nj,hi,hl,e3⟩;rw[yB hj]at e1;exact⟨j,enj,cj,nj,e1,e2,e3⟩
  refine⟨⟨h1,h2,h3,dA,λb' hb' hm=>h5 b' λe=>hm<|e▸⟨i,en,c,m,hi,hl,hd⟩,hcells,λ_=>ak _,λ_ _ _=>rfl,λ_ _ e=>e,λb' hm=> .inl<|hmem b' hm⟩,
    ⟨λj hj=>h.dom j<|by simpa using hj,λj enj hj=> ?_,λj j' enj enj' bb cc nn cc' nn' hj hj' hlj hlj' hdj hdj'=> ?_,λb' hb'=>by rw[h4];exact h.kw b' hb'⟩⟩
  rw[hget]at hj;by_cases hji:j=i;subst hji;rw[vB rfl]at hj;cases hj;exact hen hrep;rw[yB hji]at hj;refine(h.ent j enj hj).keep hrep rfl λbb cc nn hl2 hd2=>⟨h5 bb λe=> ?_,rfl⟩;subst e;exact hji (h.inj j i enj en bb cc nn c m hj hi hl2 hl hd2 hd)
  have back: ∀(j:Nat) (enj:Ent),(H.set i en')[j]?=vA enj->h0e enj=jB-> ∃en2,H[j]?=vA en2/\h0e en2=true:=by
    intro j enj hj hlj;rw[hget]at hj;by_cases hji:j=i;subst hji;exact⟨en,hi,hl⟩;rw[yB hji]at hj;exact⟨enj,hj,hlj⟩
  obtain⟨e1,q1,q2⟩:=back j enj hj hlj;obtain⟨e2,q3,q4⟩:=back j' enj' hj' hlj';exact h.inj j j' e1 e2 bb cc nn cc' nn' q1 q3 q2 q4 hdj hdj'
def q0R(P:Program)(w:World)(K:Nat->Nat)(D:DM)(H:a0e)(o:Oper)(a:Act)(s:SV)(H':a0e):Prop:=
  ∃r w',((execOp a.eval o).run P w= .ok (.value r) w'\/((execOp a.eval o).run P w= .ok .skip w'/\r=undef))/\Good w K D H r w' s H'
def g0Z(H:a0e):i0j H none=H:=rfl
theorem E0a(h:HInv w K D H){idx:Nat}(hidx:CanNew H idx){cs:List SV}(hcr:CR w K D vs cs)(e:TypeId):
    Good w K D H (.pointer<|vA ⟨w.heap.size,0,none⟩) (w.alloc<|.cells vs.toArray e) (.ptr idx 0) (h0Y H idx<|.box cs):=by
  have hold: ∀b,b<w.heap.size->(w.alloc<|.cells vs.toArray e).heap[b]?=w.heap[b]?:=λb hb=>by show(w.heap.push _)[b]?=_;rw[bS,yB dA]
  have hK0:K w.heap.size=0:=by
    rcases bB (K w.heap.size)with h0|h0;exact h0;have:=h.kw w.heap.size dA;omega
  obtain⟨g,hi⟩:=place (w':=w.alloc<|.cells vs.toArray e) (en:= .box cs) (b:=w.heap.size) (c:=0) (m:=0) h hidx (x:=none) dE (.inl<|ak _) rfl rfl rfl dE (λb' _ hlt=>hold b' hlt)
    (λhr=>⟨_,vs,e,by simp[g0y],hK0,(by show(w.heap.push _)[w.heap.size]?=_;simp),hcr.mono hr⟩)
  rw[g0Z]at g hi;exact⟨K,_,g,hi, .ptr idx 0 w.heap.size 0 0<|by simp[g0y]⟩
theorem z0d(h:HInv w K D H){idx:Nat}(hidx:CanNew H idx)(x:Option Nat)(hx:x≠vA idx){rest:List Value}{cs:List SV}{e len:Nat}{L:Array Value}
    (hcr:CR w K D vs cs) (hpl:a0P cs=jB) (hL:L=(vs++rest).toArray) (hh:w'.heap=w.heap.push (.cells L e)) (h1:w'.os=w.os) (h2:w'.tape=w.tape) (h3:w'.output=w.output)
    (hk:0<k) (hl:vs.length=len*k) (hcap:len<=cap) (hLl:(vs++rest).length=cap*k) (hm:cap<=maxLen):
    Good w K D H (.slice (vA ⟨w.heap.size,0,none⟩) len cap) w' (.vc idx) (h0Y (i0j H x) idx<|.vec len k e cs):=by
  subst hL;have hold: ∀b,b<w.heap.size->w'.heap[b]?=w.heap[b]?:=λb hb=>by rw[hh,bS,yB dA]
  have hK0:K w.heap.size=0:=by
    rcases bB (K w.heap.size)with h0|h0;exact h0;have:=h.kw w.heap.size dA;omega
  obtain⟨g,hi⟩:=place (w':=w') (en:= .vec len k e cs) (b:=w.heap.size) (c:=cap) (m:=len) h hidx hx (.inl<|ak _) h1 h2 h3 (by rw[hh];simp) (λb' _ hlt=>hold b' hlt)
    (λhr=>⟨hpl, .inr ⟨_,cap,vs,rest,by simp[g0y],hK0,hk,hcap,hm,by rw[hh];simp,hl,hLl,hcr.mono hr⟩⟩)
  exact⟨K,_,g,hi, .vc idx w.heap.size cap len<|by simp[g0y]⟩
def b0H:Ent->Option (List SV)
  | .box cs=>vA cs
  | .vec _ _ _ cs=>vA cs
  |_=>none
def y0f(en:Ent)(cs:List SV):Ent:=match en with
  | .box _=> .box cs
  | .vec n k e _=> .vec n k e cs
  |en=>en
def J0Y:Ent->Bool
  | .vec _ _ _ _=>jB
  |_=>oA
theorem w0b(h:HInv w K D H){c:Nat}{en:Ent}{cs:List SV}(hi:H[i]?=vA en)(hd:D i=vA (.at b c m))(hc:b0H en=vA cs):
    ∃vs rest e,w.heap[b]?=vA (.cells (vs++rest).toArray e (0,0))/\CR w K D vs cs/\h0e en=jB/\K b=0:=by
  have he:=h.ent i en hi
  cases en with
  |res=>cases hc
  |gone=>cases hc
  |box cs'=>
    cases hc;obtain⟨b',vs,e,h1,h2,h3,h4⟩:=he;rw[h1]at hd;cases hd;exact⟨vs,[],e,by simpa using h3,h4,rfl,h2⟩
  |vec n k e cs'=>
    cases hc;rcases he.2 with⟨h1,_⟩|⟨b',c',vs,rest,h1,h2,_,_,_,h6,_,_,h9⟩;rw[h1]at hd;cases hd;rw[h1]at hd;cases hd;exact⟨vs,rest,e,h6,h9,rfl,h2⟩
  |map es=>cases hc
  |itr m n s=>cases hc
  |lop tm ps as bd st pd=>cases hc
  |dfr=>cases hc
  |pmap es=>cases hc
theorem g0s{rest:List Value}{cs:List SV}(hheap:w.heap[b]?=vA (.cells (vs++rest).toArray e (0,0)))(h:CR w K D vs cs):RowAt w K D b 0 vs cs:=by
  refine⟨h.len,λj v hj=> ?_,h.one,h.rep⟩;rw[cell_of_row w b _ _ _ _ hheap];simp only[bg,List.getElem?_toArray];rw[bI (ab.1 hj).1];exact hj
def r0e(h:Rep w K D v<|.ptr i off): ∃b c m,v= .pointer (vA ⟨b,off,none⟩)/\D i=vA (.at b c m):=by
  cases h with
  |ptr _ _ b c m hd=>exact⟨b,c,m,rfl,hd⟩
theorem l0r(h:HInv w K D H){c:Nat}{en:Ent}{cs ps:List SV}(hi:H[i]?=vA en)(hd:D i=vA (.at b c m))(hc:b0H en=vA cs)
    (hle:off+ps.length<=cs.length) (hcx:CR w K D us ps) (hpl:J0Y en=jB->a0P ps=jB):
    ∃w',(storeCells ⟨b,off,none⟩ us).run P w= .ok () w'/\Grow w K D H w' K D (H.set i<|y0f en<|splice cs off ps)/\HInv w' K D (H.set i<|y0f en<|splice cs off ps):=by
  obtain⟨vs,rest,e,hheap,hcr,hlive,hK0⟩:=w0b h hi hd hc;have hul:us.length=ps.length:=hcx.len.symm;have hvl:vs.length=cs.length:=hcr.len.symm;have hst:=run_storeCells_at P b off e us 0 (vs++rest).toArray w hheap dD hcx.one;simp only[cC]at hst;have hnew:=setRow_heap w b (vs++rest).toArray ((vs++rest).toArray.toList.take off++us++(vs++rest).toArray.toList.drop (off+us.length)).toArray e _ hheap
  have hrow:((vs++rest).toArray.toList.take off++us++(vs++rest).toArray.toList.drop (off+us.length)).toArray=((vs.take off++(us++vs.drop (off+us.length)))++rest).toArray:=by
    congr 1;simp only[aS];rw[List.take_append_of_le_length dA,List.drop_append_of_le_length dA]
  rw[hrow]at hst hnew;generalize hw':w.setRow b ((vs.take off++(us++vs.drop (off+us.length)))++rest).toArray=w' at hst hnew;have hother: ∀c,c≠b->w'.heap[c]?=w.heap[c]?:=λc hcb=>by rw[<-hw'];exact setRow_other w b c _ hcb
  have hsize:w'.heap.size=w.heap.size:=by rw[<-hw'];simp
  have hsp:=hcr.splice hcx off;have hsl:(splice cs off ps).length=cs.length:=by simp[Sy.splice];omega
  have hl':h0e (y0f en<|splice cs off ps)=true:=by cases en<;>first|rfl|cases hlive
  refine⟨w',hst,modify h hi hlive hl' hd (by rw[<-hw'];rfl) (by rw[<-hw'];rfl) (by rw[<-hw'];rfl) hsize hother λhr=> ?_⟩;have he:=h.ent i en hi
  cases en with
  |res=>cases hc
  |gone=>cases hc
  |box cs'=>
    cases hc;obtain⟨b',vs',e',h1,h2,h3,h4⟩:=he;rw[h1]at hd;cases hd;rw[hheap]at h3;injection h3 with h3;injection h3 with h3 h3e;have hv3:vs++rest=vs':=by simpa using h3
    have hr0:rest=[]:=by
      have:=congrArg List.length hv3;rw[az,hvl,h4.len.symm]at this;exact ay dA
    subst hr0;exact⟨b,_,e,h1,h2,by simpa using hnew,hsp.mono hr⟩
  |vec n k e' cs'=>
    cases hc;obtain⟨hp,he⟩:=he;refine⟨?_, ?_⟩;have hpp:=hpl rfl;simp only[a0P,Sy.splice,ck,aa];exact⟨f0B hp _,hpp,i0e hp _⟩;rcases he with⟨h1,_⟩|⟨b',c',vs',rest',h1,h2,h3,h4,h5,h6,h7,h8,h9⟩;rw[h1]at hd;cases hd;rw[h1]at hd;cases hd;rw[hheap]at h6;injection h6 with h6;injection h6 with h6 h6e;subst h6e;have hv6:vs++rest=vs'++rest':=by simpa using h6
    have hvs:vs=vs':=(List.append_inj hv6<|by rw[hvl,h9.len]).1;have hrs:rest=rest':=(List.append_inj hv6<|by rw[hvl,h9.len]).2;subst hvs;subst hrs;refine .inr ⟨b,c,_,rest,h1,h2,h3,h4,h5,hnew, ?_, ?_,hsp.mono hr⟩;simp only[az,aE,bc];omega;simp only[az,aE,bc]at h8⊢;omega
  |map es=>cases hc
  |itr m n s=>cases hc
  |lop tm ps as bd st pd=>cases hc
  |dfr=>cases hc
  |pmap es=>cases hc
end
structure Eff where
  v:SV
  rd:List Nat
  wr:List (Nat×Ent)
def b0a(H:a0e):List (Nat×Ent)->a0e
  | []=>H
  |(i,en)::r=>b0a (h0Y H i en) r
def i0K(P:Program)(e k:Nat):Bool:=
  match P.info? e with
  |some i=>(i.size==k)&&yA (0<k)&&yA (i.bytes<=4096)&&(match i.zero with
    |some z=>z.cells.size==i.size
    |none=>oA)
  |none=>oA
def l0n(b:UInt8):SV:= .int .u8 b.toNat
def w0v(k:Nat)(s:SV)(H:a0e):Option (Nat×List SV×List Nat):=
  match s with
  | .lst n k' cs=>if k'=k\/n=0 then vA (n,cs,[])else none
  | .nl=>vA (0,[],[])
  | .str bs=>if k=1 then vA (bs.length,bs.map l0n,[])else none
  | .vc j=>match H[j]? with
    |some (.vec n k' _ cs)=>if k'=k\/n=0 then vA (n,cs,[j])else none
    |_=>none
  | .sl j off n k'=>match H[j]? with
    |some (.box cs)=>if k'=k/\off+n*k<=cs.length/\a0P ((cs.drop off).take<|n*k)=jB then vA (n,(cs.drop off).take<|n*k,[j])else none
    |_=>none
  |_=>none
def j0j(P:Program)(tx:TypeId)(s:SV):Bool:=
  match s,P.underlying tx with
  | .str _,vA .string=>jB
  | .str _,_=>oA
  |_,vA (.slice _)=>jB
  |_,_=>oA
def o0k(P:Program)(e:TypeId):Bool:=
  match P.info? e with
  |some i=>i.bytes==1
  |none=>oA
def RoomE(P:Program)(e:TypeId)(n:Nat):Prop:=C0t n\/(o0k P e=jB/\n<=140737488400000)
instance {P:Program}{e n:Nat}:Decidable (RoomE P e n):=inferInstanceAs<|Decidable<|C0t n\/(o0k P e=jB/\n<=140737488400000)
def B0i(P:Program)(e k:Nat)(tx:TypeId)(sy:SV)(H:a0e):Option (Nat×List SV×List Nat):=
  match sy with
  | .int _ l=>match P.underlying tx,r0T P e with
    |some (.int _),vA zs=>if a0P zs=jB/\P.cellsOf e=k then vA (l.toNat,(oC l.toNat zs).flatten,[])else none
    |_,_=>none
  |_=>if j0j P tx sy=jB then w0v k sy H else none
def L0O(sy:SV):Bool:=
  match sy with
  | .int _ l=>yA (0<=l)
  |_=>jB
def n0R(P:Program)(c:Call)(ρ:Env)(H:a0e)(idx:Nat):Option Eff:=
  match c.args.toList,c.argTypes.toList with
  | [x,y],[t,tx]=>match P.underlying t,a0B ρ x,a0B ρ y with
    |some (.slice e),vA .nl,vA sy=>match B0i P e (P.cellsOf e) tx sy H with
      |some (m,cs2,rd)=>if i0K P e (P.cellsOf e)=jB/\L0O sy=jB/\RoomE P e m then vA ⟨.vc idx,rd,[(idx, .vec m (P.cellsOf e) e cs2)]⟩else none
      |none=>none
    |some (.slice e),vA (.vc i),vA sy=>match H[i]? with
      |some (.vec n k e' cs)=>match B0i P e k tx sy H with
        |some (m,cs2,rd)=>if e=e'/\i0K P e k=jB/\L0O sy=jB/\RoomE P e (n+m)then vA ⟨.vc idx,i::rd,[(i, .gone),(idx, .vec (n+m) k e<|cs++cs2)]⟩else none
        |none=>none
      |_=>none
    |_,_,_=>none
  |_,_=>none
def F0m(P:Program)(c:Call)(ρ:Env)(H:a0e):Option Eff:=
  match c.args.toList,c.argTypes.toList with
  | [x,y],[t,tx]=>match P.underlying t,a0B ρ x,a0B ρ y with
    |some (.slice e),vA (.vc i),vA sy=>match H[i]? with
      |some (.vec n k e' cs)=>match w0v k sy H with
        |some (m,cs2,rd)=>if k=P.cellsOf e/\i0K P e k=jB/\j0j P tx sy=jB then vA ⟨.int .i64 ((min m n:Nat):Int),i::rd,[(i, .vec n k e'<|splice cs 0<|cs2.take<|min m n*k)]⟩else none
        |none=>none
      |_=>none
    |some (.slice e),vA (.sl i off n k),vA sy=>match H[i]? with
      |some (.box cs)=>match w0v k sy H with
        |some (m,cs2,rd)=>if k=P.cellsOf e/\i0K P e k=jB/\j0j P tx sy=jB/\off+n*k<=cs.length then vA ⟨.int .i64 ((min m n:Nat):Int),i::rd,[(i, .box<|splice cs off<|cs2.take<|min m n*k)]⟩else none
        |none=>none
      |_=>none
    |_,_,_=>none
  |_,_=>none
section
variable {P : Program}{n : Nat}{w : World}{K : Nat -> Nat}{D : DM}{H : a0e}{ρ : Env}{a : Act}{o : Oper}
def g0N{e:Nat}(h:i0K P e k=jB): ∃i z,P.info? e=vA i/\i.zero=vA z/\z.cells.size=i.size/\i.size=k/\0<k/\i.bytes<=4096:=by
  unfold i0K at h;split at h;rename_i i hi;simp only[aa,beq_iff_eq,decide_eq_true_eq]at h;obtain⟨⟨⟨h1,h2⟩,h3⟩,h4⟩:=h;split at h4;rename_i z hz;exact⟨i,z,hi,hz,by simpa using h4,h1,h2,h3⟩;cases h4;cases h
def D0a{bs:List UInt8}(h:j0j P tx (.str bs)=jB):P.underlying tx=vA .string:=by
  cases hu:P.underlying tx with
  |none=>simp[j0j,hu]at h
  |some d=>cases d<;>first|rfl|simp[j0j,hu]at h
def p0N{s:SV}(hs: ∀bs,s≠ .str bs)(h:j0j P tx s=jB): ∃e,P.underlying tx=vA (.slice e):=by
  cases hu:P.underlying tx with
  |none=>cases s<;>simp[j0j,hu]at h
  |some d=>
    cases d<;>first|exact⟨_,rfl⟩|(cases s<;>first|exact absurd rfl (hs _)|simp[j0j,hu]at h)
structure SrcAt(P:Program)(w:World)(K:Nat->Nat)(D:DM)(k:Nat)(tx:TypeId)(x:Value)(m:Nat)(news:List Value)(cs:List SV):Prop where
  src:Src P k tx x m news w
  cr:CR w K D news cs
  plain:a0P cs=jB
  first: ∀q,q<=m->(Builtin.firstCells k q x).run P w= .ok (news.take<|q*k).toArray w
theorem p0O{len:Nat}{cs:List SV}(he:P.underlying tx=vA (.slice e))(hrow:RowAt w K D b off vs cs)(hl:vs.length=len*k)(hp:a0P cs=jB):
    SrcAt P w K D k tx (.slice (vA ⟨b,off,none⟩) len cap) len vs cs:=
  ⟨Src.ofSlice w he ⟨b,off,none⟩ len cap vs hl (λj u hu=>by rw[add_lit];exact hrow.mem j u hu) hrow.one,⟨hrow.len,hrow.one,hrow.rep⟩,hp,λq hq=>by
    have hle:q*k<=len*k:=aK _ hq
    exact run_firstCells_some w k q ⟨b,off,none⟩ len cap (vs.take<|q*k) (by rw[aE];omega) λj u hu=>by rw[add_lit];exact(hrow.take _).mem j u hu⟩
def n0K{ad:Option Addr}(he:P.underlying tx=vA (.slice e)):SrcAt P w K D k tx (.slice ad 0 cap) 0 [] []:=by
  refine⟨?_,CR.nil,rfl,λq hq=> ?_⟩
  cases ad with
  |none=>exact Src.ofNil w he cap
  |some ea=>exact Src.ofSlice w he ea 0 cap [] dE (λj u hu=>by simp at hu) (λu hu=>by cases hu)
  have:q=0:=by omega
  subst this
  cases ad with
  |none=>simpa using run_firstCells_none w k 0 0 cap
  |some ea=>simpa using run_firstCells_some w k 0 ea 0 cap [] dE (λj u hu=>by simp at hu)
def x0X(sb:ByteArray)(q:Nat)(hq:q<=sb.size):(Builtin.firstCells 1 q<|.string sb).run P w= .ok ((byteCells sb).take<|q*1).toArray w:=by
  simp only[Builtin.firstCells,vE,Nat.mul_one];congr 1;apply jK;simp[byteCells,ByteArray.data_extract,cn,List.map_take]
theorem w0M(hi:HInv w K D H){x:Value}{s:SV}{cs:List SV}(hk:0<k)(hr:Rep w K D x s)
    (hs:w0v k s H=vA (m,cs,rd)) (hty:j0j P tx s=jB): ∃news,SrcAt P w K D k tx x m news cs:=by
  unfold w0v at hs
  split at hs
  · rename_i n k' cs'
    obtain⟨e,he⟩:=p0N (λbs=>dE) hty;split at hs<;>cases hs
    rename_i hc;rcases l0A hr with⟨ea,ecap,hv,hcs,hn0⟩|⟨b,off,cap,vs,hv,hrow,hK,hk0,hl,hcap,hp⟩;subst hcs;subst hv;subst hn0;exact⟨[],n0K he⟩;subst hv;rcases hc with hc|hc;subst hc;exact⟨vs,p0O he hrow hl hp⟩;subst hc;have hv0:vs=[]:=ay (by simpa using hl);subst hv0;have hc0:cs=[]:=ay hrow.len;subst hc0;exact⟨[],n0K he⟩
  cases hs;obtain⟨e,he⟩:=p0N (λbs=>dE) hty;cases hr;exact⟨[],n0K he⟩
  · rename_i bs
    split at hs<;>cases hs
    rename_i e1;subst e1
    cases hr with
    |str sb=>
      have hu:=D0a hty;have hsrc:=Src.ofString (P:=P) w hu sb;have hlen:sb.data.toList.length=sb.size:=by simp
      rw[<-hlen]at hsrc;refine⟨byteCells sb,hsrc,⟨by simp[byteCells],hsrc.one,λj v c hv hc=> ?_⟩, ?_, ?_⟩;unfold byteCells at hv;rw[ar]at hv hc
      cases hb:sb.data.toList[j]? with
      |none=>rw[hb]at hv;cases hv
      |some y=>rw[hb]at hv hc;cases hv;cases hc;exact .int _ _
      simp only[a0P,List.all_map,wD];intro b _;rfl;intro q hq;exact x0X sb q (by rw[hlen]at hq;exact hq)
  · rename_i j
    obtain⟨e,he⟩:=p0N (λbs=>dE) hty
    split at hs
    · rename_i n k' e' cs' hj
      split at hs<;>cases hs
      rename_i hc;obtain⟨hp,hent⟩:=hi.ent j _ hj;rcases hent with⟨h1,h2,h3⟩|⟨b,c,vs,rest,h1,h2,h3,h4,h5,h6,h7,h8,h9⟩;subst h2;subst h3
      cases hr with
      |vcn _ ad hd=>exact⟨[],n0K he⟩
      |vc _ b c n hd=>rw[h1]at hd;cases hd
      cases hr with
      |vcn _ ad hd=>rw[h1]at hd;cases hd
      |vc _ b' c' n' hd=>
        rw[h1]at hd;cases hd;have hrow:=g0s h6 h9;rcases hc with hc|hc;subst hc;exact⟨vs,p0O he hrow h7 hp⟩;subst hc;have hv0:vs=[]:=ay (by simpa using h7);subst hv0;have hc0:cs=[]:=ay h9.len;subst hc0;exact⟨[],n0K he⟩
    cases hs
  · rename_i j off n k'
    obtain⟨e,he⟩:=p0N (λbs=>dE) hty
    split at hs
    · rename_i cs' hj
      split at hs<;>cases hs
      rename_i hc;obtain⟨hk',hle,hp⟩:=hc;subst hk';obtain⟨b,vs,e',h1,h2,h3,h4⟩:=hi.ent j _ hj
      cases hr with
      |sl _ _ _ _ b' c' m' cap hd hcap=>
        rw[h1]at hd;cases hd
        have hrow:=(g0s (rest:=[]) (by simpa using h3) h4)
        have hrow':=(hrow.drop off).take<|m*k';rw[bg]at hrow';have hvl:=h4.len;exact⟨_,p0O he hrow' (by simp only[aE,bc];omega) hp⟩
    cases hs
  cases hs
def r0a(t tx ty e:TypeId)(i:TypeInfo)(ht:P.underlying t=vA (.slice e))(hi:P.info? e=vA i)
    (g sLen sCap:Nat) (cur:Array Value) (e':TypeId) (hg:w.heap[g]?=vA (.cells cur e' (0,0))) (x:Value) (m:Nat) (news:List Value) (hs:Src P i.size tx x m news w)
    (hroom:sLen+m<=sCap) (hfit:sLen*i.size+news.length<=cur.size):
    (Builtin.append_ #[t,tx] ty #[.slice (vA ⟨g,0,none⟩) sLen sCap,x]).run P w=
      .ok (.slice (vA ⟨g,0,none⟩) (sLen+m) sCap) (w.setRow g (cur.toList.take (sLen*i.size)++news++cur.toList.drop (sLen*i.size+news.length)).toArray):=by
  have hst:=run_storeCells_at P g (sLen*i.size) e' news 0 cur w hg (by simpa using hfit) hs.one;simp only[cC]at hst;rcases hs.kind with⟨e2,hk⟩|hk<;>simp[Builtin.append_,run_underlying ht,run_underlying hk,sizeOf,typeInfo,hi,hs.len,hroom,hs.cells,Addr.add_lit,hst]
def z0t{α:Type}(zs:List α): ∀(n j:Nat),j<n*zs.length->(oC n zs).flatten[j]?=zs[j%zs.length]?:=by
  intro n
  induction n with
  |zero=>intro j hj;omega
  |succ n ih=>
    intro j hj;rw[List.replicate_succ,List.flatten_cons,aP];split;rename_i hlt;rw[da hlt]
    · rename_i hge
      rw[ih (j-zs.length)<|by rw[bU]at hj;omega]
      conv=>rhs;rw[Nat.mod_eq_sub_mod (show j≥zs.length by omega)]
def z0s{α:Type}(zs:List α)(n:Nat):(oC n zs).flatten.length=n*zs.length:=by
  simp
theorem s0G{zs:List SV}(h:a0P zs=jB)(m:Nat):a0P (oC m zs).flatten=true:=by
  refine List.all_eq_true.2 λc hc=> ?_
  obtain⟨l,hl,hcl⟩:=List.mem_flatten.1 hc;obtain⟨_,rfl⟩:=List.mem_replicate.1 hl;exact List.all_eq_true.1 h c hcl
theorem u0X{z:Array Value}{zs:List SV}(hcr:CR w K D z.toList zs)(hk:0<zs.length)(m:Nat):
    CR w K D ((yK<|m*zs.length).map (z[· %z.size]!)).toList (oC m zs).flatten:=by
  have hzl:z.size=zs.length:=by simpa using hcr.len.symm
  have hget: ∀j v,((yK<|m*zs.length).map (z[· %z.size]!)).toList[j]?=vA v->j<m*zs.length/\z.toList[j%z.size]?=vA v:=by
    intro j v hv;rw[cE,Array.getElem?_map,Array.getElem?_range]at hv;split at hv;rename_i hj;cases hv;have hmz:j%z.size<z.size:=by rw[hzl];exact Nat.mod_lt _ hk
    exact⟨hj,by rw[cE,aQ hmz];exact congrArg vA (getElem!_pos z _ hmz).symm⟩;cases hv
  refine⟨dE,λv hv=> ?_,λj v c hv hc=> ?_⟩;obtain⟨j,hj⟩:=bA.1 hv;exact hcr.one v<|aJ (hget j v hj).2;obtain⟨h1,h2⟩:=hget j v hv;rw[z0t zs m j h1,<-hzl]at hc;exact hcr.rep _ v c h2 hc
def q0Z(t tx ty e:TypeId)(i:TypeInfo)(z:Value)(ik:IntKind)(ht:P.underlying t=vA (.slice e))(hi:P.info? e=vA i)(hz:i.zero=vA z)(hk:P.underlying tx=vA (.int ik))(hs0:0<i.size)
    (g sLen sCap:Nat) (cur:Array Value) (e':TypeId) (hg:w.heap[g]?=vA (.cells cur e' (0,0))) (kk:IntKind) (m:Nat) (news:List Value) (hn:(Builtin.zeroCells z.cells m).toList=news) (h1: ∀u∈news,u.oneCell'=jB)
    (hw:IntKind.i64.wrap (m:Int)=m) (hby: ¬(281474976710656<(m:Int)*i.bytes))
    (hroom:sLen+m<=sCap) (hfit:sLen*i.size+news.length<=cur.size):
    (Builtin.append_ #[t,tx] ty #[.slice (vA ⟨g,0,none⟩) sLen sCap, .int kk m]).run P w=
      .ok (.slice (vA ⟨g,0,none⟩) (sLen+m) sCap) (w.setRow g (cur.toList.take (sLen*i.size)++news++cur.toList.drop (sLen*i.size+news.length)).toArray):=by
  have hst:=run_storeCells_at P g (sLen*i.size) e' news 0 cur w hg (by simpa using hfit) h1;simp only[cC]at hst;have hneg: ¬((m:Int)<0):=by omega
  by_cases hm:m=0;subst hm;have hn0:news=[]:=by rw[<-hn];apply ay;simp[Builtin.zeroCells]
  subst hn0;have hw0:IntKind.i64.wrap 0=0:=by decide
  have hr0:sLen<=sCap:=hroom;simp[Builtin.append_,run_underlying ht,run_underlying hk,sizeOf,typeInfo,hi,asInt,asIntOf,hw0,hr0,storeCells,Addr.add_lit]at hst⊢;exact hst
  · have hmm: ¬(m*i.size=0):=by intro h0;rcases Nat.mul_eq_zero.1 h0 with h0|h0<;>omega
    have hm2: ¬(m=0\/i.size=0):=by omega
    simp[Builtin.append_,run_underlying ht,run_underlying hk,sizeOf,typeInfo,zeroValue,hi,hz,asInt,asIntOf,hw,hneg,hby,hroom,hmm,hn,Addr.add_lit,hst]
def r0b(t tx ty e:TypeId)(i:TypeInfo)(z:Value)(ik:IntKind)(ht:P.underlying t=vA (.slice e))(hi:P.info? e=vA i)(hz:i.zero=vA z)(hk:P.underlying tx=vA (.int ik))(hs0:0<i.size)(base:Option Addr)(sLen sCap:Nat)(olds:List Value)
    (hold:(Builtin.firstCells i.size sLen<|.slice base sLen sCap).run P w.drew= .ok olds.toArray w.drew) (kk:IntKind) (m:Nat) (news:List Value) (hn:(Builtin.zeroCells z.cells m).toList=news)
    (hw:IntKind.i64.wrap (m:Int)=m) (hby: ¬(281474976710656<(m:Int)*i.bytes))
    (hg:sCap<sLen+m) (h63:((sLen+m:Nat):Int)<=9223372036854775807) (hfit:Builtin.nextslicecap (sLen+m) sCap*i.bytes<=281474976710656):
    (Builtin.append_ #[t,tx] ty #[.slice base sLen sCap, .int kk m]).run P w=
      .ok (.slice (vA ⟨w.heap.size,0,none⟩) (sLen+m)<|grownCap w (sLen+m) sCap e)
        (w.drew.alloc<|.cells ((olds++news).toArray++Builtin.zeroCells z.cells (grownCap w (sLen+m) sCap e-(sLen+m))) e):=by
  have hnr: ¬(sLen+m<=sCap):=by omega
  have h63': ¬(9223372036854775807<((sLen:Int)+(m:Int))):=by omega
  have h48': ¬(281474976710656<Builtin.nextslicecap (sLen+m) sCap*i.bytes):=by omega
  have hneg: ¬((m:Int)<0):=by omega
  by_cases hm:m=0;subst hm;have hn0:news=[]:=by rw[<-hn];apply ay;simp[Builtin.zeroCells]
  subst hn0;have hw0:IntKind.i64.wrap 0=0:=by decide
  have hnr': ¬(sLen<=sCap):=hnr;have h63'': ¬(9223372036854775807<(sLen:Int)):=by omega
  simp[Builtin.append_,run_underlying ht,run_underlying hk,sizeOf,typeInfo,zeroValue,hi,hz,asInt,asIntOf,hw0,hnr',h63'',h48',Question.forced,hold,newRow,grownCap];intro hbad;exact absurd hbad h48'
  · have hmm: ¬(m*i.size=0):=by intro h0;rcases Nat.mul_eq_zero.1 h0 with h0|h0<;>omega
    have hm2: ¬(m=0\/i.size=0):=by omega
    simp[Builtin.append_,run_underlying ht,run_underlying hk,sizeOf,typeInfo,zeroValue,hi,hz,asInt,asIntOf,hw,hneg,hby,hnr,hmm,h63',h48',Question.forced,hold,newRow,grownCap];congr 2;apply jK;simp[aS,hn]
def RoomE.le{e n:Nat}(h:RoomE P e n)(hm:m<=n):RoomE P e m:=by
  rcases h with h|⟨h1,h2⟩;exact .inl (by unfold C0t at*;omega);exact .inr ⟨h1,dA⟩
structure H0S(P:Program)(w:World)(K:Nat->Nat)(D:DM)(t tx ty e:TypeId)(i:TypeInfo)(z:Value)(y:Value)(m:Nat)(news:List Value)(cs:List SV):Prop where
  newsLen:news.length=m*i.size
  cr:CR w K D news cs
  plain:a0P cs=jB
  nil0:m=0-> ∀ad,(Builtin.append_ #[t,tx] ty #[.slice ad 0 0,y]).run P w= .ok (.slice ad 0 0) w
  room: ∀(g sLen sCap:Nat) (cur:Array Value) (e':TypeId),w.heap[g]?=vA (.cells cur e' (0,0))->sLen+m<=sCap->sLen*i.size+news.length<=cur.size->
    (Builtin.append_ #[t,tx] ty #[.slice (vA ⟨g,0,none⟩) sLen sCap,y]).run P w=
      .ok (.slice (vA ⟨g,0,none⟩) (sLen+m) sCap) (w.setRow g (cur.toList.take (sLen*i.size)++news++cur.toList.drop (sLen*i.size+news.length)).toArray)
  grow: ∀(base:Option Addr) (sLen sCap:Nat) (olds:List Value),(Builtin.firstCells i.size sLen<|.slice base sLen sCap).run P w.drew= .ok olds.toArray w.drew->sCap<sLen+m->
    ((sLen+m:Nat):Int)<=9223372036854775807->Builtin.nextslicecap (sLen+m) sCap*i.bytes<=281474976710656->
    (Builtin.append_ #[t,tx] ty #[.slice base sLen sCap,y]).run P w=
      .ok (.slice (vA ⟨w.heap.size,0,none⟩) (sLen+m)<|grownCap w (sLen+m) sCap e)
        (w.drew.alloc<|.cells ((olds++news).toArray++Builtin.zeroCells z.cells (grownCap w (sLen+m) sCap e-(sLen+m))) e)
theorem SrcAt.app{i:TypeInfo}{y:Value}{cs:List SV}(hs:SrcAt P w K D k tx y m news cs)(ht:P.underlying t=vA (.slice e))(hi:P.info? e=vA i)(hz:i.zero=vA z)(hk:i.size=k):
    H0S P w K D t tx ty e i z y m news cs:=by
  subst hk
  refine⟨hs.src.newsLen,hs.cr,hs.plain,λhm ad=> ?_,λg sLen sCap cur e' hg hr hf=>r0a t tx ty e i ht hi g sLen sCap cur e' hg y m news hs.src hr hf,
    λbase sLen sCap olds hold hg h63 hfit=>run_append_grow_src w t tx ty e i z ht hi hz base sLen sCap olds hold y m news hs.src hg h63 hfit⟩
  subst hm;have hn:news=[]:=ay (by have:=hs.src.newsLen;simpa using this);subst hn;have hc':=hs.src.cells
  cases ad<;>rcases hs.src.kind with⟨e2,hk2⟩|hk2<;>
    simp[Builtin.append_,run_underlying ht,run_underlying hk2,sizeOf,typeInfo,hi,hs.src.len,hc',storeCells]
def G0a(h:m<=140737488400000):IntKind.i64.wrap (m:Int)=m:=by
  unfold wA;simp only[oG,yH,cw,cG,aF,if_false,decide_eq_true_eq]
  first|omega|(split<;>rename_i hc<;>simp at hc<;>omega)
theorem K0c{i:TypeInfo}{ik kk:IntKind}{zs:List SV}(ht:P.underlying t=vA (.slice e))(hi:P.info? e=vA i)(hz:i.zero=vA z)(hx:P.underlying tx=vA (.int ik))(hk0:0<i.size)(hzs:z.cells.size=i.size)
    (hs:r0T P e=vA zs) (hp:a0P zs=jB) (hrm:RoomE P e m) (hby:i.bytes<=4096):
    H0S P w K D t tx ty e i z (.int kk m) m (Builtin.zeroCells z.cells m).toList (oC m zs).flatten:=by
  obtain⟨i',z',hi',hz',hl,hc,_,hcr⟩:=n0U hs;rw[hi]at hi';cases hi';rw[hz]at hz';cases hz'
  have hm63:m<=140737488400000:=by
    rcases hrm with hr|hr;unfold C0t at hr;omega;exact hr.2
  have hmb: ¬(281474976710656<(m:Int)*i.bytes):=by
    rcases hrm with hr|⟨hr,hr2⟩;unfold C0t at hr;have:m*i.bytes<=4294967296*4096:=Nat.mul_le_mul hr hby;rw[<-Int.natCast_mul];omega;unfold o0k at hr;rw[hi]at hr;have hr:=eq_of_beq hr;rw[hr];omega
  have hw:=G0a hm63;have hcrm:=u0X (hcr w K D) dA m;have hzz:z.cells.size=zs.length:=by omega
  have hnews:(Builtin.zeroCells z.cells m).toList=((yK<|m*zs.length).map (z.cells[· %z.cells.size]!)).toList:=by
    unfold Builtin.zeroCells;rw[hzz]
  rw[<-hnews]at hcrm
  refine⟨by rw[cu,size_zeroCells,hzs],hcrm,s0G hp m,λhm ad=> ?_,λg sLen sCap cur e' hg hr hf=>q0Z t tx ty e i z ik ht hi hz hx hk0 g sLen sCap cur e' hg kk m _ rfl hcrm.one hw hmb hr hf,
    λbase sLen sCap olds hold hg h63 hfit=>r0b t tx ty e i z ik ht hi hz hx hk0 base sLen sCap olds hold kk m _ rfl hw hmb hg h63 hfit⟩
  subst hm;have hw0:IntKind.i64.wrap 0=0:=by decide
  cases ad<;>simp[Builtin.append_,run_underlying ht,run_underlying hx,sizeOf,typeInfo,hi,asInt,asIntOf,hw0,storeCells]
def D0b(h:HInv w K D H){i:TypeInfo}{y:Value}{sy:SV}{cs:List SV}(ht:P.underlying t=vA (.slice e))(hi:P.info? e=vA i)(hz:i.zero=vA z)(hzs:z.cells.size=i.size)(hk:i.size=k)(hk0:0<k)(hby:i.bytes<=4096)
    (hr:Rep w K D y sy) (hs:B0i P e k tx sy H=vA (m,cs,rd)) (hp:L0O sy=jB) (hrm:RoomE P e m): ∃news,H0S P w K D t tx ty e i z y m news cs:=by
  unfold B0i at hs
  split at hs
  · rename_i kk l
    split at hs
    · rename_i ik zs hx hzz
      split at hs<;>cases hs
      rename_i hc;cases hr;have hl:(0:Int)<=l:=jF hp;have hl2:l=(l.toNat:Int):=by omega
      rw[show oJ kk l=oJ kk (l.toNat:Int) by rw[<-hl2]];exact⟨_,K0c ht hi hz hx dA hzs hzz hc.1 hrm hby⟩
    cases hs
  split at hs;rename_i hst;obtain⟨news,hsrc⟩:=w0M (P:=P) (tx:=tx) h hk0 hr hs hst;exact⟨news,hsrc.app ht hi hz hk⟩;cases hs
theorem p0G(h:HInv w K D H){idx:Nat}(hidx:CanNew H idx)(x:Option Nat)(hx:x≠vA idx){e sLen sCap:Nat}{base:Option Addr}{y:Value}{olds:List Value}{cs cs2:List SV}{i:TypeInfo}
    (ht:P.underlying t=vA (.slice e)) (hi:P.info? e=vA i) (hz:i.zero=vA z) (hzs:z.cells.size=i.size) (hk:i.size=k) (hk0:0<k) (hby:i.bytes<=4096)
    (hold:(Builtin.firstCells i.size sLen<|.slice base sLen sCap).run P w.drew= .ok olds.toArray w.drew) (hol:olds.length=sLen*k) (hco:CR w K D olds cs) (hpo:a0P cs=jB)
    (hsrc:H0S P w K D t tx ty e i z y m news cs2) (hrm:RoomE P e<|sLen+m) (hlt:sCap<sLen+m):
    ∃v' w',(Builtin.append_ #[t,tx] ty #[.slice base sLen sCap,y]).run P w= .ok v' w'/\Good w K D H v' w' (.vc idx) (h0Y (i0j H x) idx<|.vec (sLen+m) k e<|cs++cs2):=by
  subst hk;have hnl:news.length=m*i.size:=hsrc.newsLen
  have hsz:sLen+m<=140737488400000:=by
    rcases hrm with hr|hr;unfold C0t at hr;omega;exact hr.2
  have hb:((sLen+m)+(sLen+m)/4+192)*i.bytes<=281474976710656:=by
    rcases hrm with hr|⟨hr,hr2⟩;unfold C0t at hr;exact aH (Nat.mul_le_mul (show(sLen+m)+(sLen+m)/4+192<=5368709312 by omega) hby) dG;unfold o0k at hr;rw[hi]at hr;have hr:=eq_of_beq hr;rw[hr];omega
  have hrun:=hsrc.grow base sLen sCap olds hold hlt dA<|growslice_fits_wide dA hb;have hge:=grownCap_ge w (sLen+m) sCap e;have hcm:=grownCap_le_maxLen w (sLen+m) sCap e (by unfold maxLen;omega)
  have hzl:(Builtin.zeroCells z.cells<|grownCap w (sLen+m) sCap e-(sLen+m)).toList.length=(grownCap w (sLen+m) sCap e-(sLen+m))*i.size:=by
    rw[cu,size_zeroCells,hzs]
  have hpl:a0P (cs++cs2)=true:=by simp only[a0P,ck,aa];exact⟨hpo,hsrc.plain⟩
  refine⟨_,_,hrun,z0d (L:=(olds++news).toArray++Builtin.zeroCells z.cells (grownCap w (sLen+m) sCap e-(sLen+m))) (vs:=olds++news) (rest:=(Builtin.zeroCells z.cells<|grownCap w (sLen+m) sCap e-(sLen+m)).toList) h hidx x hx (hco.append hsrc.cr) hpl
    (jK dE) rfl rfl rfl rfl hk0 (by rw[az,hol,hnl,bV]) hge ?_ hcm⟩
  rw[az,az,hzl,hol,hnl,<-bV,<-bV];congr 1;omega
theorem F0G(h:HInv w K D H)(hs:Slots n w K D ρ a.tmps)(ho:o.op= .call c)(hcal:c.callee= .builtin .append)(hb: ∀x∈c.args,Operand.inB n x=jB){idx:Nat}(hidx:CanNew H idx){ef:Eff}
    (he:n0R P c ρ H idx=vA ef):q0R P w K D H o a ef.v (b0a H ef.wr):=by
  unfold n0R at he
  split at he
  · rename_i x y t tx hargs htys
    have ha:c.args= #[x,y]:=by rw[<-bh];exact hargs
    have hty:c.argTypes= #[t,tx]:=by rw[<-bh];exact htys
    have hxb:=hb x (by rw[ha];simp);have hyb:=hb y (by rw[ha];simp)
    have hrun: ∀r w',(Builtin.append_ #[t,tx] o.type #[a.eval x,a.eval y]).run P w= .ok r w'->(execOp a.eval o).run P w= .ok (.value r) w':=λr w' hr=>by
      unfold execOp;simp only[ho,resolve,hcal,ha,hty,invoke,builtin,zD,vE,vC,cg,ao,aI,hr]
    split at he
    · rename_i e sy hu hxe hye
      split at he
      · rename_i m cs2 rd hsc
        split at he<;>cases he
        rename_i hc;obtain⟨hok,hst,hrm⟩:=hc;obtain⟨i,z,hi,hz,hzs,hk,hk0,hby⟩:=g0N hok;obtain⟨news,hsrc⟩:=D0b (P:=P) (ty:=o.type) h hu hi hz hzs hk hk0 hby (a0i hs hyb hye) hsc hst<|RoomE.le hrm dA;have hrx:=a0i hs hxb hxe;generalize hvx:a.eval x=vx at hrx
        cases hrx with
        |nl ad=>
          simp only[b0a];by_cases hm:m=0;subst hm;have hn:news=[]:=ay (by have:=hsrc.newsLen;simpa using this);subst hn;have hc2:cs2=[]:=ay hsrc.cr.len;subst hc2;obtain⟨g,hiv⟩:=t0p h hidx none dE (P.cellsOf e) e;rw[g0Z]at g hiv;refine⟨.slice ad 0 0,w, .inl<|hrun _ _ ?_,⟨K,_,g,hiv, ?_⟩⟩;rw[hvx];exact hsrc.nil0 rfl ad;exact .vcn idx ad (by simp[g0y])
          have hold:(Builtin.firstCells i.size 0<|.slice ad 0 0).run P w.drew= .ok ([]:List Value).toArray w.drew:=by
            cases ad with
            |none=>exact run_firstCells_none w.drew i.size 0 0 0
            |some b=>exact run_firstCells_some w.drew i.size 0 b 0 0 [] dE (λj u hu=>by simp at hu)
          obtain⟨v',w',h1,h2⟩:=p0G (P:=P) (ty:=o.type) h hidx none dE hu hi hz hzs hk hk0 hby hold dE CR.nil rfl hsrc (by rw[bg];exact hrm) dA;rw[bg,aV,g0Z]at h2;exact⟨v',w', .inl<|hrun _ _<|by rw[hvx];exact h1,h2⟩
      cases he
    · rename_i e i0 sy hu hxe hye
      split at he
      · rename_i nn k e' cs hH
        split at he
        · rename_i m cs2 rd hsc
          split at he<;>cases he
          rename_i hc;obtain⟨rfl,hok,hst,hrm⟩:=hc;obtain⟨i,z,hi,hz,hzs,hk,hk0,hby⟩:=g0N hok;obtain⟨news,hsrc⟩:=D0b (P:=P) (ty:=o.type) h hu hi hz hzs hk hk0 hby (a0i hs hyb hye) hsc hst<|RoomE.le hrm dA;have hrx:=a0i hs hxb hxe;generalize hvx:a.eval x=vx at hrx
          have hne:i0≠idx:=by
            rintro rfl;rcases hidx with hq|hq;rw[hq,aC<|ak _]at hH;cases hH;rw[hq]at hH;cases hH
          have hil:i0<H.length:=(ab.1 hH).1
          have hkill:b0a H [(i0,Ent.gone),(idx, .vec (nn+m) k e<|cs++cs2)]=h0Y (i0j H<|vA i0) idx (.vec (nn+m) k e<|cs++cs2):=by
            simp only[b0a,i0j];rw[show h0Y H i0 .gone=H.set i0 .gone from by unfold h0Y;rw[vB hil]]
          simp only[hkill];obtain⟨hpo,hent⟩:=h.ent i0 _ hH;rcases hent with⟨h1,h2,h3⟩|⟨b,cp,vs,rest,h1,h2,h3,h4,h5,h6,h7,h8,h9⟩;subst h2;subst h3
          cases hrx with
          |vc _ b c n hd=>rw[h1]at hd;cases hd
          |vcn _ ad hd=>
            by_cases hm:m=0;subst hm;have hn:news=[]:=ay (by have:=hsrc.newsLen;simpa using this);subst hn;have hc2:cs2=[]:=ay hsrc.cr.len;subst hc2;obtain⟨g,hiv⟩:=t0p h hidx (vA i0) (by simpa using hne) k e;refine⟨.slice ad 0 0,w, .inl<|hrun _ _ ?_,⟨K,_,g,hiv, .vcn idx ad<|by simp[g0y]⟩⟩;rw[hvx];exact hsrc.nil0 rfl ad
            have hold:(Builtin.firstCells i.size 0<|.slice ad 0 0).run P w.drew= .ok ([]:List Value).toArray w.drew:=by
              cases ad with
              |none=>exact run_firstCells_none w.drew i.size 0 0 0
              |some b=>exact run_firstCells_some w.drew i.size 0 b 0 0 [] dE (λj u hu=>by simp at hu)
            obtain⟨v',w',g1,g2⟩:=p0G (P:=P) (ty:=o.type) h hidx (vA i0) (by simpa using hne) hu hi hz hzs hk hk0 hby hold dE CR.nil rfl hsrc hrm dA;exact⟨v',w', .inl<|hrun _ _<|by rw[hvx];exact g1,g2⟩
          cases hrx with
          |vcn _ ad hd=>rw[h1]at hd;cases hd
          |vc _ b' c' n' hd=>
            rw[h1]at hd;cases hd;have hrow:=g0s h6 h9;by_cases hroom:nn+m<=cp;subst hk;have hnl:news.length=m*i.size:=hsrc.newsLen;have hnm:(nn+m)*i.size<=cp*i.size:=aK _ hroom;rw[bV]at hnm;have hrl:rest.length=cp*i.size-nn*i.size:=by rw[<-h8,az,h7];omega
            have hfit:nn*i.size+news.length<=(vs++rest).toArray.size:=by rw[hnl];simp only[List.size_toArray,h8];omega
            have hrun1:=hsrc.room b nn cp (vs++rest).toArray e h6 hroom hfit;have hnew:=setRow_heap w b (vs++rest).toArray ((vs++rest).toArray.toList.take (nn*i.size)++news++(vs++rest).toArray.toList.drop (nn*i.size+news.length)).toArray e _ h6
            have hrw:((vs++rest).toArray.toList.take (nn*i.size)++news++(vs++rest).toArray.toList.drop (nn*i.size+news.length)).toArray=((vs++news)++rest.drop news.length).toArray:=by
              congr 1;simp only[];rw[<-h7,List.take_left,db,bq dA,aV];congr 2;omega
            rw[hrw]at hrun1 hnew;generalize hw':w.setRow b ((vs++news)++rest.drop news.length).toArray=w' at hrun1 hnew;have hother: ∀c,c≠b->w'.heap[c]?=w.heap[c]?:=λc hcb=>by rw[<-hw'];exact setRow_other w b c _ hcb
            obtain⟨g,hiv⟩:=place (w':=w') (en:= .vec (nn+m) i.size e<|cs++cs2) (b:=b) (c:=cp) (m:=nn+m) h hidx (x:=vA i0) (by simpa using hne) (.inr ⟨i0,_,cp,nn,rfl,hH,rfl,h1⟩)
              (by rw[<-hw'];rfl) (by rw[<-hw'];rfl) (by rw[<-hw'];rfl) (by rw[<-hw'];simp) (λb' hb' _=>hother b' hb')
              (λhr=>⟨by simp only[a0P,ck,aa];exact⟨hpo,hsrc.plain⟩, .inr ⟨b,cp,vs++news,rest.drop news.length,by simp[g0y],h2,hk0,hroom,h5,hnew,
                by rw[az,h7,hnl,bV],by simp only[az,bc,h7,hnl,hrl];omega,(h9.append hsrc.cr).mono hr⟩⟩)
            exact⟨_,w', .inl<|hrun _ _<|by rw[hvx];exact hrun1,⟨K,_,g,hiv, .vc idx b cp (nn+m)<|by simp[g0y]⟩⟩
            obtain⟨v',w',g1,g2⟩:=p0G (P:=P) (ty:=o.type) h hidx (vA i0) (by simpa using hne) hu hi hz hzs hk hk0 hby
              (run_firstCells_some w.drew i.size nn ⟨b,0,none⟩ nn cp vs (by rw[hk];exact h7) λj u hu=>by rw[add_lit];exact hrow.mem j u hu) h7 h9 hpo hsrc hrm dA
            exact⟨v',w', .inl<|hrun _ _<|by rw[hvx];exact g1,g2⟩
        cases he
      cases he
    cases he
  cases he
end
def byteOf:SV->UInt8
  | .int _ n=>wJ n.toNat
  |_=>0
def o0U:SV->Bool
  | .int .u8 _=>jB
  |_=>oA
def p0t:SV->Bool
  | .int .i32 _=>jB
  |_=>oA
def w0V:SV->List UInt8
  | .int _ n=>(jJ n).data.toList
  |_=> []
def E0d(big:Bool)(k:IntKind)(acc:Int)(ρ:Env):List Operand->Option SV
  | []=>vA (.int k acc)
  |y::r=>match a0B ρ y with
    |some (.int k' b)=>if k=k' then E0d big k (if big then(if acc<b then b else acc)else(if b<acc then b else acc)) ρ r else none
    |_=>none
/-! Structs and arrays that are compared. -/
def M0P(P:Program)(f:TypeId->SV->SV->Option Bool)(xs ys:List SV):List Field->Option Bool
  | []=>vA jB
  | fd :: r => if fd.name ≠ "_" then (match b0q P fd.type (xs.drop fd.offset), b0q P fd.type (ys.drop fd.offset) with
      |some a,vA b=>match f fd.type a b,M0P P f xs ys r with
        |some p,vA q=>vA (p&&q)
        |_,_=>none
      |_,_=>none)else M0P P f xs ys r
def N0D(P:Program)(f:SV->SV->Option Bool)(e k:Nat)(xs ys:List SV):Nat->Nat->Option Bool
  |0,_=>vA jB
  |m+1,i=>match b0q P e (xs.drop<|i*k),b0q P e (ys.drop<|i*k)with
    |some a,vA b=>match f a b,N0D P f e k xs ys m (i+1)with
      |some p,vA q=>vA (p&&q)
      |_,_=>none
    |_,_=>none
def eqS(P:Program):Nat->TypeId->SV->SV->Option Bool
  |0,_,_,_=>none
  |d+1,t,a,b=>match P.underlying t,a,b with
    |some .bool, .bool x, .bool y=>vA (x==y)
    |some (.int _), .int k x, .int k' y=>if k=k' then vA (yA<|x=y)else none
    |some .string, .str x, .str y=>vA (x==y)
    |some (.struct fs), .agg xs, .agg ys=>if P.stoodInHeld t=oA then M0P P (eqS P d) xs ys fs.toList else none
    |some (.array len e), .agg xs, .agg ys=>if 0<P.cellsOf e then N0D P (eqS P d e) e (P.cellsOf e) xs ys len 0 else none
    |_,_,_=>none
def y0n(P:Program):Nat->TypeId->SV->Bool
  |0,_,_=>oA
  |d+1,t,a=>match P.underlying t,a with
    | some (.struct fs), .agg cs => fs.toList.all λf => (f.name == "_") || (match b0q P f.type (cs.drop f.offset) with
      |some b=>y0n P d f.type b
      |none=>oA)
    |some (.array len e), .agg cs=>(yA<|0<P.cellsOf e)&&(wH 0 len).all λi=>(match b0q P e (cs.drop<|i*P.cellsOf e)with
      |some b=>y0n P d e b
      |none=>oA)
    |some (.int _), .int _ _=>jB
    |some .string, .str _=>jB
    |some .bool, .bool _=>jB
    |_,_=>oA
def m0z(P:Program)(kt:TypeId)(k:SV):List (SV×SV)->Option (Option SV)
  | []=>vA none
  |e::r=>match eqS P 9 kt k e.1 with
    |some jB=>vA (vA e.2)
    |some oA=>m0z P kt k r
    |none=>none
/-! Maps. -/
def k0K:SV->SV->Option Bool
  | .int k a, .int k' b=>if k=k' then vA (a==b)else none
  | .str a, .str b=>vA (a==b)
  | .bool a, .bool b=>vA (a==b)
  |_,_=>none
def g0L:List (SV×SV)->SV->Option (Option SV)
  | [],_=>vA none
  |e::r,k=>match k0K k e.1 with
    |some jB=>vA (vA e.2)
    |some oA=>g0L r k
    |none=>none
def G0g:List (SV×SV)->SV->SV->List (SV×SV)
  | [],_,_=> []
  |e::r,k,v=>match k0K k e.1 with
    |some jB=>(e.1,v)::r
    |_=>e::G0g r k v
def t0C(P:Program)(kt:TypeId)(s:SV):Bool:=
  match P.underlying kt,s with
  |some (.int k), .int k' _=>yA (k=k')
  |some .string, .str _=>jB
  |some .bool, .bool _=>jB
  |_,_=>oA
def I0q(P:Program)(t:TypeId):Bool:=match P.underlying t with
  |some (.struct _)=>jB
  |some (.array _ _)=>jB
  |_=>oA
def t0D(P:Program)(kt:TypeId)(s:SV):Bool:=match s with
  | .agg cs=>I0q P kt&&y0n P 9 kt (.agg cs)
  |s=>t0C P kt s
def p0u(P:Program)(kt:TypeId)(es:List<|SV×SV)(k:SV):Option (Option SV):=match k with
  | .agg cs=>m0z P kt (.agg cs) es
  |k=>g0L es k
def A0Z(P:Program)(t:TypeId):Option SV:=
  match P.info? t with
  |some i=>match i.zero with
    |some z=>vA (match p0B z with
      |some s=>s
      |none=>match z,o0j z with
        | .agg _,vA cs=> .agg cs
        |_,_=> .undef)
    |none=>none
  |none=>none
def m0f(ok:Bool)(v:SV)(b:Bool):SV:=if ok then .tup [v, .bool b]else v
def l0P(P:Program)(t:TypeId)(sm sk sv:Option SV)(H:a0e):Option Eff:=
  match P.underlying t,sm,sk,sv with
  |some (.map kt _),vA (.mp i),vA k,vA v=>match H[i]? with
    |some (.map es)=>if t0D P kt k=jB then(match p0u P kt es k with
      |some none=>vA ⟨.undef,[i],[(i, .map<|es++ [(k,v)])]⟩
      |some (vA _)=>(match k with
        | .int _ _=>vA ⟨.undef,[i],[(i, .map<|G0g es k v)]⟩
        |_=>none)
      |none=>none)else none
    |_=>none
  |_,_,_,_=>none
def k0O(P:Program)(t:TypeId)(sm sk:Option SV)(ok:Bool)(H:a0e):Option Eff:=
  match P.underlying t,sm,sk with
  |some (.map kt et),vA (.mp i),vA k=>match H[i]? with
    |some (.map es)=>if t0D P kt k=jB then(match p0u P kt es k,A0Z P et with
      |some (vA v),_=>vA ⟨m0f ok v jB,[i],[]⟩
      |some none,vA z=>vA ⟨m0f ok z oA,[i],[]⟩
      |_,_=>none)else none
    |_=>none
  |_,_,_=>none
def eqE(P:Program)(op:BinOp)(t:TypeId)(sa sb:Option SV):Option Eff:=
  match op,sa,sb with
  | .eql,vA (.agg xs),vA (.agg ys)=>if P.eqGuardType P.depth t=oA then(eqS P 9 t (.agg xs)<|.agg ys).map λb=>⟨.bool b,[],[]⟩else none
  | .neq,vA (.agg xs),vA (.agg ys)=>if P.eqGuardType P.depth t=oA then(eqS P 9 t (.agg xs)<|.agg ys).map λb=>⟨.bool<|!b,[],[]⟩else none
  |_,_,_=>none
def K0d:Value->Int
  | .int _ n=>n
  |_=>0
def d0L(s:List UInt8):List Int:=(zF ⟨s.toArray⟩ s.length 0 #[]).toList.map K0d
def w0U(n:Int):SV:= .int .i32 n
def a0o(P:Program)(o:Oper)(ρ:Env)(H:a0e)(idx:Nat):Option Eff:=
  match o.op with
  | .box _ x=>match(a0B ρ x).bind SV.cells? with
    |some cs=>vA ⟨.ptr idx 0,[],[(idx, .box cs)]⟩
    |none=>none
  | .alloc t=>match r0T P t with
    |some cs=>vA ⟨.ptr idx 0,[],[(idx, .box cs)]⟩
    |none=>none
  | .load t x=>match a0B ρ x with
    |some (.ptr i off)=>match(H[i]?).bind b0H with
      |some cs=>(b0q P t<|cs.drop off).map λv=>⟨v,[i],[]⟩
      |none=>none
    |_=>none
  | .store t x y=>match a0B ρ x,(a0B ρ y).bind SV.cells? with
    |some (.ptr i off),vA ps=>match H[i]? with
      |some en=>match b0H en with
        |some cs=>if ps.length=P.cellsOf t/\0<ps.length/\off+ps.length<=cs.length/\(J0Y en=jB->a0P ps=jB)then vA ⟨.undef,[i],[(i,y0f en<|splice cs off ps)]⟩else none
        |none=>none
      |none=>none
    |_,_=>none
  | .indexAddr t x y=>match P.underlying t,a0B ρ x,a0B ρ y with
    |some (.slice e),vA (.vc i),vA (.int _ j)=>match H[i]? with
      |some (.vec n k _ _)=>if k=P.cellsOf e/\0<k/\0<=j/\j<n then vA ⟨.ptr i<|j.toNat*k,[i],[]⟩else none
      |_=>none
    |_,_,_=>none
  | .slice t x lo hi mx=>match P.underlying t,a0B ρ x,lo,mx with
    |some (.array len e),vA (.ptr i off),none,none=>match i0O ρ hi (len:Int)with
      |some h=>if 0<=h/\h<=len/\0<P.cellsOf e then vA ⟨.sl i off h.toNat<|P.cellsOf e,[],[]⟩else none
      |none=>none
    |_,_,_,_=>none
  | .buildSlice t len parts=>match P.underlying t with
    |some (.slice e)=>match r0T P e with
      |some zs=>if i0K P e (P.cellsOf e)=jB/\len*P.cellsOf e<=16777216 then
          match q0F ρ (λi=>vA (i*P.cellsOf e,P.cellsOf e)) (oC len zs).flatten parts.toList with
          |some cs=>if len=0 then vA ⟨.nl,[],[]⟩else if a0P cs=jB then vA ⟨.vc idx,[],[(idx, .vec len (P.cellsOf e) e cs)]⟩else none
          |none=>none
        else none
      |none=>none
    |_=>none
  | .binOp op t x y _=>eqE P op t (a0B ρ x) (a0B ρ y)
  | .makeMap t none=>match P.underlying t with
    |some (.map _ _)=>vA ⟨.mp idx,[],[(idx, .map [])]⟩
    |_=>none
  | .insert t m k v=>l0P P t (a0B ρ m) (a0B ρ k) (a0B ρ v) H
  | .mapUpdate t m k v=>l0P P t (a0B ρ m) (a0B ρ k) (a0B ρ v) H
  | .lookup t m k ok=>k0O P t (a0B ρ m) (a0B ρ k) ok H
  | .makeSlice t x y=>match P.underlying t,a0B ρ x,a0B ρ y with
    |some (.slice e),vA (.int _ l),vA (.int _ c)=>match r0T P e with
      |some zs=>if i0K P e (P.cellsOf e)=jB/\0<=l/\l<=c/\c<=4294967296/\a0P zs=jB then vA ⟨.vc idx,[],[(idx, .vec l.toNat (P.cellsOf e) e (oC l.toNat zs).flatten)]⟩else none
      |none=>none
    |_,_,_=>none
  | .convert src dst x=>match P.underlying src,P.underlying dst,a0B ρ x with
    |some .string,vA (.slice e),vA (.str s)=>match P.underlying e with
      |some (.int .u8)=>vA ⟨.lst s.length 1<|s.map l0n,[],[]⟩
      |some (.int .i32)=>vA ⟨.lst (d0L s).length 1<|(d0L s).map w0U,[],[]⟩
      |_=>none
    |some .string,vA .string,vA (.str s)=>vA ⟨.str s,[],[]⟩
    |some (.slice e),vA (.slice _),vA (.vc i)=>match P.underlying e,H[i]? with
      |some (.int .u8),vA (.vec n k _ cs)=>if src=dst/\0<n then vA ⟨.lst n k cs,[i],[(i, .gone)]⟩else none
      |_,_=>none
    |some (.slice e),vA .string,vA s=>match P.underlying e,w0v 1 s H with
      |some (.int .u8),vA (_,cs,rd)=>if j0j P src s=jB/\cs.all o0U=jB then vA ⟨.str<|cs.map byteOf,rd,[]⟩else none
      |some (.int .i32),vA (_,cs,rd)=>if j0j P src s=jB/\cs.all p0t=jB then vA ⟨.str<|cs.flatMap w0V,rd,[]⟩else none
      |_,_=>none
    |_,_,_=>none
  | .call c=>match c.callee with
    | .builtin .append=>n0R P c ρ H idx
    | .builtin .copy=>F0m P c ρ H
    | .builtin .len=>match c.args.toList,c.argTypes.toList with
      | [x],[t]=>match P.underlying t,a0B ρ x with
        |some (.slice _),vA (.vc i)=>match H[i]? with
          |some (.vec n _ _ _)=>vA ⟨.int .i64 n,[i],[]⟩
          |_=>none
        |_,_=>none
      |_,_=>none
    | .builtin .min=>match c.args.toList with
      |x::r=>match a0B ρ x with
        |some (.int k a)=>(E0d oA k a ρ r).map λv=>⟨v,[],[]⟩
        |_=>none
      |_=>none
    | .builtin .max=>match c.args.toList with
      |x::r=>match a0B ρ x with
        |some (.int k a)=>(E0d jB k a ρ r).map λv=>⟨v,[],[]⟩
        |_=>none
      |_=>none
    |_=>none
  |_=>none
def a0D(P:Program)(o:Oper)(ρ:Env)(H:a0e)(idx:Nat):Option Eff:=
  match a0k P o ρ with
  |some v=>vA ⟨v,[],[]⟩
  |none=>a0o P o ρ H idx
section
variable {P : Program}{n : Nat}{w : World}{K : Nat -> Nat}{D : DM}{H : a0e}{ρ : Env}{a : Act}{o : Oper}{idx : Nat}
def g0h(h:HInv w K D H){s:SV}(hr:(execOp a.eval o).run P w= .ok (.value v) w)(h1:Rep w K D v s):q0R P w K D H o a s H:=
  ⟨v,w, .inl hr,Good.here h h1⟩
def M0Z(h:HInv w K D H)(hs:Slots n w K D ρ a.tmps)(ho:o.op= .box e x)(hx:Operand.inB n x=jB)(hidx:CanNew H idx){cs:List SV}(hc:(a0B ρ x).bind SV.cells?=vA cs):
    q0R P w K D H o a (.ptr idx 0) (h0Y H idx<|.box cs):=by
  cases hxe:a0B ρ x with
  |none=>rw[hxe]at hc;cases hc
  |some sx=>
    rw[hxe]at hc;have hcr:=w0k (a0i hs hx hxe) hc;refine⟨_,_, .inl ?_,E0a h hidx hcr e⟩;unfold execOp;rw[ho];simp[Instr.box,newVar,newRow]
theorem H0P(h:HInv w K D H)(ho:o.op= .alloc t)(hidx:CanNew H idx){cs:List SV}(hz:r0T P t=vA cs):
    q0R P w K D H o a (.ptr idx 0) (h0Y H idx<|.box cs):=by
  obtain⟨i,z,hi,hz,hl,hc,_,hcr⟩:=n0U hz;refine⟨_,_, .inl ?_,E0a h hidx (hcr w K D) t⟩;unfold execOp;rw[ho];simp[Instr.alloc,zeroValue,typeInfo,hi,hz,newVar,newRow]
theorem H0h(h:HInv w K D H)(hs:Slots n w K D ρ a.tmps)(ho:o.op= .load t x)(hx:Operand.inB n x=jB)(hxe:a0B ρ x=vA (.ptr i off)){cs:List SV}
    (hc:(H[i]?).bind b0H=vA cs) {v:SV} (hv:b0q P t (cs.drop off)=vA v):q0R P w K D H o a v H:=by
  have he:execOp a.eval o=(do pure (Next.value<|<-Instr.loadAt t (a.eval x))):=by unfold execOp;rw[ho]
  obtain⟨b,c,m,hvx,hd⟩:=r0e (a0i hs hx hxe)
  cases hH:H[i]? with
  |none=>rw[hH]at hc;cases hc
  |some en=>
    rw[hH]at hc;obtain⟨vs,rest,e,hheap,hcr,_,_⟩:=w0b h hH hd hc;have hrow:=(g0s hheap hcr).drop off;rw[bg]at hrow;obtain⟨r,hr,hrep⟩:=m0b (P:=P) hrow hv;exact g0h h (by rw[he];exact b0k<|by rw[hvx];simp[Instr.loadAt,jI,hr]) hrep
theorem C0Z(h:HInv w K D H)(hs:Slots n w K D ρ a.tmps)(ho:o.op= .store t x y)(hx:Operand.inB n x=jB)(hy:Operand.inB n y=jB)(hxe:a0B ρ x=vA (.ptr i off))
    {ps cs:List SV} (hye:(a0B ρ y).bind SV.cells?=vA ps) {en:Ent} (hH:H[i]?=vA en) (hc:b0H en=vA cs)
    (hl:ps.length=P.cellsOf t) (h0:0<ps.length) (hle:off+ps.length<=cs.length) (hpl:J0Y en=jB->a0P ps=jB):q0R P w K D H o a .undef (H.set i<|y0f en<|splice cs off ps):=by
  cases hyv:a0B ρ y with
  |none=>rw[hyv]at hye;cases hye
  |some sy=>
    rw[hyv]at hye;have hcx:=w0k (a0i hs hy hyv) hye;obtain⟨b,c,m,hvx,hd⟩:=r0e<|a0i hs hx hxe;obtain⟨w',hst,hg,hiv⟩:=l0r (P:=P) h hH hd hc hle hcx hpl;obtain⟨it,hit,hsz⟩:=r0Q (P:=P) (t:=t) dA
    have hsv:(Instr.storeAt t (.pointer<|vA ⟨b,off,none⟩)<|a.eval y).run P w= .ok () w':=by
      have hce:(a.eval y).cells.size=it.size:=by have:=hcx.len;simp at this;omega
      simp[Instr.storeAt,jI,storeVar,sizeOf,typeInfo,hit,hce,hst]
    refine⟨undef,w', .inr ⟨?_,rfl⟩,⟨K,D,hg,hiv, .undef _⟩⟩;unfold execOp;rw[ho];show Sem.run P (do Instr.storeAt t (a.eval x) (a.eval y);pure Next.skip) w=_;rw[hvx];simp[hsv]
theorem s0I(h:HInv w K D H){cs:List SV}(hr:Rep w K D v<|.vc i)(hH:H[i]?=vA (.vec nn k e cs)):
    a0P cs=jB/\((nn=0/\cs=[]/\ ∃ad,v= .slice ad 0 0)\/ ∃b c vs rest,v= .slice (vA ⟨b,0,none⟩) nn c/\D i=vA (.at b c nn)/\0<k/\nn<=c/\vs.length=nn*k/\CR w K D vs cs/\
      w.heap[b]?=vA (.cells (vs++rest).toArray e (0,0))):=by
  obtain⟨hp,hent⟩:=h.ent i _ hH;refine⟨hp, ?_⟩;rcases hent with⟨h1,h2,h3⟩|⟨b,c,vs,rest,h1,h2,h3,h4,h5,h6,h7,h8,h9⟩
  cases hr with
  |vcn _ ad hd=>exact .inl ⟨h2,h3,ad,rfl⟩
  |vc _ b c n hd=>rw[h1]at hd;cases hd
  cases hr with
  |vcn _ ad hd=>rw[h1]at hd;cases hd
  |vc _ b' c' n' hd=>rw[h1]at hd;cases hd;exact .inr ⟨b,c,vs,rest,rfl,h1,h3,h4,h7,h9,h6⟩
theorem z0k(h:HInv w K D H)(hs:Slots n w K D ρ a.tmps)(ho:o.op= .indexAddr t x y)(hx:Operand.inB n x=jB)(hy:Operand.inB n y=jB)(hu:P.underlying t=vA (.slice e))
 {cs:List SV} {kk:IntKind} {j:Int} (hxe:a0B ρ x=vA (.vc i)) (hye:a0B ρ y=vA (.int kk j)) (hH:H[i]?=vA (.vec nn k e' cs)) (hk:k=P.cellsOf e) (hk0:0<k) (h0:0<=j) (hj:j<nn):
    q0R P w K D H o a (.ptr i<|j.toNat*k) H:=by
  have he:execOp a.eval o=(do pure (Next.value<|<-yJ t (a.eval x) (a.eval y))):=by unfold execOp;rw[ho]
  have hrx:=a0i hs hx hxe;have hry:=a0i hs hy hye;generalize hvy:a.eval y=vy at hry;cases hry;rcases(s0I h hrx hH).2 with⟨hn0,_⟩|⟨b,c,vs,rest,hv,hd,_⟩;omega;subst hk;refine g0h h (v:= .pointer<|vA ⟨b,j.toNat*P.cellsOf e,none⟩) ?_<|.ptr _ _ _ _ _ hd;rw[he];refine b0k ?_;rw[hv,hvy];simp[yJ,asIntOf,run_underlying hu,b0N hk0,h0,hj,add_lit]
theorem y0G(h:HInv w K D H)(hs:Slots n w K D ρ a.tmps){len:Nat}{hi:Option Operand}(ho:o.op= .slice t x none hi none)(hx:Operand.inB n x=jB)(hhi: ∀x,hi=vA x->Operand.inB n x=jB)
    (hu:P.underlying t=vA (.array len e)) (hxe:a0B ρ x=vA (.ptr i off)) {hh:Int} (hb:i0O ρ hi (len:Int)=vA hh) (h0:0<=hh) (h1:hh<=len) (hk0:0<P.cellsOf e):
    q0R P w K D H o a (.sl i off hh.toNat<|P.cellsOf e) H:=by
  have he:execOp a.eval o=(do pure (Next.value<|<-yG t (a.eval x) none (hi.map a.eval) none)):=by unfold execOp;rw[ho];rfl
  obtain⟨b,c,m,hvx,hd⟩:=r0e (a0i hs hx hxe)
  have hbd:(jE oA len len none (hi.map a.eval) none).run P w= .ok (0,hh.toNat,len) w:=by
    rcases q0K (P:=P) (w:=w) (code:= .sliceAlen) (y:=len) hs hhi hb h0 h1 with⟨rfl,e1⟩|⟨y1,rfl,e1⟩;subst e1;simp[jE];simp[jE,e1]
  refine g0h h (v:= .slice (vA ⟨b,off,none⟩) hh.toNat len) ?_<|.sl i off hh.toNat (P.cellsOf e) b c m len hd dA;rw[he];refine b0k ?_;rw[hvx];simp[yG,jI,run_underlying hu,hbd,b0N hk0,Addr.add]
theorem E0v(h:HInv w K D H)(hs:Slots n w K D ρ a.tmps)(ho:o.op= .call c)(hcal:c.callee= .builtin .len)(ha:c.args.toList=[x])(ht:c.argTypes.toList=[t])(hx:Operand.inB n x=jB)
    (hu:P.underlying t=vA (.slice e)) {cs:List SV} (hxe:a0B ρ x=vA (.vc i)) (hH:H[i]?=vA (.vec nn k e' cs)):q0R P w K D H o a (.int .i64 nn) H:=by
  have ha':c.args= #[x]:=by rw[<-bh];exact ha
  have ht':c.argTypes= #[t]:=by rw[<-bh];exact ht
  have hv: ∃ad cap,a.eval x= .slice ad nn cap:=by
    rcases(s0I h (a0i hs hx hxe) hH).2 with⟨hn0,_,ad,hv⟩|⟨b,c,vs,rest,hv,_⟩;exact⟨_,_,by rw[hv,hn0]⟩;exact⟨_,_,hv⟩
  obtain⟨ad,cap,hv⟩:=hv;refine g0h h (v:= .int .i64 nn) ?_<|.int _ _;unfold execOp;simp only[ho,resolve,hcal,ha',ht',invoke,builtin,zD,vE,vC,cg,ao,aI];rw[hv];simp[Builtin.len_,run_underlying hu,goInt]
theorem x0Z{place:Nat->Option (Nat×Nat)}: ∀(ps:List<|Nat×Operand) (c0 c1:List SV),q0F ρ place c0 ps=vA c1->c1.length=c0.length:=by
  intro ps
  induction ps with
  |nil=>intro c0 c1 hh;cases hh;rfl
  |cons p ps ih=>
    intro c0 c1 hh;simp only[q0F]at hh;split at hh;rename_i off size qs hp hq;split at hh;rename_i hcc;rw[ih _ _ hh];simp[Sy.splice];omega;cases hh;cases hh
theorem w0m(h:HInv w K D H)(hs:Slots n w K D ρ a.tmps){t e len:Nat}{parts:Array (Nat×Operand)}(ho:o.op= .buildSlice t len parts)(hb: ∀p∈parts.toList,Operand.inB n p.2=jB)(hu:P.underlying t=vA (.slice e)){zs cs:List SV}
    (hz:r0T P e=vA zs) (hok:i0K P e (P.cellsOf e)=jB) (hmax:len*P.cellsOf e<=16777216) (hf:q0F ρ (λi=>vA (i*P.cellsOf e,P.cellsOf e)) (oC len zs).flatten parts.toList=vA cs):
    ∃cells',(execOp a.eval o).run P w= .ok (.value<|.slice (vA ⟨w.heap.size,0,none⟩) len len) (w.alloc<|.cells cells' e)/\CR w K D cells'.toList cs/\cells'.size=len*P.cellsOf e:=by
  obtain⟨i,z,hi,hzz,hl,hc,_,hcr⟩:=n0U hz;obtain⟨i',z',hi',hz',hzs,hk,hk0,hby⟩:=g0N hok;rw[hi]at hi';cases hi';rw[hzz]at hz';cases hz';rw[hc]at hk hk0 hmax hf hok⊢;have hzl:zs.length=z.cells.size:=by rw[hl,hzs]
  obtain⟨cells',h1,h2⟩:=z0v hs parts.toList _ _ cs hb (u0X (hcr w K D) dA len) hf
  have hcl:cells'.size=len*i.size:=by
    have e1:cs.length=cells'.size:=by simpa using h2.len
    rw[<-e1,x0Z _ _ _ hf,z0s,hl]
  refine⟨cells', ?_,h2,hcl⟩
  have hrun:(Instr.buildSlice t len<|parts.map λp=>(p.1,a.eval p.2)).run P w= .ok (.slice (vA ⟨w.heap.size,0,none⟩) len len) (w.alloc<|.cells cells' e):=by
    have hzi:zs.length=i.size:=hl;rw[hzi]at h1;by_cases h0:len*i.size=0
    have hz0:len=0:=by
      rcases bB len with h|h;exact h;have:=Nat.mul_pos h hk0;omega
    subst hz0;have hr0: ∀f:Nat->Value,(yK 0).map f= #[]:=λf=>by apply jK;simp
    simp only[Nat.zero_mul,hr0]at h1;simp[Instr.buildSlice,run_underlying hu,sizeOf,typeInfo,hi,hr0,h1,newRow];simp[Instr.buildSlice,run_underlying hu,sizeOf,typeInfo,zeroValue,hi,hzz,h0,h1,newRow,Nat.not_lt.2 hmax]
  unfold execOp;rw[ho];exact b0k hrun
theorem HInv.push(h:HInv w K D H){ob:Obj}(hh:w'.heap=w.heap.push ob)(h1:w'.os=w.os)(h2:w'.tape=w.tape)(h3:w'.output=w.output)(hK: ∀b,b≠w.heap.size->K' b=K b):
    Grow w K D H w' K' D H/\HInv w' K' D H:=by
  have hold: ∀b,b<w.heap.size->w'.heap[b]?=w.heap[b]?:=λb hb=>by rw[hh,bS,yB dA]
  have hK0:K w.heap.size=0:=by
    rcases bB (K w.heap.size)with h0|h0;exact h0;have:=h.kw w.heap.size dA;omega
  have hcells: ∀b j,j<K b->w'.cell? ⟨b,j,none⟩=w.cell? ⟨b,j,none⟩:=λb j hj=>World.cell?_of_block (w:=w) (a:=⟨b,j,none⟩) (hold b<|h.kw b dA)
  have hle: ∀b,K b<=K' b:=λb=>by
    by_cases hb:b=w.heap.size;subst hb;omega;rw[hK b hb];exact ak _
  have hrep: ∀v s,Rep w K D v s->Rep w' K' D v s:=λv s hr=>hr.mono hcells hle (λ_ _ e=>e)
  refine⟨⟨h1,h2,h3,by rw[hh];simp,λb hb _=>hold b hb,hcells,hle,λb hb _=>hK b dA,λ_ _ e=>e,λb hm=> .inl hm⟩,
    ⟨h.dom,λi en hi=>(h.ent i en hi).keep hrep rfl λb c m hl hd=> ?_,h.inj,λb hb=> ?_⟩⟩
  have hlt:=(k0A h ⟨i,en,c,m,hi,hl,hd⟩).1;exact⟨hold b hlt,hK b dA⟩;rw[hh];simp only[Array.size_push];by_cases hbs:b=w.heap.size;omega;rw[hK b hbs]at hb;have:=h.kw b hb;omega
theorem x0E(h:HInv w K D H)(hs:Slots n w K D ρ a.tmps){t e:Nat}(ho:o.op= .makeSlice t x y)(hx:Operand.inB n x=jB)(hy:Operand.inB n y=jB)(hu:P.underlying t=vA (.slice e)){zs:List SV}{kl kc:IntKind}{l c:Int}
    (hidx:CanNew H idx) (hxe:a0B ρ x=vA (.int kl l)) (hye:a0B ρ y=vA (.int kc c))
    (hz:r0T P e=vA zs) (hok:i0K P e (P.cellsOf e)=jB) (h0:0<=l) (hlc:l<=c) (hcm:c<=4294967296) (hpz:a0P zs=jB):
    q0R P w K D H o a (.vc idx) (h0Y H idx<|.vec l.toNat (P.cellsOf e) e (oC l.toNat zs).flatten):=by
  obtain⟨i,z,hi,hzz,hl,hc,_,hcr⟩:=n0U hz;obtain⟨i',z',hi',hz',hzs,hk,hk0,hby⟩:=g0N hok;rw[hi]at hi';cases hi';rw[hzz]at hz';cases hz';rw[hc]at hk hk0 hok⊢;have hrx:=a0i hs hx hxe;have hry:=a0i hs hy hye;generalize hvx:a.eval x=vx at hrx;generalize hvy:a.eval y=vy at hry;cases hrx;cases hry
  have hbytes:(i.bytes:Int)*c<=281474976710656:=by
    have h1:(i.bytes:Int)*c<=4096*c:=Int.mul_le_mul_of_nonneg_right dA dA;omega
  have hrun:=run_make (P:=P) w t e i z hu hi hzz kl kc l c h0 hlc hbytes dA;have hzl:=u0X (hcr w K D) dA l.toNat;have hsz:z.cells.size=zs.length:=by rw[hl,hzs]
  have hvl:((yK<|l.toNat*zs.length).map (z.cells[· %z.cells.size]!)).toList.length=l.toNat*i.size:=by simp[hl]
  have hle:l.toNat*i.size<=c.toNat*i.size:=aK _ dA
  have hLt:(madeCells z.cells<|c.toNat*i.size).toList.take (l.toNat*i.size)=((yK<|l.toNat*zs.length).map (z.cells[· %z.cells.size]!)).toList:=by
    apply bC;intro j;rw[aM];by_cases hj:j<l.toNat*i.size;rw[vB hj];simp[madeCells,hl,hj,bk hj hle];rw[yB hj,aC<|by rw[hvl];omega]
  have hg:=z0d (w':=w.alloc<|.cells (madeCells z.cells<|c.toNat*i.size) e) (L:=madeCells z.cells<|c.toNat*i.size) (vs:=((yK<|l.toNat*zs.length).map (z.cells[· %z.cells.size]!)).toList)
    (rest:=(madeCells z.cells<|c.toNat*i.size).toList.drop<|l.toNat*i.size) (cap:=c.toNat) (len:=l.toNat) (k:=i.size) (e:=e) h hidx none dE hzl (s0G hpz _) (by
      rw[<-hLt];apply jK;simp) rfl rfl rfl rfl hk0 hvl dA (by
      rw[az,hvl,bc,cu,size_madeCells];omega) (by unfold maxLen;omega)
  rw[g0Z]at hg;refine⟨_,_, .inl ?_,hg⟩;unfold execOp;rw[ho];show Sem.run P (do pure (Next.value<|<-Instr.makeSlice t (a.eval x) (a.eval y))) w=_;rw[hvx,hvy];exact b0k hrun
end
section
variable {P : Program}{n : Nat}{w : World}{K : Nat -> Nat}{D : DM}{H : a0e}{ρ : Env}{a : Act}{o : Oper}{idx : Nat}
theorem x0P{x:Value}{cs:List SV}(h:SrcAt P w K D k tx x m news cs):(Builtin.lenOf x).run P w= .ok m w:=h.src.len w
def w0g{t tx e ty:Nat}{y:Value}{cs2:List SV}(hu:P.underlying t=vA (.slice e))(hk:k=P.cellsOf e)(hk0:0<k)(hsrc:SrcAt P w K D k tx y m news cs2)
    (hus:us=news.take (min m nn*k)) (hst:(storeCells ⟨b,off,none⟩ us).run P w= .ok () w'):
    (Builtin.copy_ #[t,tx] ty #[.slice (vA ⟨b,off,none⟩) nn cap,y]).run P w= .ok (.int .i64 ((min m nn:Nat):Int)) w':=by
  have hf:=hsrc.first (min m nn)<|Nat.min_le_left _ _;have hsz:(sizeOf e).run P w= .ok k w:=by rw[hk];exact b0N (by rw[<-hk];exact hk0)
  rw[<-hus]at hf;simp[Builtin.copy_,run_underlying hu,x0P hsrc,hsz,hf,hst,goInt]
theorem K0M(h:HInv w K D H)(hs:Slots n w K D ρ a.tmps)(ho:o.op= .call c)(hcal:c.callee= .builtin .copy)(hb: ∀x∈c.args,Operand.inB n x=jB){ef:Eff}
    (he:F0m P c ρ H=vA ef):q0R P w K D H o a ef.v (b0a H ef.wr):=by
  unfold F0m at he
  split at he
  · rename_i x y t tx hargs htys
    have ha:c.args= #[x,y]:=by rw[<-bh];exact hargs
    have hty:c.argTypes= #[t,tx]:=by rw[<-bh];exact htys
    have hxb:=hb x (by rw[ha];simp);have hyb:=hb y (by rw[ha];simp)
    have hrun: ∀r w',(Builtin.copy_ #[t,tx] o.type #[a.eval x,a.eval y]).run P w= .ok r w'->(execOp a.eval o).run P w= .ok (.value r) w':=λr w' hr=>by
      unfold execOp;simp only[ho,resolve,hcal,ha,hty,invoke,builtin,zD,vE,vC,cg,ao,aI,hr]
    split at he
    · rename_i e i0 sy hu hxe hye
      split at he
      · rename_i nn k e' cs hH
        split at he
        · rename_i m cs2 rd hsc
          split at he<;>cases he
          rename_i hc;obtain⟨hk,hok,hst⟩:=hc;obtain⟨i,z,hi,hz,hzs,hki,hk0,hby⟩:=g0N hok;obtain⟨news,hsrc⟩:=w0M (P:=P) (tx:=tx) h hk0 (a0i hs hyb hye) hsc hst;have hil:i0<H.length:=(ab.1 hH).1;have hset: ∀en,h0Y H i0 en=H.set i0 en:=λen=>by unfold h0Y;rw[vB hil]
          simp only[b0a,hset]
          rcases(s0I h (a0i hs hxb hxe) hH).2 with⟨h1,h2,ad,hv⟩|⟨b,cp,vs,rest,hv,hd,_,hcap,hvl,hcr,hheap⟩
          · subst h1;subst h2
            have hf:=hsrc.first 0<|bo _;have hsz:(sizeOf e).run P w= .ok k w:=by rw[hk];exact b0N (by rw[<-hk];exact hk0)
            have hsame:H.set i0 (.vec 0 k e'<|splice [] 0<|cs2.take<|min m 0*k)=H:=by
              have:splice [] 0 (cs2.take<|min m 0*k)=[]:=by simp[Sy.splice]
              rw[this];apply bC;intro j;rw[aR];by_cases hj:i0=j;subst hj;rw[vB rfl,vB hil,hH];rw[yB hj]
            rw[hsame];refine g0h h (v:= .int .i64 ((min m 0:Nat):Int)) (hrun _ _ ?_)<|.int _ _;rw[hv];cases ad<;>simp[Builtin.copy_,run_underlying hu,x0P hsrc,hsz,hf,goInt,storeCells,<-hk]
          have hcx:CR w K D (news.take<|min m nn*k) (cs2.take<|min m nn*k):=hsrc.cr.take _;have hnl:cs2.length=m*k:=by rw[hsrc.cr.len,hsrc.src.newsLen]
          have hmk:min m nn*k<=m*k:=aK _<|Nat.min_le_left _ _;have hmk2:min m nn*k<=nn*k:=aK _<|Nat.min_le_right _ _;obtain⟨w',hst,hg,hiv⟩:=l0r (P:=P) (off:=0) h hH hd rfl (by rw[aE,hcr.len];omega) hcx λ_=>f0B hsrc.plain _;exact⟨_,w', .inl<|hrun _ _<|by rw[hv];exact w0g hu hk hk0 hsrc rfl hst,⟨K,D,hg,hiv, .int _ _⟩⟩
        cases he
      cases he
    · rename_i e i0 off nn k sy hu hxe hye
      split at he
      · rename_i cs hH
        split at he
        · rename_i m cs2 rd hsc
          split at he<;>cases he
          rename_i hc;obtain⟨hk,hok,hst,hle⟩:=hc;obtain⟨i,z,hi,hz,hzs,hki,hk0,hby⟩:=g0N hok;obtain⟨news,hsrc⟩:=w0M (P:=P) (tx:=tx) h hk0 (a0i hs hyb hye) hsc hst;have hil:i0<H.length:=(ab.1 hH).1;have hset: ∀en,h0Y H i0 en=H.set i0 en:=λen=>by unfold h0Y;rw[vB hil]
          simp only[b0a,hset];have hrx:=a0i hs hxb hxe;generalize hvx:a.eval x=vx at hrx
          cases hrx with
          |sl _ _ _ _ b c m' cap hd hcap=>
            have hcx:CR w K D (news.take<|min m nn*k) (cs2.take<|min m nn*k):=hsrc.cr.take _;have hmk2:min m nn*k<=nn*k:=aK _<|Nat.min_le_right _ _;obtain⟨w',hst,hg,hiv⟩:=l0r (P:=P) (off:=off) h hH hd rfl (by rw[aE];omega) hcx (λe=>by cases e);exact⟨_,w', .inl<|hrun _ _<|by rw[hvx];exact w0g hu hk hk0 hsrc rfl hst,⟨K,D,hg,hiv, .int _ _⟩⟩
        cases he
      cases he
    cases he
  cases he
theorem B0e(h:HInv w K D H)(hs:Slots n w K D ρ a.tmps)(ho:o.op= .convert src dst x)(hx:Operand.inB n x=jB)(hsrc:P.underlying src=vA .string)(hdst:P.underlying dst=vA (.slice e))
    (he:P.underlying e=vA (.int .u8)) {s:List UInt8} (hxe:a0B ρ x=vA (.str s)):q0R P w K D H o a (.lst s.length 1<|s.map l0n) H:=by
  have hex:execOp a.eval o=(do pure (Next.value<|<-convert src dst (a.eval x))):=by unfold execOp;rw[ho]
  have hrx:=a0i hs hx hxe;generalize hvx:a.eval x=vx at hrx
  cases hrx with
  |str sb=>
    have hrun:=run_bytes_of_string (P:=P) w src dst e sb hsrc hdst he;generalize hcp:grownCap w sb.size 0 e=cap at hrun;have hcap:sb.size<=cap:=by rw[<-hcp];exact grownCap_ge w sb.size 0 e
    generalize hw':w.drew.alloc (.cells (bytesRow sb cap) e ((bytesRow sb cap).size,(bytesRow sb cap).size+1))=w' at hrun;have hheap:w'.heap=w.heap.push (.cells (bytesRow sb cap) e ((bytesRow sb cap).size,(bytesRow sb cap).size+1)):=by rw[<-hw'];rfl
    have hlen:sb.data.toList.length=sb.size:=by simp
    have hK0:K w.heap.size=0:=by
      rcases bB (K w.heap.size)with h0|h0;exact h0;have:=h.kw w.heap.size dA;omega
    obtain⟨g,hiv⟩:=HInv.push (K':=λb=>if b=w.heap.size then sb.size else K b) h hheap (by rw[<-hw'];rfl) (by rw[<-hw'];rfl) (by rw[<-hw'];rfl) λb hb=>yB hb;refine⟨_,w', .inl<|by rw[hex];exact b0k<|by rw[hvx];exact hrun,⟨_,D,g,hiv, ?_⟩⟩;have hbl:(byteCells sb).length=sb.size:=byteCells_length sb;rw[hlen]
    refine .lst 1 w.heap.size 0 sb.size cap (byteCells sb) _ dA (by rw[hbl,Nat.mul_one]) (by simp[hbl]) hcap (λj v hj=> ?_) (by rw[hbl];simp) (λu hu=>by
        obtain⟨_,_,rfl⟩:=be.1 hu;rfl) ?_ (λj v c hv hc=> ?_)
    have hjl:j<sb.size:=by rw[<-hbl];exact(ab.1 hj).1
    have hget:w'.heap[w.heap.size]?=vA (.cells (bytesRow sb cap) e ((bytesRow sb cap).size,(bytesRow sb cap).size+1)):=by rw[hheap];simp
    unfold World.cell?;simp only[bg,hget];unfold byteCells at hj;rw[ar]at hj;simp only[bytesRow,Option.isSome_none,aF,if_false];rw[bW<|by simpa using hjl,Array.getElem?_map];simpa using hj;simp only[a0P,List.all_map,wD];intro b _;rfl;unfold byteCells at hv;rw[ar]at hv hc
    cases hb:sb.data.toList[j]? with
    |none=>rw[hb]at hv;cases hv
    |some y=>rw[hb]at hv hc;cases hv;cases hc;exact .int _ _
def p0U(s:ByteArray): ∀(b i:Nat) (acc:Array Value),(∀v∈acc.toList,∃n:Int,v= .int .i32 n)-> ∀v∈(zF s b i acc).toList,∃n:Int,v= .int .i32 n
  |0,i,acc,h=>by simpa only[zF]using h
  |b+1,i,acc,h=>by
    simp only[zF];split
    exact p0U s b _ _ (λv hv=>by
      simp only[Array.toList_push,av,aN]at hv;rcases hv with hv|rfl;exact h v hv
      exact⟨_,rfl⟩)
    exact h
def p0d(w:World)(src dst e:TypeId)(s:ByteArray)(hs:P.underlying src=vA .string)(hd:P.underlying dst=vA (.slice e))(he:P.underlying e=vA (.int .i32)):
    (convert src dst<|.string s).run P w= .ok (.slice (vA ⟨w.heap.size,0,none⟩) (zF s s.size 0 #[]).size<|grownCap w (zF s s.size 0 #[]).size 0 e)
      (w.drew.alloc<|.cells (zF s s.size 0 #[]++yD (grownCap w (zF s s.size 0 #[]).size 0 e-(zF s s.size 0 #[]).size) (.int .i32 0)) e):=by
  simp[convert,run_underlying hs,run_underlying hd,run_underlying he,Conv.stringToRunes,Question.forced,newRow,grownCap]
theorem B0d(h:HInv w K D H)(hs:Slots n w K D ρ a.tmps)(ho:o.op= .convert src dst x)(hx:Operand.inB n x=jB)(hsrc:P.underlying src=vA .string)(hdst:P.underlying dst=vA (.slice e))
    (he:P.underlying e=vA (.int .i32)) {s:List UInt8} (hxe:a0B ρ x=vA (.str s)):q0R P w K D H o a (.lst (d0L s).length 1<|(d0L s).map w0U) H:=by
  have hex:execOp a.eval o=(do pure (Next.value<|<-convert src dst (a.eval x))):=by unfold execOp;rw[ho]
  have hrx:=a0i hs hx hxe;generalize hvx:a.eval x=vx at hrx
  cases hrx with
  |str sb=>
    have hrun:=p0d (P:=P) w src dst e sb hsrc hdst he
    have hrv:d0L sb.data.toList=(zF sb sb.size 0 #[]).toList.map K0d:=by
      unfold d0L;rw[show sb.data.toList.length=sb.size from by simp]
    rw[hrv];have hint:=p0U sb sb.size 0 #[] (λv hv=>by simp at hv);generalize zF sb sb.size 0 #[]=R at hrun hint⊢;generalize hcp:grownCap w R.size 0 e=cap at hrun;have hcap:R.size<=cap:=by rw[<-hcp];exact grownCap_ge w R.size 0 e
    generalize hw':w.drew.alloc (.cells (R++yD (cap-R.size) (.int .i32 0)) e)=w' at hrun;have hheap:w'.heap=w.heap.push (.cells (R++yD (cap-R.size) (.int .i32 0)) e):=by rw[<-hw'];rfl
    obtain⟨g,hiv⟩:=HInv.push (K':=λb=>if b=w.heap.size then R.size else K b) h hheap (by rw[<-hw'];rfl) (by rw[<-hw'];rfl) (by rw[<-hw'];rfl) λb hb=>yB hb;refine⟨_,w', .inl<|by rw[hex];exact b0k<|by rw[hvx];exact hrun,⟨_,D,g,hiv, ?_⟩⟩;have hlen:(R.toList.map K0d).length=R.size:=by simp
    rw[hlen]
    refine .lst 1 w.heap.size 0 R.size cap R.toList _ dA dE dE hcap (λj v hj=> ?_) dE (λu hu=>by
        obtain⟨n,rfl⟩:=hint u hu;rfl) ?_ (λj v c hv hc=> ?_)
    have hjl:j<R.size:=by simpa using (ab.1 hj).1
    have hget:w'.heap[w.heap.size]?=vA (.cells (R++yD (cap-R.size) (.int .i32 0)) e):=by rw[hheap];simp
    unfold World.cell?;simp only[bg,hget];simp only[Option.isSome_none,aF,if_false];rw[bW hjl];simpa using hj;simp only[a0P,List.all_map,wD];intro b _;rfl;rw[ci,ar]at hc;rw[hv]at hc;cases hc;obtain⟨n,rfl⟩:=hint v<|aJ hv;exact .int _ _
theorem K0b{cs:List SV}(h:CR w K D news cs)(hb:cs.all o0U=jB): ∃ns:List Int,news=ns.map (oJ .u8)/\cs.map byteOf=ns.map λn=>wJ n.toNat:=by
  have key: ∀(cs:List SV) (news:List Value),cs.length=news.length->(∀(j:Nat) (v:Value) (c:SV),news[j]?=vA v->cs[j]?=vA c->Rep w K D v c)->cs.all o0U=jB->
      ∃ns:List Int,news=ns.map (oJ .u8)/\cs.map byteOf=ns.map λn=>wJ n.toNat:=by
    intro cs
    induction cs with
    |nil=>intro news hl _ _;cases news with
      |nil=>exact⟨[],rfl,rfl⟩
      |cons v vs=>simp at hl
    |cons c cs ih=>
      intro news hl hr hb
      cases news with
      |nil=>simp at hl
      |cons v vs=>
        simp only[aL,aa]at hb;obtain⟨ns,e1,e2⟩:=ih vs (by simpa using hl) (λj v c hv hc=>hr (j+1) v c (by simpa using hv)<|by simpa using hc) hb.2;have h0:=hr 0 v c rfl rfl;have hc:=hb.1;unfold o0U at hc;split at hc;rename_i z;cases h0;exact⟨z::ns,by rw[e1];rfl,by rw[ao,e2];rfl⟩;cases hc
  exact key cs news h.len h.rep hb
theorem G0i(h:HInv w K D H)(hs:Slots n w K D ρ a.tmps)(ho:o.op= .convert src dst x)(hx:Operand.inB n x=jB)(hsrc:P.underlying src=vA (.slice e))(hdst:P.underlying dst=vA .string)
    (he:P.underlying e=vA (.int .u8)) {s:SV} (hxe:a0B ρ x=vA s) {cs:List SV} (hsc:w0v 1 s H=vA (m,cs,rd)) (hty:j0j P src s=jB) (hb:cs.all o0U=jB):q0R P w K D H o a (.str<|cs.map byteOf) H:=by
  have hex:execOp a.eval o=(do pure (Next.value<|<-convert src dst (a.eval x))):=by unfold execOp;rw[ho]
  obtain⟨news,hsa⟩:=w0M (P:=P) (tx:=src) h dA (a0i hs hx hxe) hsc hty;obtain⟨ns,e1,e2⟩:=K0b hsa.cr hb;have hcells:=hsa.src.cells;have hlen:=hsa.src.len w;generalize hvx:a.eval x=vx at hcells hlen
  have hsv: ∃r,(convert src dst vx).run P w= .ok (.string r) w/\cs.map byteOf=r.data.toList:=by
    cases vx with
    |slice ad len cap=>
      have hm:len=m:=by simp[Builtin.lenOf]at hlen;exact hlen
      subst hm;rw[run_convert_bytes_string w src dst e ad len cap hsrc he hdst]
      cases ad with
      |none=>
        have hn:news=[]:=by
          simp[Builtin.firstCells]at hcells;exact hcells
        rw[hn]at e1
        have:ns=[]:=by cases ns with
          |nil=>rfl
          |cons _ _=>cases e1
        subst this;exact⟨.empty,by simp[Conv.bytesToString],by rw[e2];rfl⟩
      |some ad=>
        have hl:(loadCells ad len).run P w= .ok (ns.map<|oJ .u8).toArray w:=by
          have:=hcells;simp only[Builtin.firstCells,Nat.mul_one]at this;rw[this,e1]
        refine⟨_,run_bytesToString w ad len cap ns hl, ?_⟩;rw[e2]
        have: ∀(ns:List Int) (r:ByteArray),(ns.foldl (λr n=>r.push<|wJ n.toNat) r).data.toList=r.data.toList++ns.map λn=>wJ n.toNat:=by
          intro ns
          induction ns with
          |nil=>intro r;simp
          |cons x ns ih=>intro r;simp only[List.foldl_cons];rw[ih];simp[ByteArray.push]
        rw[this];rfl
    |string sb=>
      exfalso;have hr:=a0i hs hx hxe;rw[hvx]at hr
      cases hr with
      |str _=>simp[j0j,hsrc]at hty
      |undef _=>simp[w0v]at hsc
    |_=>simp[Builtin.lenOf,stuck,Sem.run]at hlen
  obtain⟨r,h1,h2⟩:=hsv;refine g0h h (v:= .string r) (by rw[hex];exact b0k<|by rw[hvx];exact h1) ?_;rw[h2];exact .str r
theorem G0x{cs:List SV}(h:CR w K D news cs)(hb:cs.all p0t=jB): ∃ns:List Int,news=ns.map (oJ .i32)/\cs=ns.map (SV.int .i32):=by
  have key: ∀(cs:List SV) (news:List Value),cs.length=news.length->(∀(j:Nat) (v:Value) (c:SV),news[j]?=vA v->cs[j]?=vA c->Rep w K D v c)->cs.all p0t=jB->
      ∃ns:List Int,news=ns.map (oJ .i32)/\cs=ns.map (SV.int .i32):=by
    intro cs
    induction cs with
    |nil=>intro news hl _ _;cases news with
      |nil=>exact⟨[],rfl,rfl⟩
      |cons v vs=>simp at hl
    |cons c cs ih=>
      intro news hl hr hb
      cases news with
      |nil=>simp at hl
      |cons v vs=>
        simp only[aL,aa]at hb;obtain⟨ns,e1,e2⟩:=ih vs (by simpa using hl) (λj v c hv hc=>hr (j+1) v c (by simpa using hv)<|by simpa using hc) hb.2;have h0:=hr 0 v c rfl rfl;have hc:=hb.1;unfold p0t at hc;split at hc;rename_i z;cases h0;exact⟨z::ns,by rw[e1];rfl,by rw[ao,e2]⟩;cases hc
  exact key cs news h.len h.rep hb
theorem s0X(ns:List Int):(runesBytes ns).data.toList=ns.flatMap λn=>(jJ n).data.toList:=by
  have: ∀(ns:List Int) (r:ByteArray),(ns.foldl (λr n=>r++jJ n) r).data.toList=r.data.toList++ns.flatMap λn=>(jJ n).data.toList:=by
    intro ns
    induction ns with
    |nil=>intro r;simp
    |cons x ns ih=>intro r;simp only[List.foldl_cons];rw[ih];simp[ByteArray.data_append]
  unfold runesBytes;rw[this];rfl
theorem C0J(h:HInv w K D H)(hs:Slots n w K D ρ a.tmps)(ho:o.op= .convert src dst x)(hx:Operand.inB n x=jB)(hsrc:P.underlying src=vA (.slice e))(hdst:P.underlying dst=vA .string)
    (he:P.underlying e=vA (.int .i32)) {s:SV} (hxe:a0B ρ x=vA s) {cs:List SV} (hsc:w0v 1 s H=vA (m,cs,rd)) (hty:j0j P src s=jB) (hb:cs.all p0t=jB):q0R P w K D H o a (.str<|cs.flatMap w0V) H:=by
  have hex:execOp a.eval o=(do pure (Next.value<|<-convert src dst (a.eval x))):=by unfold execOp;rw[ho]
  obtain⟨news,hsa⟩:=w0M (P:=P) (tx:=src) h dA (a0i hs hx hxe) hsc hty;obtain⟨ns,e1,e2⟩:=G0x hsa.cr hb;have hcells:=hsa.src.cells;have hlen:=hsa.src.len w
  have hfl:cs.flatMap w0V=ns.flatMap λn=>(jJ n).data.toList:=by
    rw[e2,List.flatMap_map];rfl
  generalize hvx:a.eval x=vx at hcells hlen
  have hsv: ∃r,(convert src dst vx).run P w= .ok (.string r) w/\cs.flatMap w0V=r.data.toList:=by
    cases vx with
    |slice ad len cap=>
      have hm:len=m:=by simp[Builtin.lenOf]at hlen;exact hlen
      subst hm;rw[run_convert_runes_string w src dst e ad len cap hsrc he hdst]
      cases ad with
      |none=>
        have hn:news=[]:=by
          simp[Builtin.firstCells]at hcells;exact hcells
        rw[hn]at e1
        have:ns=[]:=by cases ns with
          |nil=>rfl
          |cons _ _=>cases e1
        subst this;exact⟨.empty,by simp[Conv.runesToString],by rw[hfl];rfl⟩
      |some ad=>
        have hl:(loadCells ad len).run P w= .ok (ns.map<|oJ .i32).toArray w:=by
          have:=hcells;simp only[Builtin.firstCells,Nat.mul_one]at this;rw[this,e1]
        exact⟨_,run_runesToString w ad len cap ns hl,by rw[hfl,s0X]⟩
    |string sb=>
      exfalso;have hr:=a0i hs hx hxe;rw[hvx]at hr
      cases hr with
      |str _=>simp[j0j,hsrc]at hty
      |undef _=>simp[w0v]at hsc
    |_=>simp[Builtin.lenOf,stuck,Sem.run]at hlen
  obtain⟨r,h1,h2⟩:=hsv;refine g0h h (v:= .string r) (by rw[hex];exact b0k<|by rw[hvx];exact h1) ?_;rw[h2];exact .str r
theorem G0k(h:HInv w K D H)(hs:Slots n w K D ρ a.tmps)(ho:o.op= .convert src dst x)(hx:Operand.inB n x=jB)(hsrc:P.underlying src=vA .string)(hdst:P.underlying dst=vA .string)
    {s:List UInt8} (hxe:a0B ρ x=vA (.str s)):q0R P w K D H o a (.str s) H:=by
  have hex:execOp a.eval o=(do pure (Next.value<|<-convert src dst (a.eval x))):=by unfold execOp;rw[ho]
  have hrx:=a0i hs hx hxe;generalize hvx:a.eval x=vx at hrx
  cases hrx with
  |str sb=>
    exact g0h h (v:= .string sb) (by rw[hex];exact b0k<|by rw[hvx];simp[convert,run_underlying hsrc,run_underlying hdst])<|.str sb
theorem J0Q(hs:Slots n w K D ρ a.tmps){big:Bool}{k:IntKind}: ∀(l:List Operand) (acc:Int) (v:SV),(∀x∈l,Operand.inB n x=jB)->E0d big k acc ρ l=vA v->
    ∃r,v= .int k r/\((l.map a.eval).foldlM (if big then Builtin.max2 else Builtin.min2)<|.int k acc).run P w= .ok (.int k r) w:=by
  intro l
  induction l with
  |nil=>intro acc v _ hv;cases hv;exact⟨acc,rfl,dE⟩
  |cons y l ih=>
    intro acc v hb hv;simp only[E0d]at hv;split at hv;rename_i k' b hye;split at hv;rename_i hk;subst hk;obtain⟨r,e1,e2⟩:=ih _ v (λx hx=>hb x<|aq _ hx) hv;refine⟨r,e1, ?_⟩;have hry:=a0i hs (hb y<|aB ..) hye;generalize hvy:a.eval y=vy at hry;cases hry;simp only[ao,List.foldlM_cons,hvy];cases big;simp only[aF,if_false]at e2⊢;simpa [Builtin.min2]using e2;simp only[if_true]at e2⊢;simpa [Builtin.max2]using e2;cases hv;cases hv
theorem x0y(h:HInv w K D H)(hs:Slots n w K D ρ a.tmps)(ho:o.op= .call c){big:Bool}(hcal:c.callee= .builtin (if big then .max else .min)){r:List Operand}(ha:c.args.toList=x::r)(hb: ∀x∈c.args,Operand.inB n x=jB)
    {k:IntKind} {ax:Int} (hxe:a0B ρ x=vA (.int k ax)) {v:SV} (hv:E0d big k ax ρ r=vA v):q0R P w K D H o a v H:=by
  have ha':c.args=(x::r).toArray:=by rw[<-ha]
  have hb': ∀y∈x::r,Operand.inB n y=true:=λy hy=>hb y (by rw[ha'];simpa using hy)
  obtain⟨z,e1,e2⟩:=J0Q (P:=P) hs r ax v (λy hy=>hb' y<|aq _ hy) hv;subst e1;have hrx:=a0i hs (hb' x<|aB ..) hxe;generalize hvx:a.eval x=vx at hrx;cases hrx;refine g0h h (v:= .int k z) ?_<|.int _ _;unfold execOp;cases big;simp only[aF,if_false]at e2 hcal;simp only[ho,resolve,hcal,ha',invoke,builtin,zD,vE,vC,cg,ao,Builtin.min_,hvx,e2];simp only[if_true]at e2 hcal;simp only[ho,resolve,hcal,ha',invoke,builtin,zD,vE,vC,cg,ao,Builtin.max_,hvx,e2]
end
end
section
variable [Inhabited GT]
variable {P : Program}{w : World}{K : Nat -> Nat}{D : DM}{H : a0e}{n : Nat}{ρ : Env}{a : Act}{o : Oper}{idx : Nat}
def r0x(d:Nat)(e:TypeId)(n:Nat)(xs ys:Array Value):List Nat->Sem Bool
  | []=>pure jB
  |i::l=>do
    let a<-part e xs (i*n)
    let b<-part e ys (i*n)
    let r<-vI d e a b
    if(!r)=jB then pure oA else r0x d e n xs ys l
theorem q0Y(d:Nat)(t e:TypeId)(len:Nat)(xs ys:Array Value)(ht:P.underlying t=vA (.array len e))(hk:0<P.cellsOf e):
    (vI (d+1) t (.agg xs)<|.agg ys).run P w=(r0x d e (P.cellsOf e) xs ys<|wH 0 len).run P w:=by
  simp only[vI,zD,run_underlying ht,vC,b0N hk];rw[Std.Legacy.Range.forIn_eq_forIn_range'];simp only[Std.Legacy.Range.size,bJ,Nat.add_sub_cancel,Nat.div_one];generalize wH 0 len=l
  induction l generalizing w with
  |nil=>simp[r0x]
  |cons i l ih=>
    simp only[List.forIn_cons,r0x,zD,Sem.run_ite];generalize(part e xs<|i*P.cellsOf e).run P w=r1
    cases r1 with
    |ok a w1=>
      simp only[vC];generalize(part e ys<|i*P.cellsOf e).run P w1=r2
      cases r2 with
      |ok b w2=>
        simp only[vC];generalize(vI d e a b).run P w2=r3
        cases r3 with
        |ok r w3=>
          cases r;simp only[vC,Bool.not_false,if_true,vE];simp only[vC,Bool.not_true,aF,if_false,vE];exact ih
        |halt x w3=>simp[oE]
      |halt x w2=>simp[oE]
    |halt x w1=>simp[oE]
def K0q{d':Nat}{f:TypeId->SV->SV->Option Bool}(hf: ∀t a b r,f t a b=vA r-> ∀u v,Rep w K D u a->Rep w K D v b->(vI d' t u v).run P w= .ok r w)
 {xs ys:List SV} (hl:xs.length=us.length) (hl':ys.length=vs.length) (h1: ∀v∈us,v.oneCell'=jB) (h1': ∀v∈vs,v.oneCell'=jB)
    (hr: ∀(j:Nat) (v:Value) (c:SV),us[j]?=vA v->xs[j]?=vA c->Rep w K D v c) (hr': ∀(j:Nat) (v:Value) (c:SV),vs[j]?=vA v->ys[j]?=vA c->Rep w K D v c):
    ∀(fs:List Field) (r:Bool),M0P P f xs ys fs=vA r->(Op.eqFields d' us.toArray vs.toArray fs).run P w= .ok r w:=by
  intro fs
  induction fs with
  |nil=>intro r h;cases h;rfl
  |cons fd fs ih=>
    intro r h;unfold M0P at h;unfold Op.eqFields;split at h;rename_i hn;rw[vB hn];split at h;rename_i a b ha hb;split at h;rename_i p q hp hq;cases h;obtain⟨u,hu,hur⟩:=e0b (P:=P) hl h1 hr ha;obtain⟨v,hv,hvr⟩:=e0b (P:=P) hl' h1' hr' hb;simp only[zD,hu,vC,hv,hf _ _ _ _ hp u v hur hvr,Sem.run_ite]
    cases p with
    |false=>simp
    |true=>simp[ih q hq]
    cases h;cases h;rename_i hn;rw[yB hn];exact ih r h
def K0r{d' e:Nat}{f:SV->SV->Option Bool}(hf: ∀a b r,f a b=vA r-> ∀u v,Rep w K D u a->Rep w K D v b->(vI d' e u v).run P w= .ok r w)
 {xs ys:List SV} (hl:xs.length=us.length) (hl':ys.length=vs.length) (h1: ∀v∈us,v.oneCell'=jB) (h1': ∀v∈vs,v.oneCell'=jB)
    (hr: ∀(j:Nat) (v:Value) (c:SV),us[j]?=vA v->xs[j]?=vA c->Rep w K D v c) (hr': ∀(j:Nat) (v:Value) (c:SV),vs[j]?=vA v->ys[j]?=vA c->Rep w K D v c):
    ∀(m i:Nat) (r:Bool),N0D P f e (P.cellsOf e) xs ys m i=vA r->(r0x d' e (P.cellsOf e) us.toArray vs.toArray<|wH i m).run P w= .ok r w:=by
  intro m
  induction m with
  |zero=>intro i r h;cases h;rfl
  |succ m ih=>
    intro i r h;unfold N0D at h;rw[List.range'_succ];unfold r0x;split at h;rename_i a b ha hb;split at h;rename_i p q hp hq;cases h;obtain⟨u,hu,hur⟩:=e0b (P:=P) hl h1 hr ha;obtain⟨v,hv,hvr⟩:=e0b (P:=P) hl' h1' hr' hb;simp only[zD,hu,vC,hv,hf _ _ _ hp u v hur hvr,Sem.run_ite]
    cases p with
    |false=>simp
    |true=>simp[ih (i+1) q hq]
    cases h;cases h
theorem F0b: ∀(d:Nat) (t:TypeId) (a b:SV) (r:Bool),eqS P d t a b=vA r-> ∀u v,Rep w K D u a->Rep w K D v b-> ∀d',d<=d'->(vI d' t u v).run P w= .ok r w:=by
  intro d
  induction d with
  |zero=>intro t a b r h;cases h
  |succ d ih=>
    intro t a b r h u v hu hv d' hd
    obtain⟨d',rfl⟩: ∃q,d'=q+1:=⟨d'-1,dA⟩
    unfold eqS at h;split at h;rename_i x y ht;cases hu;cases hv;cases h;exact run_equalIn_bool w d' t x y ht
    · rename_i kk k x k' y ht
      split at h<;>cases h
      cases hu;cases hv;rename_i hk;subst hk;rw[run_equalIn_int w d' t k kk x y ht];congr 1
    rename_i x y ht;cases h;cases hu;cases hv;rw[run_equalIn_string w d' t _ _ ht];simp[l0W];rename_i fs xs ys ht;split at h;rename_i hp
    cases hu with
    |agg us _ hl h1 hr=>
      cases hv with
      |agg vs _ hl' h1' hr'=>
        have hfo:P.fieldsOf t=fs:=by unfold Program.fieldsOf;rw[ht]
        rw[run_equalIn_struct w d' t _ _ (by rw[hfo];exact ht) hp,hfo];exact K0q (λt a b r hh u v hu hv=>ih t a b r hh u v hu hv d' dA) hl hl' h1 h1' hr hr' fs.toList r h
    cases h;rename_i len e xs ys ht;split at h;rename_i hk
    cases hu with
    |agg us _ hl h1 hr=>
      cases hv with
      |agg vs _ hl' h1' hr'=>
        rw[q0Y d' t e len _ _ ht hk];exact K0r (λa b r hh u v hu hv=>ih e a b r hh u v hu hv d' dA) hl hl' h1 h1' hr hr' len 0 r h
    cases h;cases h
theorem M0Q(h:HInv w K D H)(hs:Slots n w K D ρ a.tmps)(ho:o.op= .binOp op t x y ty)(hx:Operand.inB n x=jB)(hy:Operand.inB n y=jB){ef:Eff}
    (he:eqE P op t (a0B ρ x) (a0B ρ y)=vA ef):q0R P w K D H o a ef.v (b0a H ef.wr):=by
  have hex:execOp a.eval o=(do pure (Next.value<|<-(do eqGuard op t x y (a.eval x) (a.eval y);binOp op t (a.eval x) (a.eval y):Sem Value))):=by unfold execOp;rw[ho]
  unfold eqE at he;split at he;rename_i xs ys hxe hye;have hrx:=a0i hs hx hxe;have hry:=a0i hs hy hye;split at he;rename_i hg
  cases hq:eqS P 9 t (.agg xs) (.agg ys)with
  |none=>rw[hq]at he;cases he
  |some b=>
    rw[hq]at he;cases he;have hrun:=F0b 9 t _ _ b hq _ _ hrx hry 10000 dA;generalize hvx:a.eval x=vx at hrx hrun;generalize hvy:a.eval y=vy at hry hrun
    cases hrx with
    |agg us _ hl h1 hr=>
      cases hry with
      |agg vs _ hl' h1' hr'=>
        refine g0h h (v:= .bool b) ?_<|.bool b;rw[hex,hvx,hvy];refine b0k ?_;simp only[zD,run_eqGuard_agg w .eql t x y _ _ hg,vC,run_eql_struct,hrun,vE]
  cases he;rename_i xs ys hxe hye;have hrx:=a0i hs hx hxe;have hry:=a0i hs hy hye;split at he;rename_i hg
  cases hq:eqS P 9 t (.agg xs) (.agg ys)with
  |none=>rw[hq]at he;cases he
  |some b=>
    rw[hq]at he;cases he;have hrun:=F0b 9 t _ _ b hq _ _ hrx hry 10000 dA;generalize hvx:a.eval x=vx at hrx hrun;generalize hvy:a.eval y=vy at hry hrun
    cases hrx with
    |agg us _ hl h1 hr=>
      cases hry with
      |agg vs _ hl' h1' hr'=>
        refine g0h h (v:= .bool<|!b) ?_<|.bool<|!b;rw[hex,hvx,hvy];refine b0k ?_;simp only[zD,run_eqGuard_agg w .neq t x y _ _ hg,vC,run_neq_struct,hrun,vE]
  cases he;cases he
def x0W(w:World)(b off c:Nat)(h:c≠b):(w.freeze ⟨b,off,none⟩ 1).heap[c]?=w.heap[c]?:=by
  unfold oK;rw[yB dG];simp only[cI];rw[yB<|Ne.symm h]
def E0P(w:World)(b off:Nat){arr:Array Value}(h:w.heap[b]?=vA (.cells arr e (0,0))):(w.freeze ⟨b,off,none⟩ 1).heap[b]?=vA (.cells arr e (off,off+1)):=by
  unfold oK;rw[yB dG];simp only[cI,vB,h];rfl
def z0q(w:World)(b off:Nat):(w.freeze ⟨b,off,none⟩ 1).heap.size=w.heap.size:=by
  unfold oK;rw[yB dG];simp
theorem z0C(h:HInv w K D H)(hs:Slots n w K D ρ a.tmps)(ho:o.op= .convert src dst x)(hx:Operand.inB n x=jB)(hsd:src=dst)(hu:P.underlying src=vA (.slice e))
    (he:P.underlying e=vA (.int .u8)) {cs:List SV} (hxe:a0B ρ x=vA (.vc i)) (hH:H[i]?=vA (.vec nn k e' cs)) (hn:0<nn):q0R P w K D H o a (.lst nn k cs) (H.set i .gone):=by
  subst hsd;have hex:execOp a.eval o=(do pure (Next.value<|<-convert src src (a.eval x))):=by unfold execOp;rw[ho]
  have hrx:=a0i hs hx hxe;generalize hvx:a.eval x=vx at hrx;have hil:i<H.length:=(ab.1 hH).1;obtain⟨hp,hent⟩:=h.ent i _ hH;rcases hent with⟨h1,h2,h3⟩|⟨b,c,vs,rest,h1,h2,h3,h4,h5,h6,h7,h8,h9⟩;omega
  have hvv:vx= .slice (vA ⟨b,0,none⟩) nn c:=by
    cases hrx with
    |vcn _ ad hd=>rw[h1]at hd;cases hd
    |vc _ b' c' n' hd=>rw[h1]at hd;cases hd;rfl
  subst hvv
  have hrun:(convert src src<|.slice (vA ⟨b,0,none⟩) nn c).run P w= .ok (.slice (vA ⟨b,0,none⟩) nn c) (w.freeze ⟨b,(vs++rest).toArray.size,none⟩ 1):=by
    have hsh:w.shape? b=vA (e',(vs++rest).toArray.size):=by unfold World.shape?;rw[h6]
    simp[convert,run_underlying hu,run_underlying he,markStringish,hsh]
  generalize hw':w.freeze ⟨b,(vs++rest).toArray.size,none⟩ 1=w' at hrun;have hb':w'.heap[b]?=vA (.cells (vs++rest).toArray e' ((vs++rest).toArray.size,(vs++rest).toArray.size+1)):=by rw[<-hw'];exact E0P w b _ h6
  have hoth: ∀c,c≠b->w'.heap[c]?=w.heap[c]?:=λc hc=>by rw[<-hw'];exact x0W w b _ c hc
  have hsz:w'.heap.size=w.heap.size:=by rw[<-hw'];exact z0q w b _
  have hos:w'.os=w.os:=by rw[<-hw'];unfold oK;rw[yB dG]
  have htp:w'.tape=w.tape:=by rw[<-hw'];unfold oK;rw[yB dG]
  have hot:w'.output=w.output:=by rw[<-hw'];unfold oK;rw[yB dG]
  have hcell: ∀b' j,w'.cell? ⟨b',j,none⟩=w.cell? ⟨b',j,none⟩:=λb' j=>by
    unfold World.cell?;by_cases hbb:b'=b;subst hbb;simp only[hb',h6];simp only[hoth b' hbb]
  have hmono: ∀b',K b'<=(if b'=b then nn*k else K b'):=λb'=>by
    split;rename_i e1;subst e1;omega;exact ak _
  have hm: ∀v s,Rep w K D v s->Rep w' (λb'=>if b'=b then nn*k else K b') D v s:=λv s hr=>hr.mono (λ_ _ _=>hcell _ _) hmono (λ_ _ e=>e)
  have hmemi:Mem D H b:=⟨i,_,c,nn,hH,rfl,h1⟩
  have hget: ∀j en,(H.set i .gone)[j]?=vA en->(j=i/\en= .gone)\/(j≠i/\H[j]?=vA en):=by
    intro j en hj;by_cases hji:i=j;subst hji;rw[cB hil]at hj;cases hj;exact .inl ⟨rfl,rfl⟩;rw[cq hji]at hj;exact .inr ⟨Ne.symm hji,hj⟩
  have hmem: ∀b,Mem D (H.set i .gone) b->Mem D H b:=by
    rintro b ⟨j,en,c,n',q1,q2,q3⟩;rcases hget j en q1 with⟨_,rfl⟩|⟨_,g1⟩;cases q2;exact⟨j,en,c,n',g1,q2,q3⟩
  have hrow:=g0s h6 h9;refine⟨_,w', .inl<|by rw[hex];exact b0k<|by rw[hvx];exact hrun,λb'=>if b'=b then nn*k else K b',D, ?_, ?_, ?_⟩;refine⟨hos,htp,hot,dA,λb' hb1 hb2=>hoth b' λ(e1:b'=b)=>hb2<|e1▸hmemi,λ_ _ _=>hcell _ _,hmono,λb' hb1 hb2=>yB λ(e1:b'=b)=>hb2<|e1▸hmemi,λ_ _ e=>e,λb' hb1=> .inl<|hmem b' hb1⟩;refine⟨λj hj=>h.dom j<|by simpa using hj,λj en hj=> ?_,λj j' en en' b1 c1 n1 c2 n2 hj hj' hl hl' hdj hdj'=> ?_,λb1 hb1=> ?_⟩;rcases hget j en hj with⟨_,rfl⟩|⟨hne,g1⟩;trivial;refine(h.ent j en g1).keep hm rfl (λb1 c1 n1 hl hdj=> ?_)
  have hbn:b1≠b:=λe1=>by
    subst e1;exact hne (h.inj j i en _ b1 c1 n1 c nn g1 hH hl rfl hdj h1)
  exact⟨hoth b1 hbn,yB hbn⟩;rcases hget j en hj with⟨_,rfl⟩|⟨_,g1⟩;cases hl;rcases hget j' en' hj' with⟨_,rfl⟩|⟨_,g1'⟩;cases hl';exact h.inj j j' en en' b1 c1 n1 c2 n2 g1 g1' hl hl' hdj hdj';rw[hsz];by_cases hbb:b1=b;subst hbb;exact(al.1 h6).1;rw[yB hbb]at hb1;exact h.kw b1 hb1;exact .lst k b 0 nn c vs cs h3 h7 h9.len h4 (λj v hj=>(hcell _ _).trans<|hrow.mem j v hj) (by simp[h7]) h9.one hp λj v c hv hc=>hm _ _<|h9.rep j v c hv hc
end
section
variable [Inhabited GT]
section
variable {P : Program}{n : Nat}{w : World}{K : Nat -> Nat}{D : DM}{H : a0e}{ρ : Env}{a : Act}{o : Oper}{idx : Nat}
theorem t0B{k:SV}(h:t0C P kt k=jB)(hr:Rep w K D v k): ∃d,P.underlying kt=vA d/\MapKept.IsKey d v/\ ∀(e:Value) (c:SV),Rep w K D e c-> ∀b,k0K k c=vA b->yI d v e=vA b:=by
  unfold t0C at h
  split at h
  · rename_i q q' x hu
    simp only[decide_eq_true_eq]at h;subst h;cases hr;refine⟨_,hu,rfl,λe c hc b hb=> ?_⟩;cases hc<;>simp only[k0K]at hb<;>first|(cases hb;done)|skip
    rename_i q2 y;by_cases hq:q=q2;subst hq;rw[vB rfl]at hb;simpa [yI]using hb;rw[yB hq]at hb;cases hb
  · rename_i x hu
    cases hr with
    |str sb=>
      refine⟨_,hu,trivial,λe c hc b hb=> ?_⟩;cases hc<;>simp only[k0K]at hb<;>first|(cases hb;done)|skip
      rename_i sb2;simp only[aj]at hb;subst hb;simp only[yI,aj];rw[Bool.eq_iff_iff,MapKept.bytes_beq];simp only[beq_iff_eq];constructor;intro e;rw[e];intro e;exact ByteArray.ext (bh.1 e)
  · rename_i x hu
    cases hr;refine⟨_,hu,trivial,λe c hc b hb=> ?_⟩;cases hc<;>simp only[k0K]at hb<;>first|(cases hb;done)|skip
    simpa [yI]using hb
  cases h
def E0R{d:TypeDesc}{v:Value}{k:SV}(hs: ∀(e:Value) (c:SV),Rep w K D e c-> ∀b,k0K k c=vA b->yI d v e=vA b): ∀(mes:List MapEntry) (es:List<|SV×SV) (q:Nat),es.length=mes.length->
    (∀(j:Nat) (me:MapEntry) (kv:SV×SV),mes[j]?=vA me->es[j]?=vA kv->Rep w K D me.key kv.1/\Rep w K D me.val kv.2)->
    (g0L es k=vA none->jG d v mes q=vA none)/\ ∀s,g0L es k=vA (vA s)-> ∃i x,jG d v mes q=vA (vA (i,x))/\Rep w K D x s
  | [],[],q,_,_=>⟨λ_=>rfl,λs h=>by cases h⟩
  | [],_::_,q,h,_=>by simp at h
  |_::_,[],q,h,_=>by simp at h
  |me::mes,kv::es,q,hl,hr=>by
    obtain⟨r1,r2⟩:=hr 0 me kv rfl rfl;obtain⟨i1,i2⟩:=E0R hs mes es (q+1) (by simpa using hl) (λj me kv h1 h2=>hr (j+1) me kv (by simpa using h1)<|by simpa using h2)
    cases hb:k0K k kv.1 with
    |none=>exact⟨λh=>(by simp[g0L,hb]at h),λs h=>by simp[g0L,hb]at h⟩
    |some b=>
      have hsn:=hs _ _ r1 b hb
      cases b with
      |true=>
        refine⟨λh=>(by simp[g0L,hb]at h),λs h=> ?_⟩;simp only[g0L,hb,aj]at h;subst h;exact⟨q,me.val,by simp[jG,hsn],r2⟩
      |false=>
        refine⟨λh=> ?_,λs h=> ?_⟩;simp only[g0L,hb]at h;simp only[jG,hsn];exact i1 h;simp only[g0L,hb]at h;simp only[jG,hsn];exact i2 s h
def E0T{d:TypeDesc}{v:Value}{k:SV}(y:SV)(hs: ∀(e:Value) (c:SV),Rep w K D e c-> ∀b,k0K k c=vA b->yI d v e=vA b): ∀(mes:List MapEntry) (es:List<|SV×SV) (q:Nat),es.length=mes.length->
    (∀(j:Nat) (me:MapEntry) (kv:SV×SV),mes[j]?=vA me->es[j]?=vA kv->Rep w K D me.key kv.1/\Rep w K D me.val kv.2)->
    ∀s,g0L es k=vA (vA s)-> ∃j me kv,mes[j]?=vA me/\es[j]?=vA kv/\k0K k kv.1=vA jB/\jG d v mes q=vA (vA (q+j,me.val))/\G0g es k y=es.set j (kv.1,y)
  | [],[],q,_,_,s,h=>by cases h
  | [],_::_,q,h,_,_,_=>by simp at h
  |_::_,[],q,h,_,_,_=>by simp at h
  |me::mes,kv::es,q,hl,hr,s,h=>by
    obtain⟨r1,r2⟩:=hr 0 me kv rfl rfl
    cases hb:k0K k kv.1 with
    |none=>simp[g0L,hb]at h
    |some b=>
      have hsn:=hs _ _ r1 b hb
      cases b with
      |true=>exact⟨0,me,kv,rfl,rfl,hb,by simp[jG,hsn],by simp[G0g,hb]⟩
      |false=>
        simp only[g0L,hb]at h;obtain⟨j,me',kv',h1,h2,h3,h4,h5⟩:=E0T y hs mes es (q+1) (by simpa using hl) (λj me kv h1 h2=>hr (j+1) me kv (by simpa using h1)<|by simpa using h2) s h;refine⟨j+1,me',kv',by simpa using h1,by simpa using h2,h3, ?_, ?_⟩;simp only[jG,hsn,h4];congr 3;omega;simp only[G0g,hb,h5,cy]
theorem F0s: ∀(d:Nat) (t:TypeId) (a:SV),y0n P d t a=jB-> ∀v,Rep w K D v a-> ∀(e:Bool) (n:Nat),d<=n->(wI e n t v).run P w= .ok () w:=by
  intro d
  induction d with
  |zero=>intro t a h;cases h
  |succ d ih=>
    intro t a h v hv e n hn
    obtain⟨n,rfl⟩: ∃q,n=q+1:=⟨n-1,dA⟩
    unfold y0n at h;split at h;rename_i fs cs hu
    cases hv with
    |agg vs _ hl h1 hr=>
      unfold wI;simp only[zD,run_underlying hu,vC];rw[<-Array.forIn_toList];generalize fs.toList=l at h;clear hu
      induction l with
      |nil=>simp
      |cons f l ihl=>
        simp only[aL,aa,bQ,beq_iff_eq]at h;simp only[List.forIn_cons,zD,Sem.run_ite]
        by_cases hf : f.name = "_"
        rw[yB<|by simp[hf]];simp only[vE,vC];exact ihl h.2;rw[vB<|by simpa using hf];rcases h.1 with h0|h0;exact absurd h0 hf;split at h0;rename_i b hb;obtain⟨u,hu,hur⟩:=e0b (P:=P) hl h1 hr hb;simp only[hu,vC,ih _ _ h0 u hur e n dA,vE];exact ihl h.2;cases h0
    rename_i len el cs hu
    cases hv with
    |agg vs _ hl h1 hr=>
      simp only[aa,decide_eq_true_eq]at h;obtain⟨hk,h⟩:=h;unfold wI;simp only[zD,run_underlying hu,vC];rw[Std.Legacy.Range.forIn_eq_forIn_range'];simp only[Std.Legacy.Range.size,bJ,Nat.add_sub_cancel,Nat.div_one];generalize wH 0 len=l at h;clear hu
      induction l with
      |nil=>simp
      |cons i l ihl=>
        simp only[aL,aa]at h;simp only[List.forIn_cons,zD,b0N hk,vC];have h0:=h.1;split at h0;rename_i b hb;obtain⟨u,hu,hur⟩:=e0b (P:=P) hl h1 hr hb;simp only[hu,vC,ih _ _ h0 u hur e n dA,vE];exact ihl h.2;cases h0
    rename_i q q' x hu;cases hv;unfold wI;simp[run_underlying hu,oE];rename_i x hu;cases hv;unfold wI;simp[run_underlying hu,oE];rename_i x hu;cases hv;unfold wI;simp[run_underlying hu,oE];cases h
theorem A0I{kt:TypeId}{v:Value}{k:SV}(hk:Rep w K D v k): ∀(mes:List MapEntry) (es:List<|SV×SV) (q:Nat),es.length=mes.length->
    (∀(j:Nat) (me:MapEntry) (kv:SV×SV),mes[j]?=vA me->es[j]?=vA kv->Rep w K D me.key kv.1/\Rep w K D me.val kv.2)->
    (m0z P kt k es=vA none->(zH kt v mes q).run P w= .ok none w)/\ ∀s,m0z P kt k es=vA (vA s)-> ∃i x,(zH kt v mes q).run P w= .ok (vA (i,x)) w/\Rep w K D x s
  | [],[],q,_,_=>⟨λ_=>rfl,λs h=>by cases h⟩
  | [],_::_,q,h,_=>by simp at h
  |_::_,[],q,h,_=>by simp at h
  |me::mes,kv::es,q,hl,hr=>by
    obtain⟨r1,r2⟩:=hr 0 me kv rfl rfl;obtain⟨i1,i2⟩:=A0I hk mes es (q+1) (by simpa using hl) (λj me kv h1 h2=>hr (j+1) me kv (by simpa using h1)<|by simpa using h2)
    cases hb:eqS P 9 kt k kv.1 with
    |none=>exact⟨λh=>(by simp[m0z,hb]at h),λs h=>by simp[m0z,hb]at h⟩
    |some b=>
      have hsn:(Op.equal kt v me.key).run P w= .ok b w:=F0b 9 kt _ _ b hb _ _ hk r1 10000 dA
      cases b with
      |true=>
        refine⟨λh=>(by simp[m0z,hb]at h),λs h=> ?_⟩;simp only[m0z,hb,aj]at h;subst h;exact⟨q,me.val,by simp[zH,hsn],r2⟩
      |false=>
        refine⟨λh=> ?_,λs h=> ?_⟩;simp only[m0z,hb]at h;have:=i1 h;simp[zH,hsn,this];simp only[m0z,hb]at h;obtain⟨i,x,h1,h2⟩:=i2 s h;exact⟨i,x,by simp[zH,hsn,h1],h2⟩
def e0L{k:SV}(h0:t0C P kt k=jB)(hr:Rep w K D v k)(hf: ∀es,p0u P kt es k=g0L es k):(∀e,(wI e 10000 kt v).run P w= .ok () w)/\
    ∀(mes:List MapEntry) (es:List<|SV×SV),es.length=mes.length->(∀(j:Nat) (me:MapEntry) (kv:SV×SV),mes[j]?=vA me->es[j]?=vA kv->Rep w K D me.key kv.1/\Rep w K D me.val kv.2)->
      (p0u P kt es k=vA none->(oH kt v mes).run P w= .ok none w)/\ ∀s,p0u P kt es k=vA (vA s)-> ∃i x,(oH kt v mes).run P w= .ok (vA (i,x)) w/\Rep w K D x s:=by
  obtain⟨d,hdu,hik,hsm⟩:=t0B (P:=P) h0 hr;refine⟨λe=>MapKept.run_checkKey hdu hik e 9999,λmes es hl hre=> ?_⟩;obtain⟨f1,f2⟩:=E0R hsm mes es 0 hl hre;rw[hf es];refine⟨λhn=>MapKept.run_findKey hdu<|f1 hn,λs hs=> ?_⟩;obtain⟨i,x,h1,h2⟩:=f2 s hs;exact⟨i,x,MapKept.run_findKey hdu h1,h2⟩
theorem E0A{k:SV}(h:t0D P kt k=jB)(hr:Rep w K D v k):(∀e,(wI e 10000 kt v).run P w= .ok () w)/\
    ∀(mes:List MapEntry) (es:List<|SV×SV),es.length=mes.length->(∀(j:Nat) (me:MapEntry) (kv:SV×SV),mes[j]?=vA me->es[j]?=vA kv->Rep w K D me.key kv.1/\Rep w K D me.val kv.2)->
      (p0u P kt es k=vA none->(oH kt v mes).run P w= .ok none w)/\ ∀s,p0u P kt es k=vA (vA s)-> ∃i x,(oH kt v mes).run P w= .ok (vA (i,x)) w/\Rep w K D x s:=by
  cases k with
  |agg cs=>
    simp only[t0D,aa]at h;obtain⟨hag,hck⟩:=h;refine⟨λe=>F0s 9 kt _ hck v hr e 10000 dA,λmes es hl hre=> ?_⟩;obtain⟨f1,f2⟩:=A0I (P:=P) (kt:=kt) hr mes es 0 hl hre
    have hfk:(oH kt v mes).run P w=(zH kt v mes 0).run P w:=by
      unfold I0q at hag;split at hag;rename_i fs hu
      cases mes with
      |nil=>simp[oH,run_underlying hu,oE,jG,zH]
      |cons me mes=>simp[oH,run_underlying hu,oE,jG,yI]
      rename_i ln el hu
      cases mes with
      |nil=>simp[oH,run_underlying hu,oE,jG,zH]
      |cons me mes=>simp[oH,run_underlying hu,oE,jG,yI]
      cases hag
    rw[hfk];exact⟨f1,f2⟩
  |undef=>exact e0L h hr (λ_=>rfl)
  |bool b=>exact e0L h hr (λ_=>rfl)
  |int q x=>exact e0L h hr (λ_=>rfl)
  |str x=>exact e0L h hr (λ_=>rfl)
  |nl=>exact e0L h hr (λ_=>rfl)
  |lst a b c=>exact e0L h hr (λ_=>rfl)
  |ep cs=>exact e0L h hr (λ_=>rfl)
  |tup cs=>exact e0L h hr (λ_=>rfl)
  |ptr a b=>exact e0L h hr (λ_=>rfl)
  |vc a=>exact e0L h hr (λ_=>rfl)
  |sl a b c d=>exact e0L h hr (λ_=>rfl)
  |mp a=>exact e0L h hr (λ_=>rfl)
  |fn f a b=>exact e0L h hr (λ_=>rfl)
  |nilp=>exact e0L h hr (λ_=>rfl)
  |yld a=>exact e0L h hr λ_=>rfl
def u0A(h:Rep w K D v<|.mp i): ∃r c m,v= .map (vA r)/\D i=vA (.at r c m):=by
  cases h with
  |mp _ r c m hd=>exact⟨r,c,m,rfl,hd⟩
theorem u0I(h:HInv w K D H)(ho:o.op= .makeMap t none)(hidx:CanNew H idx):q0R P w K D H o a (.mp idx) (h0Y H idx<|.map []):=by
  have hold: ∀b,b<w.heap.size->(w.alloc<|.map #[] 0).heap[b]?=w.heap[b]?:=λb hb=>by show(w.heap.push _)[b]?=_;rw[bS,yB dA]
  have hK0:K w.heap.size=0:=by
    rcases bB (K w.heap.size)with h0|h0;exact h0;have:=h.kw w.heap.size dA;omega
  obtain⟨g,hi⟩:=place (w':=w.alloc<|.map #[] 0) (en:= .map []) (b:=w.heap.size) (c:=0) (m:=0) h hidx (x:=none) dE (.inl<|ak _) rfl rfl rfl dE (λb' _ hlt=>hold b' hlt)
    (λhr=>⟨_, #[],0,by simp[g0y],hK0,(by show(w.heap.push _)[w.heap.size]?=_;simp),rfl,⟨rfl,λj me hm=>by simp at hm⟩,λj me kv hm _=>by simp at hm⟩)
  rw[g0Z]at g hi;refine⟨.map<|vA w.heap.size,w.alloc<|.map #[] 0, .inl ?_,⟨K,_,g,hi, .mp idx w.heap.size 0 0<|by simp[g0y]⟩⟩;unfold execOp;rw[ho];rfl
theorem x0S(h:HInv w K D H)(hs:Slots n w K D ρ a.tmps){z:Operand}(ho:o.op= .insert t x y z\/o.op= .mapUpdate t x y z)(hx:Operand.inB n x=jB)(hy:Operand.inB n y=jB)(hz:Operand.inB n z=jB)
    {ef:Eff} (he:l0P P t (a0B ρ x) (a0B ρ y) (a0B ρ z) H=vA ef):q0R P w K D H o a ef.v (b0a H ef.wr):=by
  unfold l0P at he
  split at he
  · rename_i kt et i k v hu hxe hye hze
    split at he
    · rename_i es hH
      split at he
      · rename_i hkey
        split at he
        case h_3=>cases he
        case h_2 hfn=>
          have hint: ∃kd x',k= .int kd x':=by cases k<;>first|(cases he;done)|exact⟨_,_,rfl⟩
          obtain⟨kd,x',rfl⟩:=hint;cases he;obtain⟨r,c,m,hvx,hd⟩:=u0A<|a0i hs hx hxe;obtain⟨r',mes,clock,h1,h2,h3,h4,hB,h5⟩:=h.ent i _ hH;rw[h1]at hd;cases hd;have hky:=a0i hs hy hye;have hvz:=a0i hs hz hze;obtain⟨d,hdu,hik,hsm⟩:=t0B (P:=P) hkey hky;have hck:=MapKept.run_checkKey (w:=w) hdu hik oA 9999;obtain⟨j,me,kv,m1,m2,m3,m4,m5⟩:=E0T v hsm mes.toList es 0 (by simpa using h4) (λj me kv hm hk=>h5 j me kv (by simpa using hm) hk) _ hfn;have hkeep:=MapKept.run_keyThatStays (P:=P) (w:=w) hik;have hfind:=MapKept.run_findKey (w:=w) hdu m4;obtain⟨kv1,kv2⟩:=kv;obtain⟨e1,e2⟩:=h5 j me _ (by simpa using m1) m2;simp only at e1 e2 m3;have hlt:r<w.heap.size:=(al.1 h3).1;generalize hkv:a.eval y=vk at hky hck hfind hkeep hik hsm m4;generalize hvv:a.eval z=vv at hvz
          have hkk: ∀mk,Rep w K D mk kv1->mk=vk/\kv1= .int kd x':=by
            intro mk e1;cases hky;cases e1<;>simp only[k0K]at m3<;>first|(cases m3;done)|skip
            rename_i q2 y2;by_cases hq:kd=q2;subst hq;rw[vB rfl]at m3;have:x'=y2:=by simpa using m3
            subst this;exact⟨rfl,rfl⟩;rw[yB hq]at m3;cases m3
          obtain⟨hk1,hk2⟩:=hkk _ e1;have hmj:mes[j]?=vA me:=by simpa using m1
          have hrun:(Instr.mapUpdate t (a.eval x) (a.eval y)<|a.eval z).run P w= .ok () { w with heap:=w.heap.setIfInBounds r (.map (mes.modify j λe=> { e with key:=vk,val:=vv }) clock) } :=by
            rw[hvx,hkv,hvv];simp[Instr.mapUpdate,run_underlying hu,MapKept.run_getObj_map h3,hck,hfind,hmj,hk1,hkeep,MapKept.run_setObj_map _ h3,oE]
          obtain⟨g,hiv⟩:=modify (w':= { w with heap:=w.heap.setIfInBounds r (.map (mes.modify j λe=> { e with key:=vk,val:=vv }) clock) }) (en':= .map<|G0g es (.int kd x') v) h hH rfl rfl h1 rfl rfl rfl dE
            (λb' hb'=>by simp[Ne.symm hb'])
            (λhr=>⟨r,mes.modify j λe=> { e with key:=vk,val:=vv },clock,h1,h2,by simp[hlt],by rw[m5];simpa using h4,⟨by simp[hB.1],λq me' hm=>by
              rw[cI]at hm;by_cases hj:j=q;subst hj;rw[vB rfl,hmj]at hm;simp only[aZ,aj]at hm;subst hm;exact hB.2 _ me hmj;rw[yB hj]at hm
              exact hB.2 q me' hm⟩,λq me' kv' hm hk=>by
              rw[cI]at hm;rw[m5,aR]at hk;by_cases hj:j=q;subst hj;rw[vB rfl,hmj]at hm;simp only[aZ,aj]at hm;subst hm;rw[vB rfl,vB (ab.1 m2).1]at hk;simp only[aj]at hk;subst hk;rw[hk2];exact⟨hr _ _ hky,hr _ _ hvz⟩;rw[yB hj]at hm hk
              exact⟨hr _ _ (h5 q me' kv' hm hk).1,hr _ _ (h5 q me' kv' hm hk).2⟩⟩)
          refine⟨undef, { w with heap:=w.heap.setIfInBounds r (.map (mes.modify j λe=> { e with key:=vk,val:=vv }) clock) }, .inr ⟨?_,rfl⟩, ?_⟩
          · unfold execOp
            rcases ho with ho|ho<;>rw[ho]<;>simp[hrun]
          simp only[b0a,h0Y,vB (ab.1 hH).1];exact⟨K,D,g,hiv, .undef _⟩
        rename_i hfn;cases he;obtain⟨r,c,m,hvx,hd⟩:=u0A<|a0i hs hx hxe;obtain⟨r',mes,clock,h1,h2,h3,h4,hB,h5⟩:=h.ent i _ hH;rw[h1]at hd;cases hd;have hky:=a0i hs hy hye;have hvz:=a0i hs hz hze;obtain⟨hck,hfd⟩:=E0A (P:=P) hkey hky;obtain⟨f1,_⟩:=hfd mes.toList es (by simpa using h4) (λj me kv hm hk=>h5 j me kv (by simpa using hm) hk);have hfind:=f1 hfn;have hlt:r<w.heap.size:=(al.1 h3).1;generalize hkv:a.eval y=vk at hky hck hfind;generalize hvv:a.eval z=vv at hvz
        have hrun:(Instr.mapUpdate t (a.eval x) (a.eval y)<|a.eval z).run P w= .ok () { w with heap:=w.heap.setIfInBounds r (.map (mes.push { key:=vk,val:=vv,born:=clock })<|clock+1) } :=by
          rw[hvx,hkv,hvv];simp[Instr.mapUpdate,run_underlying hu,MapKept.run_getObj_map h3,hck,hfind,MapKept.run_setObj_map _ h3,oE]
        obtain⟨g,hiv⟩:=modify (w':= { w with heap:=w.heap.setIfInBounds r (.map (mes.push { key:=vk,val:=vv,born:=clock })<|clock+1) }) (en':= .map<|es++ [(k,v)]) h hH rfl rfl h1 rfl rfl rfl dE
          (λb' hb'=>by simp[Ne.symm hb'])
          (λhr=>⟨r,mes.push { key:=vk,val:=vv,born:=clock },clock+1,h1,h2,by simp[hlt],by simp[h4],⟨by simp[hB.1],λj me hm=>by
            rw[bS]at hm;split at hm;rename_i hj;cases hm;rw[hB.1];exact hj.symm
            exact hB.2 j me hm⟩,λj me kv hm hk=>by
            rw[bS]at hm;rw[aP]at hk;by_cases hj:j<es.length;rw[vB hj]at hk;rw[yB dA]at hm;exact⟨hr _ _ (h5 j me kv hm hk).1,hr _ _ (h5 j me kv hm hk).2⟩;rw[yB hj]at hk
            have hj0:j-es.length=0:=by
              have:=(ab.1 hk).1;simp at this;omega
            rw[hj0]at hk;simp only[cv,aj]at hk;subst hk;rw[vB dA]at hm;simp only[aj]at hm;subst hm
            exact⟨hr _ _ hky,hr _ _ hvz⟩⟩)
        refine⟨undef, { w with heap:=w.heap.setIfInBounds r (.map (mes.push { key:=vk,val:=vv,born:=clock })<|clock+1) }, .inr ⟨?_,rfl⟩, ?_⟩
        · unfold execOp
          rcases ho with ho|ho<;>rw[ho]<;>simp[hrun]
        simp only[b0a,h0Y,vB (ab.1 hH).1];exact⟨K,D,g,hiv, .undef _⟩
      cases he
    cases he
  cases he
theorem q0C{sm sk sv:Option SV}{H':a0e}{ef:Eff}(he:l0P P t sm sk sv H=vA ef)(hr: ∀i∈ef.rd,H'[i]?=H[i]?):l0P P t sm sk sv H'=vA ef:=by
  unfold l0P at he⊢
  split at he
  · rename_i kt et i k v hu
    split at he
    · rename_i es hH
      split at he
      · rename_i hkey
        split at he
        case h_3=>cases he
        case h_2 hfn=>
          have hint: ∃kd x',k= .int kd x':=by cases k<;>first|(cases he;done)|exact⟨_,_,rfl⟩
          obtain⟨kd,x',rfl⟩:=hint;cases he;rw[hr i dE,hH];simp only;rw[vB hkey,hfn]
        rename_i hfn;cases he;rw[hr i dE,hH];simp only;rw[vB hkey,hfn]
      cases he
    cases he
  cases he
theorem v0N{sm sk:Option SV}{ok:Bool}{H':a0e}{ef:Eff}(he:k0O P t sm sk ok H=vA ef)(hr: ∀i∈ef.rd,H'[i]?=H[i]?):k0O P t sm sk ok H'=vA ef:=by
  unfold k0O at he⊢
  split at he
  · rename_i kt et i k hu
    split at he
    · rename_i es hH
      split at he
      · rename_i hkey
        have hrd:ef.rd=[i]:=by
          split at he<;>first|(cases he;rfl)|cases he
        rw[hr i<|by rw[hrd];simp,hH];simp only;rw[vB hkey];exact he
      cases he
    cases he
  cases he
theorem C0v{s:SV}(h:A0Z P t=vA s): ∃z,(zeroValue t).run P w= .ok z w/\Rep w K D z s:=by
  unfold A0Z at h;split at h;rename_i i hi;split at h;rename_i z hz;cases h;refine⟨z,by simp[zeroValue,typeInfo,hi,hz], ?_⟩;split;rename_i c hc;exact l0X hc;split;rename_i a cs _ hcs;have h1:=q0I (w:=w) (K:=K) (D:=D) hcs;have h2:(Value.agg a).cells=a:=rfl;rw[h2]at h1;have:=Rep.agg (w:=w) (K:=K) (D:=D) a.toList cs h1.len h1.one h1.rep
  rwa [Array.toArray_toList]at this
  exact .undef _;cases h;cases h
theorem u0V{ok b:Bool}{s:SV}(h:Rep w K D v s):Rep w K D (if ok then .tuple #[v, .bool b]else v) (m0f ok s b):=by
  cases ok with
  |false=>exact h
  |true=>
    refine .tup [v, .bool b] [s, .bool b] rfl (λj x c hx hc=> ?_)
    match j with
    |0=>simp at hx hc;subst hx;subst hc;exact h
    |1=>simp at hx hc;subst hx;subst hc;exact .bool _
    |j+2=>simp at hx
theorem E0k(h:HInv w K D H)(hs:Slots n w K D ρ a.tmps){ok:Bool}(ho:o.op= .lookup t x y ok)(hx:Operand.inB n x=jB)(hy:Operand.inB n y=jB)
    {ef:Eff} (he:k0O P t (a0B ρ x) (a0B ρ y) ok H=vA ef):q0R P w K D H o a ef.v (b0a H ef.wr):=by
  unfold k0O at he;split at he;rename_i kt et i k hu hxe hye;split at he;rename_i es hH;split at he;rename_i hkey;obtain⟨r,c,m,hvx,hd⟩:=u0A<|a0i hs hx hxe;obtain⟨r',mes,clock,h1,h2,h3,h4,hB,h5⟩:=h.ent i _ hH;rw[h1]at hd;cases hd;have hky:=a0i hs hy hye;obtain⟨hck,hfd⟩:=E0A (P:=P) hkey hky;obtain⟨f1,f2⟩:=hfd mes.toList es (by simpa using h4) (λj me kv hm hk=>h5 j me kv (by simpa using hm) hk);generalize hkv:a.eval y=vk at hky hck f1 f2;have hex:execOp a.eval o=(do pure (Next.value<|<-Instr.lookup t (a.eval x) (a.eval y) ok):Sem Next):=by unfold execOp;rw[ho]
  split at he;rename_i zz v hf;cases he;obtain⟨q,vv,hq,hrv⟩:=f2 v hf;refine g0h h (v:=if ok then .tuple #[vv, .bool jB]else vv) ?_<|u0V hrv;rw[hex];refine b0k ?_;rw[hvx,hkv];simp[Instr.lookup,run_underlying hu,MapKept.run_getObj_map h3,hck,hq,oE];rename_i z hf hz;cases he;have hq:=f1 hf;obtain⟨vz,hzr,hrz⟩:=C0v (w:=w) (K:=K) (D:=D) hz;refine g0h h (v:=if ok then .tuple #[vz, .bool oA]else vz) ?_<|u0V hrz;rw[hex];refine b0k ?_;rw[hvx,hkv];simp[Instr.lookup,run_underlying hu,MapKept.run_getObj_map h3,hck,hq,hzr,oE];cases he;cases he;cases he;cases he
end
section
variable {P : Program}{n : Nat}{w : World}{K : Nat -> Nat}{D : DM}{H : a0e}{ρ : Env}{a : Act}{o : Oper}{idx : Nat}
def s0T{en en':Ent}(h:H[i]?=vA en'):h0Y H i en=H.set i en:=by
  unfold h0Y;rw[vB (ab.1 h).1]
theorem B0W(h:HInv w K D H)(hs:Slots n w K D ρ a.tmps)(hb:Op.inB n o.op=jB)(hidx:CanNew H idx){ef:Eff}(he:a0o P o ρ H idx=vA ef):q0R P w K D H o a ef.v (b0a H ef.wr):=by
  unfold Op.inB at hb;rw[aT]at hb;cases ho:o.op
  case box e x=>
    simp only[a0o,ho]at he;split at he;rename_i cs hc;cases he;exact M0Z h hs ho (hb x<|by simp[ho,wB]) hidx hc;cases he
  case alloc t=>
    simp only[a0o,ho]at he;split at he;rename_i cs hc;cases he;exact H0P h ho hidx hc;cases he
  case load t x=>
    simp only[a0o,ho]at he;split at he;rename_i i off hxe;split at he;rename_i cs hc
    cases hv:b0q P t (cs.drop off)with
    |none=>rw[hv]at he;cases he
    |some v=>rw[hv]at he;cases he;exact H0h h hs ho (hb x<|by simp[ho,wB]) hxe hc hv
    cases he;cases he
  case store t x y=>
    simp only[a0o,ho]at he
    split at he
    · rename_i i off ps hxe hye
      split at he
      · rename_i en hH
        split at he
        · rename_i cs hc
          split at he<;>cases he
          rename_i hcond;obtain⟨c1,c2,c3,c4⟩:=hcond;simp only[b0a,s0T hH];exact C0Z h hs ho (hb x<|by simp[ho,wB]) (hb y<|by simp[ho,wB]) hxe hye hH hc c1 c2 c3 c4
        cases he
      cases he
    cases he
  case indexAddr t x y=>
    simp only[a0o,ho]at he
    split at he
    · rename_i e i kk j hu hxe hye
      split at he
      · rename_i nn k e' cs hH
        split at he<;>cases he
        rename_i hc;obtain⟨c1,c2,c3,c4⟩:=hc;exact z0k h hs ho (hb x<|by simp[ho,wB]) (hb y<|by simp[ho,wB]) hu hxe hye hH c1 c2 c3 c4
      cases he
    cases he
  case slice t x lo hi mx=>
    simp only[a0o,ho]at he
    split at he
    · rename_i len e i off hu hxe
      split at he
      · rename_i hh hbd
        split at he<;>cases he
        rename_i hc;obtain⟨c1,c2,c3⟩:=hc;exact y0G h hs ho (hb x<|by simp[ho,wB]) (λy hy=>hb y<|by subst hy;simp[ho,wB]) hu hxe hbd c1 c2 c3
      cases he
    cases he
  case buildSlice t len parts=>
    have hpb: ∀p∈parts.toList,Operand.inB n p.2=true:=λp hp=>hb p.2 (by simp only[ho,wB,cZ,be];exact⟨p,hp,rfl⟩)
    simp only[a0o,ho]at he
    split at he
    · rename_i e hu
      split at he
      · rename_i zs hz
        split at he
        · rename_i hc
          obtain⟨hok,hmax⟩:=hc
          split at he
          · rename_i cs hf
            obtain⟨cells',hrun,hcr,hcl⟩:=w0m (P:=P) h hs ho hpb hu hz hok hmax hf;obtain⟨i',z',hi',hz',hzs,hk,hk0,hby⟩:=g0N hok;split at he;rename_i h0;cases he;subst h0;obtain⟨g,hiv⟩:=HInv.push (w':=w.alloc<|.cells cells' e) (K':=K) h rfl rfl rfl rfl λ_ _=>rfl;exact⟨_,_, .inl hrun,⟨K,D,g,hiv, .nl _⟩⟩
            · split at he<;>cases he
              rename_i hpl
              have hg:=z0d (w':=w.alloc<|.cells cells' e) (L:=cells') (vs:=cells'.toList) (rest:=[]) (cap:=len) (len:=len) (k:=P.cellsOf e) (e:=e) h hidx none dE hcr hpl dE rfl rfl rfl rfl hk0 (by simpa using hcl) (ak _) (by simpa using hcl) (by
                have:len*1<=len*P.cellsOf e:=Nat.mul_le_mul_left _ hk0
                unfold maxLen;omega)
              rw[g0Z]at hg;exact⟨_,_, .inl hrun,hg⟩
          cases he
        cases he
      cases he
    cases he
  case binOp op t x y ty=>
    simp only[a0o,ho]at he;exact M0Q h hs ho (hb x<|by simp[ho,wB]) (hb y<|by simp[ho,wB]) he
  case makeMap t r=>
    cases r with
    |none=>
      simp only[a0o,ho]at he;split at he;cases he;exact u0I h ho hidx;cases he
    |some r=>simp only[a0o,ho]at he;cases he
  case insert t m k v=>
    simp only[a0o,ho]at he;exact x0S h hs (.inl ho) (hb m<|by simp[ho,wB]) (hb k<|by simp[ho,wB]) (hb v<|by simp[ho,wB]) he
  case mapUpdate t m k v=>
    simp only[a0o,ho]at he;exact x0S h hs (.inr ho) (hb m<|by simp[ho,wB]) (hb k<|by simp[ho,wB]) (hb v<|by simp[ho,wB]) he
  case lookup t m k ok=>
    simp only[a0o,ho]at he;exact E0k h hs ho (hb m<|by simp[ho,wB]) (hb k<|by simp[ho,wB]) he
  case makeSlice t x y=>
    simp only[a0o,ho]at he
    split at he
    · rename_i e kl l kc c hu hxe hye
      split at he
      · rename_i zs hz
        split at he<;>cases he
        rename_i hc;exact x0E h hs ho (hb x<|by simp[ho,wB]) (hb y<|by simp[ho,wB]) hu hidx hxe hye hz hc.1 hc.2.1 hc.2.2.1 hc.2.2.2.1 hc.2.2.2.2
      cases he
    cases he
  case convert src dst x=>
    simp only[a0o,ho]at he;split at he;rename_i e s hu1 hu2 hxe;split at he;rename_i he8;cases he;exact B0e h hs ho (hb x<|by simp[ho,wB]) hu1 hu2 he8 hxe;rename_i he8;cases he;exact B0d h hs ho (hb x<|by simp[ho,wB]) hu1 hu2 he8 hxe;cases he;rename_i s hu1 hu2 hxe
    cases he;exact G0k h hs ho (hb x<|by simp[ho,wB]) hu1 hu2 hxe
    · rename_i e e' i hu1 hu2 hxe
      split at he
      · rename_i nn k e2 cs he8 hH
        split at he<;>cases he
        rename_i hc;simp only[b0a,s0T hH];exact z0C h hs ho (hb x<|by simp[ho,wB]) hc.1 hu1 he8 hxe hH hc.2
      cases he
    · rename_i e s hu1 hu2 hxe
      split at he
      · rename_i m cs rd he8 hsc
        split at he<;>cases he
        rename_i hc;exact G0i h hs ho (hb x<|by simp[ho,wB]) hu1 hu2 he8 hxe hsc hc.1 hc.2
      · rename_i m cs rd he8 hsc
        split at he<;>cases he
        rename_i hc;exact C0J h hs ho (hb x<|by simp[ho,wB]) hu1 hu2 he8 hxe hsc hc.1 hc.2
      cases he
    cases he
  case call c=>
    have hbc: ∀x∈c.args,Operand.inB n x=true:=λx hx=>hb x (by simp only[ho,wB,Call.operands];exact bv.2<|.inr hx)
    simp only[a0o,ho]at he;split at he;rename_i hcal;exact F0G h hs ho hcal hbc hidx he;rename_i hcal;exact K0M h hs ho hcal hbc he;rename_i hcal;split at he;rename_i x t ha ht;split at he;rename_i e i hu hxe;split at he;rename_i nn k e' cs hH;cases he;exact E0v h hs ho hcal ha ht (hbc x<|by rw[<-aO,ha];simp) hu hxe hH;cases he;cases he;cases he;rename_i hcal;split at he;rename_i x r ha;split at he;rename_i k ax hxe
    cases hv:E0d oA k ax ρ r with
    |none=>rw[hv]at he;cases he
    |some v=>rw[hv]at he;cases he;exact x0y (big:=oA) h hs ho hcal ha hbc hxe hv
    cases he;cases he;rename_i hcal;split at he;rename_i x r ha;split at he;rename_i k ax hxe
    cases hv:E0d jB k ax ρ r with
    |none=>rw[hv]at he;cases he
    |some v=>rw[hv]at he;cases he;exact x0y (big:=jB) h hs ho hcal ha hbc hxe hv
    cases he;cases he;cases he
  all_goals(simp only[a0o,ho]at he;cases he)
theorem A0r(h:HInv w K D H)(hs:Slots n w K D ρ a.tmps)(hb:Op.inB n o.op=jB)(hidx:CanNew H idx){ef:Eff}(he:a0D P o ρ H idx=vA ef):q0R P w K D H o a ef.v (b0a H ef.wr):=by
  unfold a0D at he;split at he;rename_i v hv;cases he;obtain⟨r,hr,hrep⟩:=B0z hs hb hv;exact g0h h hr hrep;exact B0W h hs hb hidx he
/-! What an operation looks at. -/
theorem t0J{ρ ρ':Env}{place:Nat->Option (Nat×Nat)}: ∀(parts:List<|Nat×Operand) (cs:List SV),(∀p∈parts,a0B ρ p.2=a0B ρ' p.2)->q0F ρ place cs parts=q0F ρ' place cs parts:=by
  intro parts
  induction parts with
  |nil=>intro cs _;rfl
  |cons p rest ih=>
    intro cs h;obtain⟨i,x⟩:=p;have hx:=h (i,x)<|aB ..;simp only at hx;simp only[q0F,hx];split;split;exact ih _ λp hp=>h p (aq _ hp)
    rfl;rfl
theorem r0m{ρ ρ':Env}: ∀(l:List Operand),(∀x∈l,a0B ρ x=a0B ρ' x)->l.mapM (a0B ρ)=l.mapM (a0B ρ'):=by
  intro l
  induction l with
  |nil=>intro _;rfl
  |cons x l ih=>
    intro h;simp only[cU,h x<|aB ..,ih λy hy=>h y<|aq _ hy]
theorem u0G{ρ ρ':Env}{big:Bool}{k:IntKind}: ∀(l:List Operand) (acc:Int),(∀x∈l,a0B ρ x=a0B ρ' x)->E0d big k acc ρ l=E0d big k acc ρ' l:=by
  intro l
  induction l with
  |nil=>intro acc _;rfl
  |cons x l ih=>
    intro acc h;simp only[E0d,h x<|aB ..];split;split;exact ih _ λy hy=>h y (aq _ hy)
    rfl;rfl
def n0O{ρ ρ':Env}{l:Option Operand}{d:Int}(hl: ∀y,l=vA y->a0B ρ y=a0B ρ' y):i0O ρ l d=i0O ρ' l d:=by
  cases l with
  |none=>rfl
  |some y=>simp only[i0O,hl y rfl]
def r0S(h:x∈c.args.toList):x∈c.operands:=by
  unfold Call.operands;exact bv.2<|.inr<|aO.1 h
theorem o0Q{ρ ρ':Env}(h: ∀x∈o.op.operands,a0B ρ x=a0B ρ' x):a0k P o ρ=a0k P o ρ':=by
  cases ho:o.op
  case build t parts=>
    have hp: ∀p∈parts.toList,a0B ρ p.2=a0B ρ' p.2:=λp hp=>h p.2 (by simp only[ho,wB,cZ,be];exact⟨p,hp,rfl⟩)
    simp only[a0k,ho,t0J parts.toList _ hp]
  case slice t x lo hi mx=>
    simp only[a0k,ho,h x<|by simp[ho,wB]];simp only[n0O (l:=lo) (λy hy=>h y<|by subst hy;simp[ho,wB]),n0O (l:=hi) λy hy=>h y<|by subst hy;simp[ho,wB]]
  case makeFunc f p q=>
    simp only[a0k,ho,r0m p.toList λx hx=>h x<|by simp only[ho,wB];exact bv.2<|.inl<|aO.1 hx,
      r0m q.toList (λx hx=>h x<|by simp only[ho,wB];exact bv.2<|.inr<|aO.1 hx)]
  case call c=>
    have hc: ∀x∈c.args.toList,a0B ρ x=a0B ρ' x:=λx hx=>h x (by simp only[ho,wB];exact r0S hx)
    simp only[a0k,ho,z0G];split;split;rename_i x t hargs htys;rw[hc x<|by rw[hargs];simp];rfl;rfl
  case pick c x y=>simp only[a0k,ho,h c<|by simp[ho,wB],h x<|by simp[ho,wB],h y<|by simp[ho,wB]]
  case binOp op t x y u=>simp only[a0k,ho,h x<|by simp[ho,wB],h y<|by simp[ho,wB]]
  case indexAddr t x i=>simp only[a0k,ho,h x<|by simp[ho,wB],h i<|by simp[ho,wB]]
  case index t x i=>simp only[a0k,ho,h x<|by simp[ho,wB],h i<|by simp[ho,wB]]
  case move x=>simp only[a0k,ho,h x<|by simp[ho,wB]]
  case assign x=>simp only[a0k,ho,h x<|by simp[ho,wB]]
  case unOp op t x=>simp only[a0k,ho,h x<|by simp[ho,wB]]
  case convert s d x=>simp only[a0k,ho,h x<|by simp[ho,wB]]
  case extract x i=>simp only[a0k,ho,h x<|by simp[ho,wB]]
  case nilCheck x=>simp only[a0k,ho,h x<|by simp[ho,wB]]
  case fieldAddr t x f=>simp only[a0k,ho,h x<|by simp[ho,wB]]
  case field t x f=>simp only[a0k,ho,h x<|by simp[ho,wB]]
  case load t x=>simp only[a0k,ho,h x<|by simp[ho,wB]]
  all_goals simp only[a0k,ho]
theorem k0Y{H H':a0e}{s:SV}{cs:List SV}(hs:w0v k s H=vA (m,cs,rd))(hr: ∀i∈rd,H'[i]?=H[i]?):w0v k s H'=vA (m,cs,rd):=by
  unfold w0v at hs⊢;split;exact hs;exact hs;exact hs
  · rename_i j
    simp only at hs
    split at hs
    · rename_i n k' e cs' hj
      split at hs<;>cases hs
      rename_i hc;rw[hr j dE,hj];simp only;rw[vB hc]
    cases hs
  · rename_i j off n k'
    simp only at hs
    split at hs
    · rename_i cs' hj
      split at hs<;>cases hs
      rename_i hc;rw[hr j dE,hj];simp only;rw[vB hc]
    cases hs
  · rename_i h1 h2 h3 h4 h5
    cases s<;>first|exact(h1 _ _ _ rfl).elim|exact(h2 rfl).elim|exact(h3 _ rfl).elim|exact(h4 _ rfl).elim|exact(h5 _ _ _ _ rfl).elim|cases hs
def u0u{P:Program}{H H':a0e}{e tx:Nat}{s:SV}{cs:List SV}(hs:B0i P e k tx s H=vA (m,cs,rd))(hr: ∀i∈rd,H'[i]?=H[i]?):B0i P e k tx s H'=vA (m,cs,rd):=by
  unfold B0i at hs⊢;split at hs;exact hs;split at hs;rename_i hst;rw[vB hst];exact k0Y hs hr;cases hs
theorem n0j{ρ ρ':Env}{H H':a0e}{ef:Eff}(h: ∀x∈o.op.operands,a0B ρ x=a0B ρ' x)(he:a0D P o ρ H idx=vA ef)(hr: ∀i∈ef.rd,H'[i]?=H[i]?):a0D P o ρ' H' idx=vA ef:=by
  unfold a0D at he⊢;rw[<-o0Q h];split;rename_i v hv;rw[hv]at he;exact he
  · rename_i hn
    rw[hn]at he;simp only at he;cases ho:o.op
    case box e x=>
      simp only[a0o,ho]at he⊢;rw[<-h x (by simp[ho,wB])];exact he
    case alloc t=>simp only[a0o,ho]at he⊢;exact he
    case load t x=>
      simp only[a0o,ho]at he⊢;rw[<-h x (by simp[ho,wB])];split at he;rename_i i off hxe;split at he;rename_i cs hc
      cases hv:b0q P t (cs.drop off)with
      |none=>rw[hv]at he;cases he
      |some v=>
        rw[hv]at he;cases he;rw[hr i dE,hc];simp[hv]
      cases he;cases he
    case store t x y=>
      simp only[a0o,ho]at he⊢;rw[<-h x (by simp[ho,wB]),<-h y (by simp[ho,wB])]
      split at he
      · rename_i i off ps hxe hye
        split at he
        · rename_i en hH
          split at he
          · rename_i cs hc
            split at he<;>cases he
            rename_i hcond;rw[hr i dE,hH];simp only[hc];rw[vB hcond]
          cases he
        cases he
      cases he
    case indexAddr t x y=>
      simp only[a0o,ho]at he⊢;rw[<-h x (by simp[ho,wB]),<-h y (by simp[ho,wB])]
      split at he
      · rename_i e i kk j hu hxe hye
        split at he
        · rename_i nn k e' cs hH
          split at he<;>cases he
          rename_i hc;rw[hr i dE,hH];simp only;rw[vB hc]
        cases he
      cases he
    case slice t x lo hi mx=>
      simp only[a0o,ho]at he⊢;rw[<-h x (by simp[ho,wB])];simp only[<-n0O (l:=hi) λy hy=>h y<|by subst hy;simp[ho,wB]];exact he
    case buildSlice t len parts=>
      have hp: ∀p∈parts.toList,a0B ρ p.2=a0B ρ' p.2:=λp hp=>h p.2 (by simp only[ho,wB,cZ,be];exact⟨p,hp,rfl⟩)
      simp only[a0o,ho]at he⊢;simp only[<-t0J parts.toList _ hp];exact he
    case binOp op t x y ty=>
      simp only[a0o,ho]at he⊢;rw[<-h x (by simp[ho,wB]),<-h y (by simp[ho,wB])];exact he
    case makeMap t r=>cases r<;>(simp only[a0o,ho]at he⊢;exact he)
    case insert t m k v=>
      simp only[a0o,ho]at he⊢;rw[<-h m (by simp[ho,wB]),<-h k (by simp[ho,wB]),<-h v (by simp[ho,wB])];exact q0C he hr
    case mapUpdate t m k v=>
      simp only[a0o,ho]at he⊢;rw[<-h m (by simp[ho,wB]),<-h k (by simp[ho,wB]),<-h v (by simp[ho,wB])];exact q0C he hr
    case lookup t m k ok=>
      simp only[a0o,ho]at he⊢;rw[<-h m (by simp[ho,wB]),<-h k (by simp[ho,wB])];exact v0N he hr
    case makeSlice t x y=>
      simp only[a0o,ho]at he⊢;rw[<-h x (by simp[ho,wB]),<-h y (by simp[ho,wB])];exact he
    case convert src dst x=>
      simp only[a0o,ho]at he⊢;rw[<-h x (by simp[ho,wB])];split at he;exact he;exact he
      · rename_i e e' i hu1 hu2 hxe
        split at he
        · rename_i nn k e2 cs he8 hH
          split at he<;>cases he
          rename_i hc;rw[hr i dE,hH];simp only[he8];rw[vB hc]
        cases he
      · rename_i e s hu1 hu2 hxe
        split at he
        · rename_i m cs rd he8 hsc
          split at he<;>cases he
          rename_i hc;rw[k0Y hsc hr];simp only[he8];rw[vB hc]
        · rename_i m cs rd he8 hsc
          split at he<;>cases he
          rename_i hc;rw[k0Y hsc hr];simp only[he8];rw[vB hc]
        cases he
      cases he
    case call c=>
      have hc: ∀x∈c.args.toList,a0B ρ x=a0B ρ' x:=λx hx=>h x (by simp only[ho,wB];exact r0S hx)
      simp only[a0o,ho]at he⊢
      split at he
      · rename_i hcal
        unfold n0R at he⊢
        split at he
        · rename_i x y t tx hargs htys
          rw[<-hc x (by rw[hargs];simp),<-hc y (by rw[hargs];simp)]
          split at he
          · rename_i e sy hu hxe hye
            split at he
            · rename_i m cs2 rd hsc
              split at he<;>cases he
              rename_i hcd;rw[u0u hsc hr];simp only;rw[vB hcd]
            cases he
          · rename_i e i0 sy hu hxe hye
            split at he
            · rename_i nn k e' cs hH
              split at he
              · rename_i m cs2 rd hsc
                split at he<;>cases he
                rename_i hcd;rw[hr i0 dE,hH];simp only;rw[u0u hsc λi hi=>hr i<|by simp[hi]];simp only;rw[vB hcd]
              cases he
            cases he
          cases he
        cases he
      · rename_i hcal
        unfold F0m at he⊢
        split at he
        · rename_i x y t tx hargs htys
          rw[<-hc x (by rw[hargs];simp),<-hc y (by rw[hargs];simp)]
          split at he
          · rename_i e i0 sy hu hxe hye
            split at he
            · rename_i nn k e' cs hH
              split at he
              · rename_i m cs2 rd hsc
                split at he<;>cases he
                rename_i hcd;rw[hr i0 dE,hH];simp only;rw[k0Y hsc λi hi=>hr i<|by simp[hi]];simp only;rw[vB hcd]
              cases he
            cases he
          · rename_i e i0 off nn k sy hu hxe hye
            split at he
            · rename_i cs hH
              split at he
              · rename_i m cs2 rd hsc
                split at he<;>cases he
                rename_i hcd;rw[hr i0 dE,hH];simp only;rw[k0Y hsc λi hi=>hr i<|by simp[hi]];simp only;rw[vB hcd]
              cases he
            cases he
          cases he
        cases he
      rename_i hcal;split at he;rename_i x t ha ht;rw[<-hc x (by rw[ha];simp)];split at he;rename_i e i hu hxe;split at he;rename_i nn k e' cs hH;cases he;rw[hr i dE,hH];cases he;cases he;cases he;rename_i hcal;split at he;rename_i x r ha;rw[<-hc x (by rw[ha];simp)];split at he;rename_i k ax hxe;rw[<-u0G r ax λy hy=>hc y<|by rw[ha];simp[hy]];exact he;cases he;cases he;rename_i hcal;split at he;rename_i x r ha;rw[<-hc x (by rw[ha];simp)];split at he;rename_i k ax hxe;rw[<-u0G r ax λy hy=>hc y<|by rw[ha];simp[hy]];exact he;cases he;cases he;cases he
    all_goals(simp only[a0o,ho]at he;cases he)
end
mutual
def SV.rn(f:Nat->Nat):SV->SV
  | .agg cs=> .agg (SV.rnL f cs)
  | .tup cs=> .tup (SV.rnL f cs)
  | .ptr i off=> .ptr (f i) off
  | .vc i=> .vc (f i)
  | .sl i off n k=> .sl (f i) off n k
  | .mp i=> .mp (f i)
  | .fn g a b=> .fn g (SV.rnL f a) (SV.rnL f b)
  | .undef=> .undef
  | .bool b=> .bool b
  | .int k n=> .int k n
  | .str s=> .str s
  | .nl=> .nl
  | .lst n k cs=> .lst n k cs
  | .ep cs=> .ep cs
  | .nilp=> .nilp
  | .yld i=> .yld<|f i
def SV.rnL(f:Nat->Nat):List SV->List SV
  | []=> []
  |c::cs=>SV.rn f c::SV.rnL f cs
end
mutual
def SV.refs(m:Nat):SV->Bool
  | .agg cs=>SV.refsL m cs
  | .tup cs=>SV.refsL m cs
  | .ptr i _=>yA (i<m)
  | .vc i=>yA (i<m)
  | .sl i _ _ _=>yA (i<m)
  | .mp i=>yA (i<m)
  | .fn _ a b=>SV.refsL m a&&SV.refsL m b
  | .undef=>jB
  | .bool _=>jB
  | .int _ _=>jB
  | .str _=>jB
  | .nl=>jB
  | .lst _ _ _=>jB
  | .ep _=>jB
  | .nilp=>jB
  | .yld i=>yA<|i<m
def SV.refsL(m:Nat):List SV->Bool
  | []=>jB
  |c::cs=>SV.refs m c&&SV.refsL m cs
end
def f0y(f:Nat->Nat): ∀(cs:List SV) (j:Nat),(SV.rnL f cs)[j]?=(cs[j]?).map (SV.rn f)
  | [],j=>by simp[SV.rnL]
  |c::cs,j=>by
    cases j with
    |zero=>simp[SV.rnL]
    |succ j=>simpa [SV.rnL]using f0y f cs j
def b0O(f:Nat->Nat): ∀(cs:List SV),(SV.rnL f cs).length=cs.length
  | []=>rfl
  |c::cs=>by simp[SV.rnL,b0O f cs]
def e0V{m:Nat}: ∀ {cs:List SV},SV.refsL m cs=jB-> ∀(j:Nat) (c:SV),cs[j]?=vA c->SV.refs m c=jB
  | [],_,j,c,h=>by simp at h
  |x::cs,h,j,c,hc=>by
    simp only[SV.refsL,aa]at h
    cases j with
    |zero=>simp at hc;subst hc;exact h.1
    |succ j=>exact e0V h.2 j c (by simpa using hc)
def Ent.rn(f:Nat->Nat):Ent->Ent
  | .box cs=> .box (SV.rnL f cs)
  | .map es=> .map (es.map λp=>(SV.rn f p.1,SV.rn f p.2))
  | .itr m n s=> .itr (f m) n s
  | .lop tm ps as bd st pd=> .lop (SV.rnL f tm) ps as bd st pd
  | .pmap es=> .pmap (es.map λp=>(SV.rn f p.1,SV.rn f p.2))
  |e=>e
def Ent.refs(m:Nat):Ent->Bool
  | .box cs=>SV.refsL m cs
  | .map es=>es.all λp=>SV.refs m p.1&&SV.refs m p.2
  | .itr i _ _=>SV.refs m (.mp i)
  | .lop tm _ _ _ _ _=>SV.refsL m tm
  | .pmap es=>es.all λp=>SV.refs m p.1&&SV.refs m p.2
  |_=>jB
def m0q(D:DM)(f:Nat->Nat)(m:Nat):DM:=λj=>if j<m then D (f j)else none
section
variable {w : World}{K : Nat -> Nat}{D : DM}
theorem h0q{s':SV}(h:Rep w K D v s'): ∀s,s'=SV.rn f s->SV.refs m s=jB->Rep w K (m0q D f m) v s:=by
  have hsub: ∀ {i:Nat} {x:Loc},i<m->D (f i)=vA x->m0q D f m i=vA x:=λ{i x} hi hd=>by simp[m0q,hi,hd]
  induction h with
  |undef v=>intro s hs hb;cases s<;>simp only[SV.rn]at hs<;>first|(cases hs;done)|exact .undef _
  |bool b=>intro s hs hb;cases s<;>simp only[SV.rn]at hs<;>cases hs;exact .bool _
  |int k n=>intro s hs hb;cases s<;>simp only[SV.rn]at hs<;>cases hs;exact .int _ _
  |str sb=>intro s hs hb;cases s<;>simp only[SV.rn]at hs<;>cases hs;exact .str _
  |nl a=>intro s hs hb;cases s<;>simp only[SV.rn]at hs<;>first|(cases hs;done)|exact .nl _
  |emp k a cap=>intro s hs hb;cases s<;>simp only[SV.rn]at hs<;>cases hs;exact .emp _ _ _
  |lst k b off len cap vs cs hk hl hc hcap hm hK h1 hp h _=>
    intro s hs hb;cases s<;>simp only[SV.rn]at hs<;>cases hs
    exact .lst k b off len cap vs _ hk hl hc hcap hm hK h1 hp (λj v c hv hcc=>(h j v c hv hcc).plain<|f0c hp hcc)
  |ep b off vs cs hc hm hK h1 hp h _=>
    intro s hs hb;cases s<;>simp only[SV.rn]at hs<;>cases hs
    exact .ep b off vs _ hc hm hK h1 hp (λj v c hv hcc=>(h j v c hv hcc).plain<|f0c hp hcc)
  |agg vs cs hc h1 _ ih=>
    intro s hs hb;cases s<;>simp only[SV.rn]at hs<;>cases hs
    rename_i cs0 _;refine .agg vs cs0 (by rw[<-hc,b0O]) h1 (λj v c hv hcc=>ih j v (SV.rn f c) hv (by rw[f0y,hcc];rfl) c rfl ?_);simp only[SV.refs]at hb;exact e0V hb j c hcc
  |tup vs cs hc _ ih=>
    intro s hs hb;cases s<;>simp only[SV.rn]at hs<;>cases hs
    rename_i cs0 _;refine .tup vs cs0 (by rw[<-hc,b0O]) (λj v c hv hcc=>ih j v (SV.rn f c) hv (by rw[f0y,hcc];rfl) c rfl ?_);simp only[SV.refs]at hb;exact e0V hb j c hcc
  |ptr i off b c n hd=>
    intro s hs hb;cases s<;>simp only[SV.rn]at hs<;>cases hs
    simp only[SV.refs,decide_eq_true_eq]at hb;exact .ptr _ _ b c n (hsub hb hd)
  |vcn i a hd=>
    intro s hs hb;cases s<;>simp only[SV.rn]at hs<;>cases hs
    simp only[SV.refs,decide_eq_true_eq]at hb;exact .vcn _ a (hsub hb hd)
  |vc i b c n hd=>
    intro s hs hb;cases s<;>simp only[SV.rn]at hs<;>cases hs
    simp only[SV.refs,decide_eq_true_eq]at hb;exact .vc _ b c n (hsub hb hd)
  |sl i off n k b c m' cap hd hn=>
    intro s hs hb;cases s<;>simp only[SV.rn]at hs<;>cases hs
    simp only[SV.refs,decide_eq_true_eq]at hb;exact .sl _ _ _ _ b c m' cap (hsub hb hd) hn
  |mp i r c n hd=>
    intro s hs hb;cases s<;>simp only[SV.rn]at hs<;>cases hs
    simp only[SV.refs,decide_eq_true_eq]at hb;exact .mp _ r c n (hsub hb hd)
  |fn g fs caps gs dcs hc hd _ _ ih ih'=>
    intro s hs hb;cases s<;>simp only[SV.rn]at hs<;>cases hs
    rename_i a0 b0 _ _;simp only[SV.refs,aa]at hb
    exact .fn g fs caps a0 b0 (by rw[<-hc,b0O]) (by rw[<-hd,b0O])
      (λj v c hv hcc=>ih j v (SV.rn f c) hv (by rw[f0y,hcc];rfl) c rfl<|e0V hb.1 j c hcc)
      (λj v c hv hcc=>ih' j v (SV.rn f c) hv (by rw[f0y,hcc];rfl) c rfl<|e0V hb.2 j c hcc)
  |nilp=>intro s hs hb;cases s<;>simp only[SV.rn]at hs<;>first|(cases hs;done)|exact .nilp
  |yld i l c n hd=>
    intro s hs hb;cases s<;>simp only[SV.rn]at hs<;>cases hs
    simp only[SV.refs,decide_eq_true_eq]at hb;exact .yld _ l c n<|hsub hb hd
theorem m0Y{D':DM}{s:SV}(h:Rep w K D v s)(hg: ∀j x,D j=vA x->D' (g j)=vA x):Rep w K D' v (SV.rn g s):=by
  induction h with
  |undef v=>exact .undef _
  |bool b=>exact .bool _
  |int k n=>exact .int _ _
  |str sb=>exact .str _
  |nl a=>exact .nl _
  |emp k a cap=>exact .emp _ _ _
  |lst k b off len cap vs cs hk hl hc hcap hm hK h1 hp h _=>
    exact .lst k b off len cap vs _ hk hl hc hcap hm hK h1 hp (λj v c hv hcc=>(h j v c hv hcc).plain<|f0c hp hcc)
  |ep b off vs cs hc hm hK h1 hp h _=>
    exact .ep b off vs _ hc hm hK h1 hp (λj v c hv hcc=>(h j v c hv hcc).plain<|f0c hp hcc)
  |agg vs cs hc h1 _ ih=>
    refine .agg vs _ (by rw[b0O,hc]) h1 λj v c hv hcc=> ?_;rw[f0y]at hcc
    cases hx:cs[j]? with
    |none=>rw[hx]at hcc;cases hcc
    |some x=>rw[hx]at hcc;cases hcc;exact ih j v x hv hx
  |tup vs cs hc _ ih=>
    refine .tup vs _ (by rw[b0O,hc]) λj v c hv hcc=> ?_;rw[f0y]at hcc
    cases hx:cs[j]? with
    |none=>rw[hx]at hcc;cases hcc
    |some x=>rw[hx]at hcc;cases hcc;exact ih j v x hv hx
  |ptr i off b c n hd=>exact .ptr _ _ b c n (hg _ _ hd)
  |vcn i a hd=>exact .vcn _ a (hg _ _ hd)
  |vc i b c n hd=>exact .vc _ b c n (hg _ _ hd)
  |sl i off n k b c m' cap hd hn=>exact .sl _ _ _ _ b c m' cap (hg _ _ hd) hn
  |mp i r c n hd=>exact .mp _ r c n (hg _ _ hd)
  |fn q fs caps gs dcs hc hd _ _ ih ih'=>
    refine .fn q fs caps _ _ (by rw[b0O,hc]) (by rw[b0O,hd]) (λj v c hv hcc=> ?_) λj v c hv hcc=> ?_;rw[f0y]at hcc
    cases hx:gs[j]? with
    |none=>rw[hx]at hcc;cases hcc
    |some x=>rw[hx]at hcc;cases hcc;exact ih j v x hv hx
    rw[f0y]at hcc
    cases hx:dcs[j]? with
    |none=>rw[hx]at hcc;cases hcc
    |some x=>rw[hx]at hcc;cases hcc;exact ih' j v x hv hx
  |nilp=>exact .nilp
  |yld i l c n hd=>exact .yld _ l c n<|hg _ _ hd
theorem M0Y{cs:List SV}(h:CR w K D vs<|SV.rnL f cs)(hb:SV.refsL m cs=jB):CR w K (m0q D f m) vs cs:=
  ⟨by rw[<-h.len,b0O],h.one,λj v c hv hc=>h0q (h.rep j v (SV.rn f c) hv<|by rw[f0y,hc];rfl) c rfl<|e0V hb j c hc⟩
theorem O0y{D':DM}{cs:List SV}(h:CR w K D vs cs)(hg: ∀j x,D j=vA x->D' (g j)=vA x):CR w K D' vs (SV.rnL g cs):=by
  refine⟨by rw[b0O,h.len],h.one,λj v c hv hc=> ?_⟩;rw[f0y]at hc
  cases hx:cs[j]? with
  |none=>rw[hx]at hc;cases hc
  |some x=>rw[hx]at hc;cases hc;exact m0Y (h.rep j v x hv hx) hg
theorem K0s{en:Ent}(hj:j<m)(h:EntOk w K D (f j)<|Ent.rn f en)(hb:Ent.refs m en=jB):EntOk w K (m0q D f m) j en:=by
  have hd:m0q D f m j=D (f j):=by simp[m0q,hj]
  cases en with
  |res=>show m0q D f m j=none;rw[hd];exact h
  |gone=>trivial
  |box cs=>
    obtain⟨b,vs,e,h1,h2,h3,h4⟩:=h;exact⟨b,vs,e,by rw[hd];exact h1,h2,h3,M0Y h4 hb⟩
  |vec n k e cs=>
    obtain⟨hp,h⟩:=h;refine⟨hp, ?_⟩;rcases h with⟨h1,h2,h3⟩|⟨b,c,vs,rest,h1,h2,h3,h4,h5,h6,h7,h8,h9⟩;exact .inl ⟨by rw[hd];exact h1,h2,h3⟩;exact .inr ⟨b,c,vs,rest,by rw[hd];exact h1,h2,h3,h4,h5,h6,h7,h8,⟨h9.len,h9.one,λj v c hv hc=>(h9.rep j v c hv hc).plain<|f0c hp hc⟩⟩
  |map es=>
    obtain⟨r,mes,clock,h1,h2,h3,h4,hB,h5⟩:=h;refine⟨r,mes,clock,by rw[hd];exact h1,h2,h3,by simpa using h4,hB,λq me kv hm hk=> ?_⟩;have hrf:=List.all_eq_true.1 hb kv<|aJ hk;simp only[aa]at hrf;obtain⟨p1,p2⟩:=h5 q me (SV.rn f kv.1,SV.rn f kv.2) hm (by rw[ar,hk];rfl);exact⟨h0q p1 kv.1 rfl hrf.1,h0q p2 kv.2 rfl hrf.2⟩
  |pmap es=>
    obtain⟨es',r,mes,clock,hp,h1,h2,h3,h4,hB,h5⟩:=h;obtain⟨e2,hp2,rfl⟩:=n0e es es' hp;refine⟨e2,r,mes,clock,hp2,by rw[hd];exact h1,h2,h3,by simpa using h4,hB,λq me kv hm hk=> ?_⟩;have hrf:=List.all_eq_true.1 hb kv<|hp2.mem_iff.1<|aJ hk;simp only[aa]at hrf;obtain⟨p1,p2⟩:=h5 q me (SV.rn f kv.1,SV.rn f kv.2) hm (by rw[ar,hk];rfl);exact⟨h0q p1 kv.1 rfl hrf.1,h0q p2 kv.2 rfl hrf.2⟩
  |itr i n' seen=>
    obtain⟨r,bm,c0,h1,h2,h3,h4,h5⟩:=h;exact⟨r,bm,c0,by rw[hd];exact h1,h2,h3,h4,h0q h5 (.mp i) rfl hb⟩
  |lop tm ps as bd st pd=>
    obtain⟨l,r,h1,h2,h3,h4,h5,h6,h7,h8,h9,h10⟩:=h;exact⟨l,r,by rw[hd];exact h1,h2,h3,h4,h5,h6,h7,h8,by rw[h9,b0O],λj v c hv hc=>h0q (h10 j v (SV.rn f c) hv<|by rw[f0y,hc];rfl) c rfl<|e0V hb j c hc⟩
  |dfr=>
    obtain⟨b,h1,h2,h3⟩:=h;exact⟨b,by rw[hd];exact h1,h2,h3⟩
theorem F0d{D':DM}{en:Ent}(h:EntOk w K D j en)(hg: ∀j x,D j=vA x->D' (g j)=vA x)(hn:D j=none->D' (g j)=none):EntOk w K D' (g j) (Ent.rn g en):=by
  cases en with
  |res=>exact hn h
  |gone=>trivial
  |box cs=>
    obtain⟨b,vs,e,h1,h2,h3,h4⟩:=h;exact⟨b,vs,e,hg _ _ h1,h2,h3,O0y h4 hg⟩
  |vec n k e cs=>
    obtain⟨hp,h⟩:=h;refine⟨hp, ?_⟩;rcases h with⟨h1,h2,h3⟩|⟨b,c,vs,rest,h1,h2,h3,h4,h5,h6,h7,h8,h9⟩;exact .inl ⟨hg _ _ h1,h2,h3⟩;exact .inr ⟨b,c,vs,rest,hg _ _ h1,h2,h3,h4,h5,h6,h7,h8,⟨h9.len,h9.one,λj v c hv hc=>(h9.rep j v c hv hc).plain<|f0c hp hc⟩⟩
  |map es=>
    obtain⟨r,mes,clock,h1,h2,h3,h4,hB,h5⟩:=h;refine⟨r,mes,clock,hg _ _ h1,h2,h3,by simpa using h4,hB,λq me kv hm hk=> ?_⟩;rw[ar]at hk
    cases hx:es[q]? with
    |none=>rw[hx]at hk;cases hk
    |some x=>
      rw[hx]at hk;cases hk;obtain⟨p1,p2⟩:=h5 q me x hm hx;exact⟨m0Y p1 hg,m0Y p2 hg⟩
  |pmap es=>
    obtain⟨es',r,mes,clock,hp,h1,h2,h3,h4,hB,h5⟩:=h;refine⟨es'.map λp=>(SV.rn g p.1,SV.rn g p.2),r,mes,clock,hp.map _,hg _ _ h1,h2,h3,by simpa using h4,hB,λq me kv hm hk=> ?_⟩;rw[ar]at hk
    cases hx:es'[q]? with
    |none=>rw[hx]at hk;cases hk
    |some x=>
      rw[hx]at hk;cases hk;obtain⟨p1,p2⟩:=h5 q me x hm hx;exact⟨m0Y p1 hg,m0Y p2 hg⟩
  |itr i n' seen=>
    obtain⟨r,bm,c0,h1,h2,h3,h4,h5⟩:=h;exact⟨r,bm,c0,hg _ _ h1,h2,h3,h4,m0Y h5 hg⟩
  |lop tm ps as bd st pd=>
    obtain⟨l,r,h1,h2,h3,h4,h5,h6,h7,h8,h9,h10⟩:=h;refine⟨l,r,hg _ _ h1,h2,h3,h4,h5,h6,h7,h8,by rw[h9,b0O],λj v c hv hc=> ?_⟩;rw[f0y]at hc
    cases hx:tm[j]? with
    |none=>rw[hx]at hc;cases hc
    |some x=>rw[hx]at hc;cases hc;exact m0Y (h10 j v x hv hx) hg
  |dfr=>
    obtain⟨b,h1,h2,h3⟩:=h;exact⟨b,hg _ _ h1,h2,h3⟩
def h0x(en:Ent):h0e (Ent.rn f en)=h0e en:=by cases en<;>rfl
structure Sel(H:a0e)(f:Nat->Nat)(H0:a0e):Prop where
  get: ∀(j:Nat) (en:Ent),H0[j]?=vA en->H[f j]?=vA (Ent.rn f en)
  inj: ∀i j,i<H0.length->j<H0.length->f i=f j->i=j
  refs: ∀(j:Nat) (en:Ent),H0[j]?=vA en->Ent.refs H0.length en=jB
theorem Sel.hinv{H H0:a0e}(hs:Sel H f H0)(h:HInv w K D H):HInv w K (m0q D f H0.length) H0:=by
  refine⟨λi hi=>by simp[m0q,Nat.not_lt.2 hi],λj en hj=> ?_,λi j en en' b c n c' n' hi hj hl hl' hd hd'=> ?_,h.kw⟩;have hjl:=(ab.1 hj).1;exact K0s hjl (h.ent _ _<|hs.get j en hj)<|hs.refs j en hj;have hil:=(ab.1 hi).1;have hjl:=(ab.1 hj).1;simp only[m0q,hil,if_true]at hd;simp only[m0q,hjl,if_true]at hd';exact hs.inj i j hil hjl (h.inj _ _ _ _ b c n c' n' (hs.get i en hi) (hs.get j en' hj) (by rw[h0x];exact hl) (by rw[h0x];exact hl') hd hd')
theorem Sel.mem{H H0:a0e}(hs:Sel H f H0)(hm:Mem (m0q D f H0.length) H0 b):Mem D H b:=by
  obtain⟨i,en,c,n,hi,hl,hd⟩:=hm;have hil:=(ab.1 hi).1;simp only[m0q,hil,if_true]at hd;exact⟨f i,Ent.rn f en,c,n,hs.get i en hi,by rw[h0x];exact hl,hd⟩
end
theorem j0t{K:Nat->Nat}{D D':DM}(h:m0p w K D):m0p w K D':=λg cs hg=>by
  have hr:=h g cs hg
  cases hr with
  |ep b off vs _ hc hm hK h1 hp h=>exact .ep _ _ vs cs hc hm hK h1 hp λj v c hv hcc=>(h j v c hv hcc).plain<|f0c hp hcc
def b0o(P:Program)(f:FuncId):Bool:=
  match P.funcs[f]? with
  | some fn => fn.body.isSome && !(fn.name == "runtime.NumGoroutine")
  |none=>oA
def SC(P:Program)(f:FuncId)(args:List SV)(H:a0e)(v:SV)(H':a0e):Prop:=
  b0o P f=jB/\
  ∀(w:World) (K:Nat->Nat) (D:DM) (vals:List Value),vals.length=args.length->(∀(j:Nat) (x:Value) (c:SV),vals[j]?=vA x->args[j]?=vA c->Rep w K D x c)->HInv w K D H->m0p w K D->
    Calls P f vals.toArray w λe w'=> ∃r,e= .returned r/\Good w K D H r w' v H'
def Le(s s':SV):Prop:= ∀(w:World) (K:Nat->Nat) (D:DM) (v:Value),Rep w K D v s->Rep w K D v s'
def Le.refl(s:SV):Le s s:=λ_ _ _ _ h=>h
def Le.nl(k:Nat):Le .nl (.lst 0 k []):=λ_ _ _ _ h=>by cases h;exact .emp _ _ _
def Le.undef(s:SV):Le s .undef:=λ_ _ _ _ _=> .undef _
inductive LeL:List SV->List SV->Prop
  |nil:LeL [] []
  |cons {a b:SV} {l m:List SV} (h:Le a b) (t:LeL l m):LeL (a::l) (b::m)
def LeL.refl: ∀l,LeL l l
  | []=> .nil
  |a::l=> .cons (Le.refl a)<|LeL.refl l
def LeL.length{l m:List SV}(h:LeL l m):l.length=m.length:=by
  induction h with
  |nil=>rfl
  |cons _ _ ih=>simp[ih]
def LeL.get{l m:List SV}(h:LeL l m): ∀(j:Nat) (c:SV),m[j]?=vA c-> ∃b,l[j]?=vA b/\Le b c:=by
  induction h with
  |nil=>intro j c hc;simp at hc
  |cons h _ ih=>
    intro j c hc
    cases j with
    |zero=>simp at hc;subst hc;exact⟨_,rfl,h⟩
    |succ j=>simpa using ih j c (by simpa using hc)
theorem Le.agg{l m:List SV}(h:LeL l m):Le (.agg l) (.agg m):=λw K D v hr=>by
  cases hr with
  |agg vs _ hc h1 hh=>
    refine .agg vs m (by rw[<-h.length];exact hc) h1 λj v c hv hcc=> ?_;obtain⟨b,hb,hle⟩:=h.get j c hcc;exact hle _ _ _ _<|hh j v b hv hb
theorem Le.tup{l m:List SV}(h:LeL l m):Le (.tup l) (.tup m):=λw K D v hr=>by
  cases hr with
  |tup vs _ hc hh=>
    refine .tup vs m (by rw[<-h.length];exact hc) λj v c hv hcc=> ?_;obtain⟨b,hb,hle⟩:=h.get j c hcc;exact hle _ _ _ _<|hh j v b hv hb
theorem SC.weak{P:Program}{f:FuncId}{args args':List SV}{H:a0e}{v:SV}{H':a0e}(h:SC P f args' H v H')(hl:LeL args args'):SC P f args H v H':=
  ⟨h.1,λw K D vals hlen hr hi hG=>h.2 w K D vals (by rw[hlen,hl.length]) (λj x c hx hc=>by
    obtain⟨b,hb,hle⟩:=hl.get j c hc
    exact hle _ _ _ _<|hr j x b hx hb) hi hG⟩
mutual
def j0n{f g:Nat->Nat}{m:Nat}(hfg: ∀i,i<m->f i=g i): ∀(s:SV),SV.refs m s=jB->SV.rn f s=SV.rn g s
  | .agg cs,h=>by simp only[SV.rn];rw[i0C hfg cs h]
  | .tup cs,h=>by simp only[SV.rn];rw[i0C hfg cs h]
  | .ptr i off,h=>by simp only[SV.rn];rw[hfg i<|by simpa [SV.refs]using h]
  | .vc i,h=>by simp only[SV.rn];rw[hfg i<|by simpa [SV.refs]using h]
  | .sl i off n k,h=>by simp only[SV.rn];rw[hfg i<|by simpa [SV.refs]using h]
  | .mp i,h=>by simp only[SV.rn];rw[hfg i<|by simpa [SV.refs]using h]
  | .fn q a b,h=>by
    simp only[SV.refs,aa]at h;simp only[SV.rn];rw[i0C hfg a h.1,i0C hfg b h.2]
  | .undef,_=>rfl
  | .bool _,_=>rfl
  | .int _ _,_=>rfl
  | .str _,_=>rfl
  | .nl,_=>rfl
  | .lst _ _ _,_=>rfl
  | .ep _,_=>rfl
  | .nilp,_=>rfl
  | .yld i,h=>by simp only[SV.rn];rw[hfg i<|by simpa [SV.refs]using h]
def i0C{f g:Nat->Nat}{m:Nat}(hfg: ∀i,i<m->f i=g i): ∀(cs:List SV),SV.refsL m cs=jB->SV.rnL f cs=SV.rnL g cs
  | [],_=>rfl
  |c::cs,h=>by
    simp only[SV.refsL,aa]at h;simp only[SV.rnL];rw[j0n hfg c h.1,i0C hfg cs h.2]
end
theorem t0N(hfg: ∀i,i<m->f i=g i)(en:Ent)(h:Ent.refs m en=jB):Ent.rn f en=Ent.rn g en:=by
  cases en with
  |box cs=>simp only[Ent.rn];rw[i0C hfg cs h]
  |map es=>
    simp only[Ent.rn];congr 1;refine bH λp hp=> ?_
    have hrf:=List.all_eq_true.1 h p hp;simp only[aa]at hrf;rw[j0n hfg p.1 hrf.1,j0n hfg p.2 hrf.2]
  |pmap es=>
    simp only[Ent.rn];congr 1;refine bH λp hp=> ?_
    have hrf:=List.all_eq_true.1 h p hp;simp only[aa]at hrf;rw[j0n hfg p.1 hrf.1,j0n hfg p.2 hrf.2]
  |itr i n s=>show Ent.itr (f i) n s=Ent.itr (g i) n s;rw[hfg i<|by simpa [Ent.refs,SV.refs]using h]
  |lop tm ps as bd st pd=>simp only[Ent.rn];rw[i0C hfg tm h]
  |_=>rfl
def gOf(f:Nat->Nat)(m N:Nat):Nat->Nat:=λj=>if j<m then f j else N+(j-m)
def y0Q(g:Nat->Nat)(H0':a0e)(H:a0e):Nat->a0e
  |0=>H
  |j+1=>match H0'[j]? with
    |some en=>h0Y (y0Q g H0' H j) (g j) (Ent.rn g en)
    |none=>y0Q g H0' H j
def d0y(f:Nat->Nat)(m:Nat)(H H0':a0e):a0e:=y0Q (gOf f m H.length) H0' H H0'.length
def y0J{H:a0e}{en:Ent}:(h0Y H i en).length=if i<H.length then H.length else H.length+1:=by
  unfold h0Y;split<;>simp
def Sel.lt{H H0:a0e}(hs:Sel H f H0)(hj:j<H0.length):f j<H.length:=by
  have:=hs.get j _<|af hj;exact(ab.1 this).1
def E0O{H H0:a0e}(hs:Sel H f H0)(h:gOf f H0.length H.length i=gOf f H0.length H.length j):i=j:=by
  unfold gOf at h;by_cases hi:i<H0.length<;>by_cases hj:j<H0.length
  rw[vB hi,vB hj]at h;exact hs.inj i j hi hj h;rw[vB hi,yB hj]at h;have:=hs.lt hi;omega;rw[yB hi,vB hj]at h;have:=hs.lt hj;omega;rw[yB hi,yB hj]at h;omega
theorem x0k{H H0 H0':a0e}(hs:Sel H f H0): ∀q,q<=H0'.length->
    (y0Q (gOf f H0.length H.length) H0' H q).length=H.length+(q-H0.length)/\
    (∀j en,j<q->H0'[j]?=vA en->(y0Q (gOf f H0.length H.length) H0' H q)[gOf f H0.length H.length j]?=vA (Ent.rn (gOf f H0.length H.length) en))/\
    ∀i,(∀j,j<q->gOf f H0.length H.length j≠i)->(y0Q (gOf f H0.length H.length) H0' H q)[i]?=H[i]?:=by
  intro q
  induction q with
  |zero=>intro _;exact⟨by simp[y0Q],λj en h=>absurd h<|cQ _,λi _=>rfl⟩
  |succ q ih=>
    intro hq;obtain⟨h1,h2,h3⟩:=ih dA;have hen:H0'[q]?=vA (H0'[q]' dA):=af dA
    have hle:gOf f H0.length H.length q<=(y0Q (gOf f H0.length H.length) H0' H q).length:=by
      rw[h1];unfold gOf;split;rename_i hlt;have:=hs.lt hlt;omega;omega
    have hget:=v0q (H:=y0Q (gOf f H0.length H.length) H0' H q) (en:=Ent.rn (gOf f H0.length H.length)<|H0'[q]' dA) hle;refine⟨?_,λj en hj hej=> ?_,λi hi=> ?_⟩;simp only[y0Q,hen];rw[y0J,h1];unfold gOf;by_cases hlt:q<H0.length;rw[vB hlt];have:=hs.lt hlt;rw[vB dA];omega;rw[yB hlt,yB dA];omega;simp only[y0Q,hen];rw[hget];by_cases hjq:j=q;subst hjq;rw[vB rfl];rw[hen]at hej;cases hej;rfl;rw[yB λe=>hjq<|E0O hs e];exact h2 j en dA hej;simp only[y0Q,hen];rw[hget,yB λe=>hi q dA e.symm];exact h3 i λj hj=>hi j dA
theorem u0K{H H0:a0e}(hs:Sel H f H0):d0y f H0.length H H0=H:=by
  obtain⟨h1,h2,h3⟩:=x0k (H0':=H0) hs H0.length<|ak _;have hg: ∀i,i<H0.length->f i=gOf f H0.length H.length i:=λi hi=>by simp[gOf,hi]
  unfold d0y;apply bC;intro i;by_cases hex: ∃j,j<H0.length/\gOf f H0.length H.length j=i;obtain⟨j,hj,rfl⟩:=hex;have hen:=af hj;rw[h2 j _ hj hen,<-hg j hj,hs.get j _ hen,<-t0N hg _ (hs.refs j _ hen)];exact h3 i λj hj e=>hex ⟨j,hj,e⟩
theorem Good.frame{H0 H0':a0e}{v0:SV}{H:a0e}{K:Nat->Nat}{D:DM}(hg0:Good w K (m0q D f H0.length) H0 r w' v0 H0')(hs:Sel H f H0)(hi:HInv w K D H)
    (hlive: ∀en∈H0,h0e en=jB) (hl:H0.length<=H0'.length):Good w K D H r w' (SV.rn (gOf f H0.length H.length) v0) (d0y f H0.length H H0'):=by
  obtain⟨K',Ds',g,hi',hrep⟩:=hg0;obtain⟨p1,p2,p3⟩:=x0k (H0':=H0') hs H0'.length<|ak _;generalize hg:gOf f H0.length H.length=gg at p1 p2 p3;have hgl: ∀j,j<H0.length->gg j=f j:=λj hj=>by rw[<-hg];simp[gOf,hj]
  have hgr: ∀j,H0.length<=j->gg j=H.length+(j-H0.length):=λj hj=>by rw[<-hg];simp[gOf,Nat.not_lt.2 hj]
  have hginj: ∀i j,gg i=gg j->i=j:=λi j e=>by rw[<-hg]at e;exact E0O hs e
  -- entries that were handed v0F are somewhere
  have hsome: ∀j,j<H0.length-> ∃x,D (f j)=vA x:=by
    intro j hj;have hen:=af hj;have hlv:=hlive _<|cK hj;have he:=hi.ent _ _<|hs.get j _ hen;generalize H0[j]=en at hlv he
    cases en with
    |res=>cases hlv
    |gone=>cases hlv
    |box cs=>obtain⟨b,vs,e,h1,_⟩:=he;exact⟨_,h1⟩
    |vec n k e cs=>rcases he.2 with⟨h1,_⟩|⟨b,c,vs,rest,h1,_⟩<;>exact⟨_,h1⟩
    |map es=>obtain⟨r,mes,clock,h1,_⟩:=he;exact⟨_,h1⟩
    |itr i n' s=>obtain⟨r,bm,c0,h1,_⟩:=he;exact⟨_,h1⟩
    |lop tm ps as bd st pd=>obtain⟨l,r,h1,_⟩:=he;exact⟨_,h1⟩
    |dfr=>obtain⟨b,h1,_⟩:=he;exact⟨_,h1⟩
    |pmap es=>obtain⟨es',r,mes,clock,_,h1,_⟩:=he;exact⟨_,h1⟩
  let D':DM:=λi=>if i<H.length then D i else Ds' (H0.length+(i-H.length))
  have hDold: ∀i,i<H.length->D' i=D i:=λi hi=>by simp[D',hi]
  have hDs: ∀j,j<H0.length->Ds' j=D (f j):=by
    intro j hj;obtain⟨x,hx⟩:=hsome j hj;have:m0q D f H0.length j=vA x:=by simp[m0q,hj,hx]
    rw[g.dd j x this,hx]
  have hup: ∀j,D' (gg j)=Ds' j:=by
    intro j;by_cases hj:j<H0.length;rw[hgl j hj,hDold _<|hs.lt hj,hDs j hj];rw[hgr j dA];simp only[D'];rw[yB dA];congr 1;omega
  have hdd: ∀i x,D i=vA x->D' i=vA x:=by
    intro i x hx
    have:i<H.length:=by
      rcases bK i H.length with h1|h1;exact h1;rw[hi.dom i h1]at hx;cases hx
    rw[hDold i this];exact hx
  have hrep': ∀v s,Rep w K D v s->Rep w' K' D' v s:=λv s h1=>h1.mono g.cells g.le hdd
  -- an entry: an old one that was not handed v0F, or one of the call's
  have hcase: ∀i en,(d0y f H0.length H H0')[i]?=vA en->(∃j en0,H0'[j]?=vA en0/\i=gg j/\en=Ent.rn gg en0)\/((∀j,j<H0'.length->gg j≠i)/\H[i]?=vA en/\i<H.length):=by
    intro i en hi2;unfold d0y at hi2;rw[hg]at hi2;by_cases hex: ∃j,j<H0'.length/\gg j=i;obtain⟨j,hj,rfl⟩:=hex;have hen:=af hj;rw[p2 j _ hj hen]at hi2;cases hi2;exact .inl ⟨j,_,hen,rfl,rfl⟩;have hno: ∀j,j<H0'.length->gg j≠i:=λj hj e=>hex ⟨j,hj,e⟩
    rw[p3 i hno]at hi2;exact .inr ⟨hno,hi2,(ab.1 hi2).1⟩
  -- a block of the call's is old and handed v0F, or new
  have hblk: ∀j en0 b c n,H0'[j]?=vA en0->h0e en0=jB->Ds' j=vA (.at b c n)->Mem (m0q D f H0.length) H0 b\/w.heap.size<=b:=λj en0 b c n h1 h2 h3=>g.new b ⟨j,en0,c,n,h1,h2,h3⟩
  have hapart: ∀i en b c n,(∀j,j<H0'.length->gg j≠i)->H[i]?=vA en->h0e en=jB->D i=vA (.at b c n)-> ¬Mem (m0q D f H0.length) H0 b/\b<w.heap.size:=by
    intro i en b c n hno hie hli hdi;refine⟨fun⟨j,en0,c0,n0,h1,h2,h3⟩=> ?_,(k0A hi ⟨i,en,c,n,hie,hli,hdi⟩).1⟩;have hjl:=(ab.1 h1).1;simp only[m0q,hjl,if_true]at h3;have:=hi.inj i (f j) en _ b c n c0 n0 hie (hs.get j en0 h1) hli (by rw[h0x];exact h2) hdi h3;exact hno j dA (by rw[hgl j hjl];exact this.symm)
  refine⟨K',D',⟨g.os,g.tape,g.output,g.size,λb hb hm=>g.block b hb λh1=>hm<|hs.mem h1,g.cells,g.le,λb hb hm=>g.kk b hb λh1=>hm<|hs.mem h1,hdd,λb hm=> ?_⟩,
    ⟨λi hil=> ?_,λi en hie=> ?_,λi j en en' b c n c' n' hie hje hli hlj hdi hdj=> ?_,hi'.kw⟩, ?_⟩
  obtain⟨i,en,c,n,h1,h2,h3⟩:=hm;rcases hcase i en h1 with⟨j,en0,q1,q2,q3⟩|⟨_,q2,q3⟩;subst q2;subst q3;rw[hup]at h3;rw[h0x]at h2;rcases hblk j en0 b c n q1 h2 h3 with h4|h4;exact .inl<|hs.mem h4;exact .inr h4;rw[hDold i q3]at h3;exact .inl ⟨i,en,c,n,q2,h2,h3⟩;unfold d0y at hil;rw[hg,p1]at hil;simp only[D'];rw[yB dA];exact hi'.dom _ dA;rcases hcase i en hie with⟨j,en0,q1,q2,q3⟩|⟨q1,q2,q3⟩;subst q2;subst q3;exact F0d (hi'.ent j en0 q1) (λj x hx=>by rw[hup];exact hx) (λhn=>by rw[hup];exact hn);refine(hi.ent i en q2).keep hrep' (hDold i q3) λb c n hlv hd=> ?_;obtain⟨a1,a2⟩:=hapart i en b c n q1 q2 hlv hd;exact⟨g.block b a2 a1,g.kk b a2 a1⟩
  · rcases hcase i en hie with⟨ji,e1,q1,q2,q3⟩|⟨q1,q2,q3⟩<;>rcases hcase j en' hje with⟨jj,e2,r1,r2,r3⟩|⟨r1,r2,r3⟩
    subst q2;subst q3;subst r2;subst r3;rw[hup]at hdi hdj;rw[h0x]at hli hlj;rw[hi'.inj ji jj e1 e2 b c n c' n' q1 r1 hli hlj hdi hdj];exfalso;subst q2;subst q3;rw[hup]at hdi;rw[h0x]at hli;rw[hDold j r3]at hdj;obtain⟨a1,a2⟩:=hapart j en' b c' n' r1 r2 hlj hdj;rcases hblk ji e1 b c n q1 hli hdi with h4|h4;exact a1 h4;omega;exfalso;subst r2;subst r3;rw[hup]at hdj;rw[h0x]at hlj;rw[hDold i q3]at hdi;obtain⟨a1,a2⟩:=hapart i en b c n q1 q2 hli hdi;rcases hblk jj e2 b c' n' r1 hlj hdj with h4|h4;exact a1 h4;omega;rw[hDold i q3]at hdi;rw[hDold j r3]at hdj;exact hi.inj i j en en' b c n c' n' q2 r2 hli hlj hdi hdj
  exact m0Y hrep (λj x hx=>by rw[hup];exact hx)
theorem SC.frame{P:Program}{fid:FuncId}{args0:List SV}{H0:a0e}{v0:SV}{H0':a0e}(h:SC P fid args0 H0 v0 H0'){H:a0e}(hs:Sel H f H0)
    (hlive: ∀en∈H0,h0e en=jB) (ha:SV.refsL H0.length args0=jB) (hl:H0.length<=H0'.length):
    SC P fid (SV.rnL f args0) H (SV.rn (gOf f H0.length H.length) v0) (d0y f H0.length H H0'):=by
  refine⟨h.1,λw K D vals hlen hr hi hG=> ?_⟩;refine(h.2 w K (m0q D f H0.length) vals (by rw[hlen,b0O]) (λj x c hx hc=>h0q (hr j x (SV.rn f c) hx<|by rw[f0y,hc];rfl) c rfl<|e0V ha j c hc) (hs.hinv hi)<|j0t hG).mono ?_;rintro e w' ⟨r,he,hg⟩;exact⟨r,he,hg.frame hs hi hlive hl⟩
structure Fr where
  n:Nat
  w0:World
  K0:Nat->Nat
  D0:DM
  H0:a0e
  ds:List Deferred
structure Inv(F:Fr)(w:World)(K:Nat->Nat)(D:DM)(H:a0e)(ρ:Env)(tm:Array Value):Prop where
  slots:Slots F.n w K D ρ tm
  hinv:HInv w K D H
  grow:Grow F.w0 F.K0 F.D0 F.H0 w K D H
def St(F:Fr)(ρ:Env)(H:a0e)(a:Act)(w:World):Prop:=a.defers=F.ds/\ ∃K D,Inv F w K D H ρ a.tmps
def a0X(ops:Array Oper)(ρ:Env)(o:Oper):Option Bool:=
  match o.guard with
  |none=>vA jB
  |some (j,want)=>match(ops[j]?).bind (·.dst)with
    |some d=>match ρ d with
      | .bool b=>vA (b==want)
      | .tup _=>vA oA
      |_=>none
    |none=>none
def s0D(ρ:Env)(c:Call):Option (FuncId×List SV):=
  match c.callee with
  | .value f=>match a0B ρ f with
    |some (.fn (.func f) first captured)=>(c.args.toList.mapM<|a0B ρ).map λl=>(f,first++l++captured)
    |_=>none
  |_=>none
def b0R(o:Oper):Bool:=
  match o.op with
  | .call c=>match c.callee with
    | .value _=>jB
    |_=>oA
  |_=>oA
def g0w(ρ:Env)(o:Oper):Option (FuncId×List SV):=
  match o.op with
  | .call c=>s0D ρ c
  |_=>none
section
variable {P : Program}{F : Fr}{w : World}{K : Nat -> Nat}{D : DM}{H : a0e}{ρ : Env}{a : Act}{o : Oper}{ops : Array Oper}{Q : Exit -> Act -> World -> Prop}
def a0L(a:Act)(d:Option Tmp)(v:Value):(a.put d v).defers=a.defers:=by cases d<;>rfl
def Inv.step(h:Inv F w K D H ρ a.tmps){s:SV}{H':a0e}(g:Good w K D H r w' s H')(d:Option Nat): ∃K' D',Inv F w' K' D' H' (m0I ρ d s) (a.put d r).tmps:=by
  obtain⟨K',D',gr,hi,hr⟩:=g;exact⟨K',D',⟨(h.slots.mono λ_ _=>gr.rep).put d hr,hi,h.grow.trans gr⟩⟩
theorem b0x(h:Slots F.n w K D ρ a.tmps)(hb: ∀j want d,o.guard=vA (j,want)->(ops[j]?).bind (·.dst)=vA d->d<F.n){b:Bool}(hg:a0X ops ρ o=vA b):wG o (yielded ops a.tmps)=b:=by
  unfold a0X at hg;unfold wG
  cases hgd:o.guard with
  |none=>rw[hgd]at hg;cases hg;rfl
  |some p=>
    obtain⟨j,want⟩:=p;rw[hgd]at hg;simp only at hg⊢
    cases hd:(ops[j]?).bind (·.dst)with
    |none=>rw[hd]at hg;cases hg
    |some d=>
      rw[hd]at hg;simp only at hg;have hdn:=hb j want d hgd hd;have hr:=h.rep d hdn;have hdt:d<a.tmps.size:=by rw[h.size];exact hdn
      have hget:a.tmps[d]?=vA (a.tmps.getD d undef):=by simp[Array.getD,hdt]
      unfold yielded;rw[hd];simp only[ah,hget];split at hg;rename_i b' hv;cases hg;rw[hv]at hr;generalize a.tmps.getD d undef=x at hr;cases hr;simp;rename_i vs hv;cases hg;rw[hv]at hr;generalize a.tmps.getD d undef=x at hr;cases hr;rfl;cases hg
theorem F0D(h:Slots n w K D ρ a.tmps): ∀(l:List Operand) (r:List SV),(∀x∈l,Operand.inB n x=jB)->l.mapM (a0B ρ)=vA r->r.length=(l.map a.eval).length/\
    ∀(j:Nat) (v:Value) (c:SV),(l.map a.eval)[j]?=vA v->r[j]?=vA c->Rep w K D v c:=by
  intro l
  induction l with
  |nil=>intro r _ hr;simp at hr;subst hr;exact⟨rfl,λj v c e=>by simp at e⟩
  |cons x l ih=>
    intro r hb hr;simp only[cU]at hr
    cases hx1:a0B ρ x with
    |none=>rw[hx1]at hr;cases hr
    |some s1=>
      rw[hx1]at hr
      cases hr1:l.mapM (a0B ρ)with
      |none=>rw[hr1]at hr;cases hr
      |some r1=>
        rw[hr1]at hr;cases hr;obtain⟨i1,i2⟩:=ih r1 (λy hy=>hb y<|aq _ hy) hr1;refine⟨by simpa using i1,λj v c hv hc=> ?_⟩
        cases j with
        |zero=>simp at hv hc;subst hv;subst hc;exact a0i h (hb x<|aB ..) hx1
        |succ j=>exact i2 j v c (by simpa using hv) (by simpa using hc)
def w0X{f:FuncId}{fo:Operand}{fs caps:Array Value}(ho:o.op= .call c)(hcal:c.callee= .value fo)(hfv:a.eval fo= .func (.func f) fs caps)(hc:b0o P f=jB):
    (execOp a.eval o).run P w= .ok (.enter f (fs.toList++c.args.toList.map a.eval++caps.toList).toArray) w:=by
  unfold b0o at hc
  cases hfn:P.funcs[f]? with
  |none=>rw[hfn]at hc;cases hc
  |some fn=>
    rw[hfn]at hc;simp only[aa,cX]at hc;unfold execOp;simp only[ho,resolve,hcal,hfv,Deferred.ofValue,invoke,zD,vE,vC,callFunc,run_program,hfn,hc.2,aF,if_false];have hbs:fn.body.isNone=false:=by cases hbd:fn.body<;>simp[hbd]at hc⊢
    rw[hbs];simp only[aF,if_false,vE];congr 2;apply jK;simp
def r0R(h:Slots n w K D ρ a.tmps)(hb:Op.inB n o.op=jB){f:FuncId}{args:List SV}(hc:g0w ρ o=vA (f,args)):
    ∃vals:List Value,(b0o P f=jB->(execOp a.eval o).run P w= .ok (.enter f vals.toArray) w)/\vals.length=args.length/\(∀(j:Nat) (x:Value) (c:SV),vals[j]?=vA x->args[j]?=vA c->Rep w K D x c):=by
  unfold g0w at hc;split at hc;rename_i c ho;unfold s0D at hc;split at hc;rename_i fo hcal;split at hc;rename_i f' first captured hfe
  cases hl:c.args.toList.mapM (a0B ρ)with
  |none=>rw[hl]at hc;cases hc
  |some l=>
    rw[hl]at hc;cases hc;unfold Op.inB at hb;rw[aT]at hb;have hfr:=a0i h (hb fo<|by simp[ho,wB,Call.operands,hcal]) hfe;generalize hfv:a.eval fo=fv at hfr
    cases hfr with
    |fn _ fs caps _ _ hc1 hc2 hr1 hr2=>
      obtain⟨l1,l2⟩:=F0D h c.args.toList l (λx hx=>hb x<|by simp only[ho,wB,Call.operands];exact bv.2<|.inr<|aO.1 hx) hl;refine⟨fs++c.args.toList.map a.eval++caps,λhcb=>by simpa using w0X (P:=P) (w:=w) ho hcal hfv hcb,by simp[hc1,hc2];simpa using l1.symm,λj x y0 hx hy0=> ?_⟩;rw[aP]at hx hy0;have hle:(first++l).length=(fs++c.args.toList.map a.eval).length:=by simp only[az];omega
      rw[hle]at hy0;split at hx;rename_i hj;rw[vB hj]at hy0;rw[aP]at hx hy0;rw[hc1]at hy0;split at hx;rename_i hj2;rw[vB hj2]at hy0;exact hr1 j x y0 hx hy0;rename_i hj2;rw[yB hj2]at hy0;exact l2 _ x y0 hx hy0;rename_i hj;rw[yB hj]at hy0;exact hr2 _ x y0 hx hy0
  cases hc;cases hc;cases hc
theorem p0E(h:Inv F w K D H ρ a.tmps)(hd:a.defers=F.ds)(hb:Op.inB F.n o.op=jB){f:FuncId}{args:List SV}(hc:g0w ρ o=vA (f,args)){v:SV}{H':a0e}(hs:SC P f args H v H')
 (hK: ∀a' w',St F (m0I ρ o.dst v) H' a' w'->KR a' w'):o.wp P a w KR Q:=by
  obtain⟨vals,hrun,hl,hr⟩:=r0R (P:=P) h.slots hb hc;unfold Oper.wp;rw[hrun hs.1];refine(hs.2 w K D vals hl hr h.hinv h.slots.glob).mono ?_;rintro e w' ⟨r,rfl,g⟩;exact hK _ _ ⟨by rw[a0L];exact hd,h.step g o.dst⟩
theorem B0J(h:Inv F w K D H ρ a.tmps)(hd:a.defers=F.ds)(hb:Op.inB F.n o.op=jB){idx:Nat}(hidx:CanNew H idx){ef:Eff}(he:a0D P o ρ H idx=vA ef)
 (hK: ∀a' w',St F (m0I ρ o.dst ef.v) (b0a H ef.wr) a' w'->KR a' w'):o.wp P a w KR Q:=by
  obtain⟨r,w',hrun,g⟩:=A0r h.hinv h.slots hb hidx he;unfold Oper.wp;rcases hrun with hrun|⟨hrun,hr⟩;rw[hrun];exact hK _ _ ⟨by rw[a0L];exact hd,h.step g o.dst⟩;rw[hrun];subst hr;exact hK _ _ ⟨by rw[a0L];exact hd,h.step g o.dst⟩
theorem v0A(h:Inv F w K D H ρ a.tmps)(d:Option Nat):Inv F w K D H (m0I ρ d<|.tup []) (a.put d undef).tmps:=
  ⟨h.slots.put d<|.tup [] [] rfl λj v c e=>by simp at e,h.hinv,h.grow⟩
def Oper.inB(n:Nat)(ops:Array Oper)(o:Oper):Bool:=
  Op.inB n o.op&&(match o.guard with
    |none=>jB
    |some (j,_)=>match(ops[j]?).bind (·.dst)with
      |some d=>yA (d<n)
      |none=>jB)
def Oper.inB_guard(h:Oper.inB n ops o=jB): ∀j want d,o.guard=vA (j,want)->(ops[j]?).bind (·.dst)=vA d->d<n:=by
  intro j want d hg hd;unfold Oper.inB at h;rw[hg]at h;simp only[aa]at h;have:=h.2;rw[hd]at this;simpa using this
def Oper.inB_op(h:Oper.inB n ops o=jB):Op.inB n o.op=true:=by
  unfold Oper.inB at h;simp only[aa]at h;exact h.1
end
theorem Good.freeze{K:Nat->Nat}{D:DM}{H H':a0e}{e:Nat}{cs:List SV}(hg:Good w K D H r w' (.vc i) H')(hi:H'[i]?=vA (.vec n k e cs)):Good w K D H r w' (.lst n k cs) (H'.set i .gone):=by
  obtain⟨K1,D1,g,hv,hr⟩:=hg;have hil:i<H'.length:=(ab.1 hi).1;obtain⟨hp,hent⟩:=hv.ent i _ hi
  have hget: ∀j en,(H'.set i .gone)[j]?=vA en->(j=i/\en= .gone)\/(j≠i/\H'[j]?=vA en):=by
    intro j en hj;rw[aR]at hj;by_cases hji:i=j;subst hji;rw[vB rfl,vB hil]at hj;cases hj;exact .inl ⟨rfl,rfl⟩;rw[yB hji]at hj;exact .inr ⟨Ne.symm hji,hj⟩
  have key: ∃K':Nat->Nat,(∀b,K1 b<=K' b)/\(∀v,Rep w' K1 D1 v (.vc i)->Rep w' K' D1 v (.lst n k cs))/\(∀b,K' b≠K1 b->Mem D1 H' b)/\(∀j en b c n',j≠i->H'[j]?=vA en->h0e en=jB->D1 j=vA (.at b c n')->K' b=K1 b):=by
    rcases hent with⟨h1,h2,h3⟩|⟨b,c,vs,rest,h1,h2,h3,h4,h5,h6,h7,h8,h9⟩;subst h2;subst h3;refine⟨K1,λ_=>ak _,λv hv=> ?_,λb hb=>absurd rfl hb,λ_ _ _ _ _ _ _ _ _=>rfl⟩
    cases hv with
    |vcn _ ad hd=>exact .emp _ _ _
    |vc _ b c n hd=>rw[h1]at hd;cases hd
    have hmono: ∀b',K1 b'<=(if b'=b then n*k else K1 b'):=λb'=>by
      split;rename_i e1;subst e1;omega;exact ak _
    refine⟨λb'=>if b'=b then n*k else K1 b',hmono,λv hv=> ?_,λb' hb'=> ?_,λj en b' c' n' hji hj hl hdj=> ?_⟩
    cases hv with
    |vcn _ ad hd=>rw[h1]at hd;cases hd
    |vc _ b' c' n' hd=>
      rw[h1]at hd;cases hd;have hrow:=g0s h6 h9;have hm: ∀v s,Rep w' K1 D1 v s->Rep w' (λb'=>if b'=b then n*k else K1 b') D1 v s:=λv s hr=>hr.mono (λ_ _ _=>rfl) hmono (λ_ _ e=>e)
      exact .lst k b 0 n c vs cs h3 h7 h9.len h4 hrow.mem (by simp[h7]) h9.one hp (λj v c hv hc=>hm _ _<|h9.rep j v c hv hc)
    have:b'=b:=by
      rcases Nat.decEq b' b with hne|he;exact absurd (yB hne) hb';exact he
    subst this;exact⟨i,_,c,n,hi,rfl,h1⟩;refine yB λe1=> ?_
    subst e1;exact hji (hv.inj j i en _ b' c' n' c n hj hi hl rfl hdj h1)
  obtain⟨K',k1,k2,k3,k4⟩:=key;have hm: ∀v s,Rep w' K1 D1 v s->Rep w' K' D1 v s:=λv s hr=>hr.mono (λ_ _ _=>rfl) k1 (λ_ _ e=>e)
  have hmem: ∀b,Mem D1 (H'.set i .gone) b->Mem D1 H' b:=by
    rintro b ⟨j,en,c,n',q1,q2,q3⟩;rcases hget j en q1 with⟨_,rfl⟩|⟨_,g1⟩;cases q2;exact⟨j,en,c,n',g1,q2,q3⟩
  refine⟨K',D1,⟨g.os,g.tape,g.output,g.size,g.block,g.cells,λb=>aH (g.le b)<|k1 b,λb hb hmm=> ?_,g.dd,λb hmm=>g.new b<|hmem b hmm⟩,
    ⟨λj hj=>hv.dom j<|by simpa using hj,λj en hj=> ?_,λj j' en en' b c n1 c' n1' hj hj' hl hl' hdj hdj'=> ?_,λb hb=> ?_⟩,k2 _ hr⟩
  by_cases hbb:K' b=K1 b;rw[hbb];exact g.kk b hb hmm;rcases g.new b (k3 b hbb)with q|q;exact absurd q hmm;omega;rcases hget j en hj with⟨_,rfl⟩|⟨hne,g1⟩;trivial;exact(hv.ent j en g1).keep hm rfl λb c n' hl hd=>⟨rfl,k4 j en b c n' hne g1 hl hd⟩;rcases hget j en hj with⟨_,rfl⟩|⟨_,g1⟩;cases hl;rcases hget j' en' hj' with⟨_,rfl⟩|⟨_,g1'⟩;cases hl';exact hv.inj j j' en en' b c n1 c' n1' g1 g1' hl hl' hdj hdj';by_cases hbb:K' b=K1 b;rw[hbb]at hb;exact hv.kw b hb;exact(k0A hv<|k3 b hbb).1
def t0I(ef:Eff)(idx:Nat)(H:a0e):Option Eff:=
  match ef.v,ef.wr.getLast? with
  | .vc j,vA (i, .vec n k e cs)=>if i=idx/\j=idx/\idx<H.length then vA ⟨.lst n k cs,ef.rd,ef.wr++ [(idx, .gone)]⟩else none
  |_,_=>none
def n0k(P:Program)(o:Oper)(ρ:Env)(H:a0e)(idx:Nat):Option Eff:=
  match a0D P o ρ H idx with
  |some ef=>t0I ef idx H
  |none=>none
def m0d: ∀(a b:List<|Nat×Ent) (H:a0e),b0a H (a++b)=b0a (b0a H a) b
  | [],b,H=>rfl
  |(i,en)::a,b,H=>by simp only[bn,b0a];exact m0d a b _
def y0K(H:a0e)(i:Nat)(en:Ent):H.length<=(h0Y H i en).length:=by
  unfold h0Y;split<;>simp
def m0c: ∀(a:List<|Nat×Ent) (H:a0e),H.length<=(b0a H a).length
  | [],H=>ak _
  |(i,en)::a,H=>aH (y0K H i en)<|m0c a _
section
variable {P : Program}{n : Nat}{w : World}{K : Nat -> Nat}{D : DM}{H : a0e}{ρ : Env}{a : Act}{o : Oper}{idx : Nat}
theorem D0T(h:HInv w K D H)(hs:Slots n w K D ρ a.tmps)(hb:Op.inB n o.op=jB)(hidx:CanNew H idx){ef:Eff}(he:n0k P o ρ H idx=vA ef):q0R P w K D H o a ef.v (b0a H ef.wr):=by
  unfold n0k at he;split at he;rename_i ef0 h0;unfold t0I at he;split at he;rename_i j i m k e cs hv hlast;split at he;rename_i hc;obtain⟨e1,e2,hlt⟩:=hc;cases he;obtain⟨r,w',hrun,hg⟩:=A0r h hs hb hidx h0;rw[hv,e2]at hg;rw[e1]at hlast
  have hwr: ∃q,ef0.wr=q++ [(idx, .vec m k e cs)]:=by
    obtain⟨q,hq⟩:=List.getLast?_eq_some_iff.1 hlast;exact⟨q,hq⟩
  obtain⟨q,hwr⟩:=hwr;have hHl:idx<(b0a H ef0.wr).length:=bk hlt (m0c _ _)
  have hget:(b0a H ef0.wr)[idx]?=vA (.vec m k e cs):=by
    rw[hwr,m0d];have hl2:idx<(b0a H q).length:=bk hlt<|m0c _ _;simp only[b0a,h0Y,vB hl2];rw[aR,vB rfl,vB hl2]
  refine⟨r,w',hrun, ?_⟩;rw[m0d];simp only[b0a,h0Y,vB hHl];exact hg.freeze hget;cases he;cases he;cases he
def D0U{ρ':Env}{H':a0e}{ef:Eff}(h: ∀x∈o.op.operands,a0B ρ x=a0B ρ' x)(he:n0k P o ρ H idx=vA ef)(hl:H'.length=H.length)(hr: ∀i∈ef.rd,H'[i]?=H[i]?):n0k P o ρ' H' idx=vA ef:=by
  unfold n0k at he⊢
  split at he
  · rename_i ef0 h0
    have hrd:ef0.rd=ef.rd:=by
      unfold t0I at he
      split at he
      · split at he<;>cases he
        rfl
      cases he
    rw[n0j h h0<|by rw[hrd];exact hr];simp only;unfold t0I at he⊢;rw[hl];exact he
  cases he
end
section
variable {P : Program}{F : Fr}{w : World}{K : Nat -> Nat}{D : DM}{H : a0e}{ρ : Env}{a : Act}{o : Oper}{Q : Exit -> Act -> World -> Prop}
theorem L0W(h:Inv F w K D H ρ a.tmps)(hd:a.defers=F.ds)(hb:Op.inB F.n o.op=jB){idx:Nat}(hidx:CanNew H idx){ef:Eff}(he:n0k P o ρ H idx=vA ef)
 (hK: ∀a' w',St F (m0I ρ o.dst ef.v) (b0a H ef.wr) a' w'->KR a' w'):o.wp P a w KR Q:=by
  obtain⟨r,w',hrun,g⟩:=D0T h.hinv h.slots hb hidx he;unfold Oper.wp;rcases hrun with hrun|⟨hrun,hr⟩;rw[hrun];exact hK _ _ ⟨by rw[a0L];exact hd,h.step g o.dst⟩;rw[hrun];subst hr;exact hK _ _ ⟨by rw[a0L];exact hd,h.step g o.dst⟩
end
def B0T(P:Program)(t k:Nat):Bool:=match P.underlying t with
  |some (.slice e)=>oB k (P.cellsOf e)&&oD 0 k
  |_=>oA
def s0A{P:Program}{t:Nat}(h:B0T P t k=jB): ∃e,P.underlying t=vA (.slice e)/\k=P.cellsOf e/\0<k:=by
  unfold B0T at h;split at h;rename_i e he;simp only[aa]at h;exact⟨e,he,ae h.1,ag h.2⟩;cases h
def j0Y(P:Program)(o:Oper)(ρ:Env)(H:a0e):Option (Eff×Bool):=match o.op with
  | .slice t x (vA lo) none none=>match a0B ρ x,a0B ρ lo with
    |some (.vc i),vA (.int _ j)=>match H[i]? with
      |some (.vec n k _ _)=>vA (⟨.sl i (j.toNat*k) (n-j.toNat) k,[i],[]⟩,B0T P t k&&(yA (0<=j)&&yA (j<n)))
      |_=>none
    |_,_=>none
  | .slice t x none (vA hi) none=>match a0B ρ x,a0B ρ hi with
    |some (.vc i),vA (.int _ j)=>match H[i]? with
      |some (.vec n k _ _)=>vA (⟨.sl i 0 j.toNat k,[i],[]⟩,B0T P t k&&(oD 0 n&&(yA (0<=j)&&yA (j<=n))))
      |_=>none
    |_,_=>none
  | .call c=>match c.callee,c.args.toList,c.argTypes.toList with
    | .builtin .copy,[x,y],[t,tx]=>match a0B ρ x,a0B ρ y with
      |some (.sl i off n k),vA (.sl i2 off2 m k2)=>match H[i]? with
        |some (.vec N k3 e' cs)=>vA (⟨.int .i64 ((min m n:Nat):Int),[i],[(i, .vec N k3 e'<|splice cs off<|((cs.drop off2).take<|m*k).take<|min m n*k)]⟩,
            (oB i2 i&&(oB k2 k&&oB k3 k))&&(B0T P t k&&(B0T P tx k&&(yC (off+n*k) cs.length&&yC (off2+m*k) cs.length))))
        |_=>none
      |_,_=>none
    |_,_,_=>none
  |_=>none
section
variable {P : Program}{n : Nat}{w : World}{K : Nat -> Nat}{D : DM}{H : a0e}{ρ : Env}{a : Act}{o : Oper}
def L0t(h:HInv w K D H){e:Nat}{cs:List SV}(hr:Rep w K D v<|.vc i)(hi:H[i]?=vA (.vec m k e cs))(hm:0<m):
    ∃b c vs rest,v= .slice (vA ⟨b,0,none⟩) m c/\D i=vA (.at b c m)/\m<=c/\w.heap[b]?=vA (.cells (vs++rest).toArray e (0,0))/\CR w K D vs cs/\vs.length=m*k/\a0P cs=true:=by
  obtain⟨hp,hent⟩:=h.ent i _ hi;rcases hent with⟨h1,h2,h3⟩|⟨b,c,vs,rest,h1,h2,h3,h4,h5,h6,h7,h8,h9⟩;omega;refine⟨b,c,vs,rest, ?_,h1,h4,h6,h9,h7,hp⟩
  cases hr with
  |vcn _ ad hd=>rw[h1]at hd;cases hd
  |vc _ b' c' n' hd=>rw[h1]at hd;cases hd;rfl
theorem D0V(h:HInv w K D H)(hs:Slots n w K D ρ a.tmps)(hb:Op.inB n o.op=jB){ef:Eff}(he:j0Y P o ρ H=vA (ef,jB)):q0R P w K D H o a ef.v (b0a H ef.wr):=by
  unfold Op.inB at hb;rw[aT]at hb;unfold j0Y at he;split at he;rename_i t x lo ho;split at he;rename_i i kd j hx hlo;split at he;rename_i m k e cs hi;simp only[aj,aG,aa,decide_eq_true_eq]at he;obtain⟨rfl,hc,hj0,hj⟩:=he;obtain⟨e2,hu,hk,hk0⟩:=s0A hc;have hr:=a0i hs (hb x<|by simp[ho,wB]) hx;have hr2:=a0i hs (hb lo<|by simp[ho,wB]) hlo;generalize hv:a.eval x=vx at hr;generalize hv2:a.eval lo=vl at hr2;cases hr2;obtain⟨b,c,vs,rest,rfl,hd,hmc,_⟩:=L0t h hr hi dA;have hne: ¬c=j.toNat:=by omega
  refine g0h h (v:= .slice (vA ⟨b,j.toNat*k,none⟩) (m-j.toNat)<|c-j.toNat) ?_<|.sl i _ _ k b c m _ hd dA;unfold execOp;simp only[ho];have hjm:j<=(m:Int):=by omega
  simp[yG,wK,jE,oI,asIntOf,run_underlying hu,b0N (show 0<P.cellsOf e2 by rw[<-hk];exact hk0),hv,hv2,hj0,hjm,hne,Addr.add,<-hk];exact λq=>q.symm
  cases he;cases he;rename_i t x hi0 ho;split at he;rename_i i kd j hx hhi;split at he;rename_i m k e cs hi;simp only[aj,aG,aa,decide_eq_true_eq]at he;obtain⟨rfl,hc,hm0,hj0,hj⟩:=he;obtain⟨e2,hu,hk,hk0⟩:=s0A hc;have hm0:0<m:=ag hm0;have hr:=a0i hs (hb x<|by simp[ho,wB]) hx;have hr2:=a0i hs (hb hi0<|by simp[ho,wB]) hhi;generalize hv:a.eval x=vx at hr;generalize hv2:a.eval hi0=vl at hr2;cases hr2;obtain⟨b,c,vs,rest,rfl,hd,hmc,_⟩:=L0t h hr hi dA;have hc0: ¬c=0:=by omega
  refine g0h h (v:= .slice (vA ⟨b,0,none⟩) j.toNat c) ?_<|.sl i _ _ k b c m _ hd dA;unfold execOp;simp only[ho];have hjc:j<=(c:Int):=by omega
  simp[yG,wK,jE,oI,asIntOf,run_underlying hu,b0N (show 0<P.cellsOf e2 by rw[<-hk];exact hk0),hv,hv2,hj0,hjc,hc0,Addr.add,<-hk];cases he;cases he;rename_i c ho;split at he;rename_i x y t tx hcal hargs htys;have ha:c.args= #[x,y]:=by rw[<-bh];exact hargs
  have hty:c.argTypes= #[t,tx]:=by rw[<-bh];exact htys
  split at he;rename_i i off nn k i2 off2 m k2 hx hy;split at he;rename_i N k3 e' cs hi;simp only[aj,aG,aa]at he;obtain⟨rfl,⟨q1,q2,q3⟩,q4,q5,q6,q7⟩:=he;have q1:=ae q1;have q2:=ae q2;have q3:=ae q3;subst q1;subst q2;subst q3;obtain⟨e2,hu,hk,hk0⟩:=s0A q4;obtain⟨e3,hu3,_,_⟩:=s0A q5;have q6:=ag q6;have q7:=ag q7;have hil:i2<H.length:=(ab.1 hi).1;have hset: ∀en,h0Y H i2 en=H.set i2 en:=λen=>by unfold h0Y;rw[vB hil]
  simp only[b0a,hset]
  have hrun: ∀r w',(Builtin.copy_ #[t,tx] o.type #[a.eval x,a.eval y]).run P w= .ok r w'->(execOp a.eval o).run P w= .ok (.value r) w':=λr w' hr=>by
    unfold execOp;simp only[ho,resolve,hcal,ha,hty,invoke,builtin,zD,vE,vC,cg,ao,aI,hr]
  have hr:=a0i hs (hb x<|by simp only[ho,wB,Call.operands];exact bv.2<|.inr<|by rw[ha];simp) hx;have hr2:=a0i hs (hb y<|by simp only[ho,wB,Call.operands];exact bv.2<|.inr<|by rw[ha];simp) hy;generalize hv:a.eval x=vx at hr hrun;generalize hv2:a.eval y=vy at hr2 hrun
  cases hr with
  |sl _ _ _ _ b c1 m1 cap1 hd hcap1=>
    cases hr2 with
    |sl _ _ _ _ b2 c2 m2 cap2 hd2 hcap2=>
      rw[hd]at hd2;cases hd2;obtain⟨vs,rest,e4,hheap,hcr,_,_⟩:=w0b h hi hd rfl;have hp:a0P cs=true:=(h.ent _ _ hi).1;have hrow:=g0s hheap hcr;have hrow':=(hrow.drop off2).take<|m*k3;rw[bg]at hrow';have hvl:=hcr.len;have hsrc:SrcAt P w K D k3 tx (.slice (vA ⟨b,off2,none⟩) m cap2) m ((vs.drop off2).take<|m*k3) ((cs.drop off2).take<|m*k3):=p0O hu3 hrow' (by simp only[aE,bc];omega)<|f0B (i0e hp _) _;have hcx:CR w K D (((vs.drop off2).take<|m*k3).take<|min m nn*k3) (((cs.drop off2).take<|m*k3).take<|min m nn*k3):=hsrc.cr.take _;have hmk2:min m nn*k3<=nn*k3:=aK _<|Nat.min_le_right _ _;obtain⟨w',hst,hg,hiv⟩:=l0r (P:=P) (off:=off) h hi hd rfl (by rw[aE];omega) hcx λ_=>f0B (f0B (i0e hp _) _) _;exact⟨_,w', .inl<|hrun _ _<|w0g hu hk hk0 hsrc rfl hst,⟨K,D,hg,hiv, .int _ _⟩⟩
  cases he;cases he;cases he;cases he
theorem D0W{ρ':Env}{H':a0e}{ef:Eff}{b:Bool}(h: ∀x∈o.op.operands,a0B ρ x=a0B ρ' x)(he:j0Y P o ρ H=vA (ef,b))(hr: ∀i∈ef.rd,H'[i]?=H[i]?):j0Y P o ρ' H'=vA (ef,b):=by
  unfold j0Y at he⊢;split at he;rename_i t x lo ho;rw[<-h x (by simp[ho,wB]),<-h lo (by simp[ho,wB])];split at he;rename_i i kd j hx hlo;split at he;rename_i hi;cases he;rw[hr i dE,hi];cases he;cases he;rename_i t x hi0 ho;rw[<-h x (by simp[ho,wB]),<-h hi0 (by simp[ho,wB])];split at he;rename_i i kd j hx hlo;split at he;rename_i hi;cases he;rw[hr i dE,hi];cases he;cases he;rename_i c ho;split at he;rename_i x y t tx hcal hargs htys;have ha:c.args= #[x,y]:=by rw[<-bh];exact hargs
  rw[<-h x (by simp only[ho,wB,Call.operands];exact bv.2<|.inr<|by rw[ha];simp),<-h y (by simp only[ho,wB,Call.operands];exact bv.2<|.inr<|by rw[ha];simp)];split at he;rename_i i off nn k i2 off2 m k2 hx hy;split at he;rename_i hi;cases he;rw[hr i dE,hi];cases he;cases he;cases he;cases he
end
section
variable {P : Program}{F : Fr}{w : World}{K : Nat -> Nat}{D : DM}{H : a0e}{ρ : Env}{a : Act}{o : Oper}{Q : Exit -> Act -> World -> Prop}
theorem L0X(h:Inv F w K D H ρ a.tmps)(hd:a.defers=F.ds)(hb:Op.inB F.n o.op=jB){ef:Eff}(he:j0Y P o ρ H=vA (ef,jB))
 (hK: ∀a' w',St F (m0I ρ o.dst ef.v) (b0a H ef.wr) a' w'->KR a' w'):o.wp P a w KR Q:=by
  obtain⟨r,w',hrun,g⟩:=D0V h.hinv h.slots hb he;unfold Oper.wp;rcases hrun with hrun|⟨hrun,hr⟩;rw[hrun];exact hK _ _ ⟨by rw[a0L];exact hd,h.step g o.dst⟩;rw[hrun];subst hr;exact hK _ _ ⟨by rw[a0L];exact hd,h.step g o.dst⟩
end
end
end Go.Sy
