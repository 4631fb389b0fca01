import Derived.WalkKit
import Derived.Orders
import Derived.Deep.AppendSrc
import Derived.Deep.DeepAppendWide
import Derived.Laws.MakeOwn
import Derived.Laws.BytesString
import Derived.Laws.CopyRow
import Derived.Laws.Cover4
import Derived.Laws.IdiomStrings
import Derived.Laws.StructEq
import Derived.MapKept
set_option linter.all false
namespace Go.Sy
open Go Go.RowKit
open _root_.Array renaming ext'->yJ,range->wK,replicate->jE
open Go.Conv renaming runesFrom->wF
open Go.Instr renaming checkKey->oH,findAsking->qH,findKey->vH,findNow->oF,indexAt->zJ,sameNow->wI,slice->oJ,sliceAt->vG,sliceBound->vI,sliceBounds->wE,sureAddr->yH
open Go.IntKind renaming bits->jI,signed->wH,wrap->oA
open _root_.List renaming all_eq_true->vD,range'->jH,replicate->zD
open _root_.Nat renaming beq->vC,ble->qD,blt->qE
open Go.Op renaming equalIn->qI,operands->oB
open Go.Program renaming cellsOf->wJ
open Go.Region renaming wanted->jG
open Go.Result renaming andThen->oE,andThen_ok->jD
open Go.Sem renaming run_bind->yD,run_pure->vE
open _root_.UInt8 renaming ofNat->oI
open Go.Utf8 renaming encode->yI
open Go.Value renaming int->vJ
open Go.World renaming freeze->zK
open _root_.Decidable renaming decide->wB
open _root_.Bool renaming false->vB,true->yB
open _root_.Option renaming some->qB
abbrev qC:=@if_pos
abbrev wC:=@if_neg
abbrev oC:=@cond_true
abbrev oD:=@cond_false
abbrev jF:=@of_decide_eq_true
variable {w w':World} {K' f g:Nat->Nat} {v r z:Value} {j i b k n off len cap m nn:Nat} {vs us news:List Value} {P:Program} {op:BinOp} {t src dst e tx ty e' kt:TypeId} {x y:Operand} {s:Sem Value} {c:Call} {rd:List Nat} {KR:Act->World->Prop}
abbrev aa:= @Bool.and_eq_true
abbrev ab:= @List.getElem?_eq_some_iff
abbrev ae:= @Nat.eq_of_beq_eq_true
abbrev af:= @List.getElem?_eq_getElem
abbrev ag:= @Nat.le_of_ble_eq_true
abbrev ah:= @Option.some.injEq
abbrev ai:= @Option.bind_some
abbrev aj:= @Nat.le_refl
abbrev ak:= @Array.getElem?_eq_some_iff
abbrev al:= @List.map_cons
abbrev am:= @List.getD_eq_getElem?_getD
abbrev ao:= @List.mem_cons_of_mem
abbrev aq:= @List.getElem?_map
abbrev ar:= @Option.some.inj
abbrev au:= @List.mem_append
abbrev av:= @List.eq_nil_of_length_eq_zero
abbrev aw:= @List.mem_cons_self
abbrev ay:= @List.getElem?_eq_none
abbrev az:= @Int.le_refl
abbrev aA:= @List.length_append
abbrev aB:= @List.length_take
abbrev aC:= @List.flatMap_cons
abbrev aD:= @Prod.mk.injEq
abbrev aE:= @List.map_nil
abbrev aF:= @Bool.false_eq_true
abbrev aG:= @Nat.le_trans
abbrev aH:= @List.all_cons
abbrev aI:= @List.mem_of_getElem?
abbrev aJ:= @Nat.mul_le_mul_right
abbrev aK:= @Array.mem_toList_iff
abbrev aL:= @List.getElem?_append
abbrev aM:= @Array.getElem?_eq_getElem
abbrev aN:= @List.getElem?_set
abbrev aO:= @List.append_assoc
abbrev aP:= @List.getElem?_take
abbrev aQ:= @Array.all_eq_true_iff_forall_mem
abbrev aR:= @List.mem_singleton
abbrev aS:= @List.mem_cons
abbrev aT:= @Option.map_some
abbrev aU:= @Array.getD_eq_getD_getElem?
abbrev aV:= @List.length_drop
abbrev aW:= @List.length_cons
abbrev aX:= @List.mem_map
abbrev aY:= @Nat.zero_add
abbrev aZ:= @Array.toList_inj
abbrev ba:= @Nat.lt_of_lt_of_le
abbrev bc:= @List.all_nil
abbrev be:= @List.cons_append
abbrev bf:= @Nat.zero_le
abbrev bg:= @List.drop_eq_nil_of_le
abbrev bh:= @List.mem_range
abbrev bk:= @List.nil_append
abbrev bl:= @Option.getD_some
abbrev bn:= @Array.mem_append
abbrev bo:= @List.getElem?_range
abbrev bp:= @List.take_append_drop
abbrev bq:= @List.mem_iff_getElem?
abbrev br:= @Nat.eq_zero_or_pos
abbrev bu:= @Int.le_of_lt
abbrev bv:= @List.ext_getElem?
abbrev bw:= @Int.tdiv_eq_ediv_of_nonneg
abbrev bz:= @Nat.lt_of_succ_le
abbrev bA:= @Int.toNat_natCast
abbrev bB:= @List.map_congr_left
abbrev bC:= @List.getElem?_append_left
abbrev bD:= @Nat.sub_zero
abbrev bE:= @Int.le_trans
abbrev bF:= @Bool.and_eq_true_iff
abbrev bG:= @List.append_nil
abbrev bH:= @Bool.or_eq_true
abbrev bI:= @Array.getElem?_push
abbrev bJ:= @List.flatMap_append
abbrev bK:= @Nat.succ_mul
abbrev bL:= @Nat.lt_or_ge
abbrev bM:= @Array.getElem?_append_left
abbrev bN:= @List.getElem?_append_right
abbrev bO:= @List.drop_eq_getElem_cons
abbrev bQ:= @List.mem_of_mem_drop
abbrev bS:= @List.mem_of_mem_take
abbrev bT:= @Int.mul_le_mul_of_nonneg_left
abbrev bU:= @List.map_toArray
abbrev bV:= @Nat.add_mul
abbrev bW:= @List.map_map
abbrev bX:= @List.all_append
abbrev bY:= @List.length_nil
abbrev bZ:= @List.extract_eq_take_drop
abbrev ca:= @Nat.ble_eq
abbrev cf:= @List.getElem?_set_ne
abbrev cg:= @Array.length_toList
abbrev ci:= @List.getElem?_cons_zero
abbrev ck:= @Bool.true_and
abbrev cm:= @List.map_append
abbrev cn:= @Array.getElem?_eq_none
abbrev co:= @List.getElem?_set_self
abbrev cq:= @Nat.add_zero
abbrev cu:= @List.mem_append_right
abbrev cv:= @Array.getElem?_toList
abbrev cw:= @Bool.false_and
abbrev cx:= @Array.getElem?_modify
abbrev cy:= @List.mem_append_left
abbrev cz:= @List.getElem_mem
abbrev cA:= @Nat.div_lt_of_lt_mul
abbrev cB:= @List.not_mem_nil
abbrev cC:= @Int.tmod_eq_emod_of_nonneg
abbrev cD:= @Int.fdiv_eq_ediv_of_nonneg
abbrev cE:= @Nat.not_lt_zero
abbrev cG:= @List.set_cons_succ
abbrev cH:= @List.set_cons_zero
abbrev cI:= @List.mapM_cons
abbrev cJ:= @List.drop_zero
abbrev cK:= @Bool.not_eq_true'
abbrev cL:= @Nat.div_div_eq_div_mul
abbrev cM:= @List.mem_toArray
abbrev cN:= @Nat.mod_eq_of_lt
abbrev cO:= @List.drop_append
abbrev cP:= @List.mem_flatMap
abbrev cQ:= @Nat.blt_eq
abbrev cR:= @List.range_succ
abbrev cU:= @Nat.mul_comm
theorem cV {p:Prop} (h:p:=by omega):p:=h
theorem cY {p:Prop} (h:p:=by kernel_rfl):p:=h
theorem cZ {p:Prop} (h:p:=by simp only;omega):p:=h
theorem dA {p:Prop} (h:p:=by simp;omega):p:=h
theorem dB {p:Prop} (h:p:=by simp):p:=h
theorem dC {p:Prop} (h:p:=by decide):p:=h
def B0Q(n:Nat):Prop:=n<=4294967296
instance {n:Nat} :Decidable (B0Q n):=inferInstanceAs (Decidable (n<=4294967296))
inductive SV where
  |undef
  |bool (b:Bool)
  |int (k:IntKind) (n:Int)
  |str (s:List UInt8)
  |nl
  |lst (n k:Nat) (cs:List SV)
  |ep (cs:List SV)
  |agg (cs:List SV)
  |tup (vs:List SV)
  |ptr (i off:Nat)
  |vc (i:Nat)
  |sl (i off n k:Nat)
  |mp (i:Nat)
  |fn (f:Fn) (first captured:List SV)
  |nilp
  |yld (i:Nat)
def SV.plain:SV->Bool
  | .bool _=>yB
  | .int _ _=>yB
  | .str _=>yB
  | .nl=>yB
  | .lst _ _ _=>yB
  | .nilp=>yB
  |_=>vB
def a0Q(cs:List SV):Bool:=cs.all SV.plain
inductive Loc where
  |nil
  |at(b c n:Nat)
abbrev DM:=Nat->Option Loc
inductive Ent where
  |res
  |gone
  |box (cs:List SV)
  |vec (n k:Nat) (e:TypeId) (cs:List SV)
  |map (es:List (SV×SV))
  |itr (m n:Nat) (seen:List Nat)
  |pmap (es:List (SV×SV))
  |lop (tm:List SV) (ps:List Nat) (as bd:Code) (st:LoopState) (pd:Option Code)
  |dfr
abbrev a0e:=List Ent
theorem n0t {α β:Type} {f:α->β} : ∀(l:List α) (l':List β),l'.Perm (l.map f)-> ∃m:List α,m.Perm l/\m.map f=l'
  | [],l',h=>by have:=h.eq_nil;subst this;exact⟨[], .refl _,rfl⟩
  |a::r,l',h=>by
    obtain⟨s,t,rfl⟩:=List.append_of_mem (h.mem_iff.2 (dB:f a∈(a::r).map f));have h2:(s++t).Perm (r.map f):=(List.perm_middle.symm.trans h).cons_inv;obtain⟨m,hm,he⟩:=n0t r _ h2;obtain⟨m1,m2,rfl,rfl,rfl⟩:=List.map_eq_append_iff.1 he;exact⟨m1++a::m2,List.perm_middle.trans (hm.cons a),dB⟩
inductive Rep (w:World) (K:Nat->Nat) (D:DM):Value->SV->Prop
  |undef (v:Value):Rep w K D v .undef
  |bool (b:Bool):Rep w K D (.bool b) (.bool b)
  |int (k:IntKind) (n:Int):Rep w K D (.int k n) (.int k n)
  |str (s:ByteArray):Rep w K D (.string s) (.str s.data.toList)
  |nl (a:Option Addr):Rep w K D (.slice a 0 0) .nl
  |emp (k:Nat) (a:Option Addr) (cap:Nat):Rep w K D (.slice a 0 cap) (.lst 0 k [])
  |lst (k b off len cap:Nat) (vs:List Value) (cs:List SV) (hk:0<k) (hl:vs.length=len*k) (hc:cs.length=vs.length)
      (hcap:len<=cap) (hm: ∀j v,vs[j]?=qB v->w.cell? ⟨b,off+j,none⟩=qB v) (hK:off+vs.length<=K b)
      (h1: ∀v∈vs,v.oneCell'=yB) (hp:a0Q cs=yB) (h: ∀(j:Nat) (v:Value) (c:SV),vs[j]?=qB v->cs[j]?=qB c->Rep w K D v c):
      Rep w K D (.slice (qB ⟨b,off,none⟩) len cap) (.lst len k cs)
  |ep (b off:Nat) (vs:List Value) (cs:List SV) (hc:cs.length=vs.length)
      (hm: ∀j v,vs[j]?=qB v->w.cell? ⟨b,off+j,none⟩=qB v) (hK:off+vs.length<=K b)
      (h1: ∀v∈vs,v.oneCell'=yB) (hp:a0Q cs=yB) (h: ∀(j:Nat) (v:Value) (c:SV),vs[j]?=qB v->cs[j]?=qB c->Rep w K D v c):
      Rep w K D (.pointer (qB ⟨b,off,none⟩)) (.ep cs)
  |agg (vs:List Value) (cs:List SV) (hc:cs.length=vs.length) (h1: ∀v∈vs,v.oneCell'=yB)
      (h: ∀(j:Nat) (v:Value) (c:SV),vs[j]?=qB v->cs[j]?=qB c->Rep w K D v c):Rep w K D (.agg vs.toArray) (.agg cs)
  |tup (vs:List Value) (cs:List SV) (hc:cs.length=vs.length)
      (h: ∀(j:Nat) (v:Value) (c:SV),vs[j]?=qB v->cs[j]?=qB c->Rep w K D v c):Rep w K D (.tuple vs.toArray) (.tup cs)
  |ptr (i off b c n:Nat) (hd:D i=qB (.at b c n)):Rep w K D (.pointer (qB ⟨b,off,none⟩)) (.ptr i off)
  |vcn (i:Nat) (a:Option Addr) (hd:D i=qB .nil):Rep w K D (.slice a 0 0) (.vc i)
  |vc (i b c n:Nat) (hd:D i=qB (.at b c n)):Rep w K D (.slice (qB ⟨b,0,none⟩) n c) (.vc i)
  |sl (i off n k b c m cap:Nat) (hd:D i=qB (.at b c m)) (hn:n<=cap):Rep w K D (.slice (qB ⟨b,off,none⟩) n cap) (.sl i off n k)
  |mp (i r c n:Nat) (hd:D i=qB (.at r c n)):Rep w K D (.map (qB r)) (.mp i)
  |fn (f:Fn) (fs caps:List Value) (gs dcs:List SV) (hc:gs.length=fs.length) (hd:dcs.length=caps.length)
      (h: ∀(j:Nat) (v:Value) (c:SV),fs[j]?=qB v->gs[j]?=qB c->Rep w K D v c)
      (h': ∀(j:Nat) (v:Value) (c:SV),caps[j]?=qB v->dcs[j]?=qB c->Rep w K D v c):
      Rep w K D (.func f fs.toArray caps.toArray) (.fn f gs dcs)
  |nilp:Rep w K D (.pointer none) .nilp
  |yld (i l c n:Nat) (hd:D i=qB (.at l c n)):Rep w K D (.func (.yield l) #[] #[]) (.yld i)
theorem Rep.mono {K:Nat->Nat} {D D':DM} (hw: ∀b j,j<K b->w'.cell? ⟨b,j,none⟩=w.cell? ⟨b,j,none⟩)
    (hK: ∀b,K b<=K' b) (hD: ∀i x,D i=qB x->D' i=qB x) {s:SV} (h:Rep w K D v s):Rep w' K' D' v s:=by
  induction h with
  |undef v=>exact .undef v
  |bool b=>exact .bool b
  |int k n=>exact .int k n
  |str s=>exact .str s
  |nl a=>exact .nl a
  |emp k a cap=>exact .emp k a cap
  |lst k b off len cap vs cs hk hl hc hcap hm hKb h1 hp _ ih=>
    refine .lst k b off len cap vs cs hk hl hc hcap (λj v hj=> ?_) (aG hKb (hK b)) h1 hp ih;rw[hw b (off+j) (by have:=(ab.1 hj).1;omega)];exact hm j v hj
  |ep b off vs cs hc hm hKb h1 hp _ ih=>
    refine .ep b off vs cs hc (λj v hj=> ?_) (aG hKb (hK b)) h1 hp ih;rw[hw b (off+j) (by have:=(ab.1 hj).1;omega)];exact hm j v hj
  |agg vs cs hc h1 _ ih=>exact .agg vs cs hc h1 ih
  |tup vs cs hc _ ih=>exact .tup vs cs hc ih
  |ptr i off b c n hd=>exact .ptr i off b c n (hD _ _ hd)
  |vcn i a hd=>exact .vcn i a (hD _ _ hd)
  |vc i b c n hd=>exact .vc i b c n (hD _ _ hd)
  |sl i off n k b c m cap hd hn=>exact .sl i off n k b c m cap (hD _ _ hd) hn
  |mp i r c n hd=>exact .mp i r c n (hD _ _ hd)
  |fn f fs caps gs dcs hc hd _ _ ih ih'=>exact .fn f fs caps gs dcs hc hd ih ih'
  |nilp=>exact .nilp
  |yld i l c n hd=>exact .yld i l c n (hD _ _ hd)
theorem f0w {cs:List SV} (h:a0Q cs=yB) {c:SV} (hc:cs[j]?=qB c):c.plain=true:=
  List.all_eq_true.1 h c (aI hc)
theorem Rep.plain {K:Nat->Nat} {D D':DM} {s:SV} (h:Rep w K D v s)(hp:s.plain=yB):Rep w K D' v s:=by
  induction h with
  |bool b=>exact .bool b
  |int k n=>exact .int k n
  |str s=>exact .str s
  |nl a=>exact .nl a
  |emp k a cap=>exact .emp k a cap
  |lst k b off len cap vs cs hk hl hc hcap hm hKb h1 hp' _ ih=>
    exact .lst k b off len cap vs cs hk hl hc hcap hm hKb h1 hp' (λj v c hv hcc=>ih j v c hv hcc (f0w hp' hcc))
  |nilp=>exact .nilp
  |_=>cases hp
theorem x0b {K:Nat->Nat} {D:DM} {s:SV} (h:Rep w K D v s)(hp:s.plain=yB):v.oneCell'=true:=by
  cases h<;>first|rfl|cases hp
structure CR (w:World) (K:Nat->Nat) (D:DM) (vs:List Value) (cs:List SV):Prop where
  len:cs.length=vs.length
  one: ∀v∈vs,v.oneCell'=yB
  rep: ∀(j:Nat) (v:Value) (c:SV),vs[j]?=qB v->cs[j]?=qB c->Rep w K D v c
def h0p(en:Ent):Bool:=match en with
  | .res=>vB
  | .gone=>vB
  |_=>yB
def Mem(D:DM)(H:a0e)(b:Nat):Prop:= ∃i en c n,H[i]?=qB en/\h0p en=yB/\D i=qB (.at b c n)
def M0b(mes:Array MapEntry)(clock:Nat):Prop:=clock=mes.size/\ ∀(j:Nat) (me:MapEntry),mes[j]?=qB me->me.born=j
def EntOk(w:World)(K:Nat->Nat)(D:DM)(i:Nat):Ent->Prop
  | .res=>D i=none
  | .gone=>True
  | .box cs=> ∃b vs e,D i=qB (.at b 0 0)/\K b=0/\w.heap[b]?=qB (.cells vs.toArray e (0,0))/\CR w K D vs cs
  | .vec n k e cs=>a0Q cs=yB/\((D i=qB .nil/\n=0/\cs=[])\/ ∃b c vs rest,D i=qB (.at b c n)/\K b=0/\0<k/\n<=c/\c<=maxLen/\
      w.heap[b]?=qB (.cells (vs++rest).toArray e (0,0))/\vs.length=n*k/\(vs++rest).length=c*k/\CR w K D vs cs)
  | .map es=> ∃r mes clock,D i=qB (.at r 0 0)/\K r=0/\w.heap[r]?=qB (.map mes clock)/\es.length=mes.size/\M0b mes clock/\
      ∀(j:Nat) (me:MapEntry) (kv:SV×SV),mes[j]?=qB me->es[j]?=qB kv->Rep w K D me.key kv.1/\Rep w K D me.val kv.2
  | .pmap es=> ∃(es':List (SV×SV)) (r:Nat) (mes:Array MapEntry) (clock:Nat),es'.Perm es/\D i=qB (.at r 0 0)/\K r=0/\w.heap[r]?=qB (.map mes clock)/\es'.length=mes.size/\M0b mes clock/\
      ∀(j:Nat) (me:MapEntry) (kv:SV×SV),mes[j]?=qB me->es'[j]?=qB kv->Rep w K D me.key kv.1/\Rep w K D me.val kv.2
  | .itr m n seen=> ∃r bm c0,D i=qB (.at r 0 0)/\K r=0/\w.heap[r]?=qB (.mapIter (qB bm) n seen.toArray c0)/\c0=n/\Rep w K D (.map (qB bm)) (.mp m)
  | .lop tm ps as bd st pd=> ∃l r,D i=qB (.at l 0 0)/\K l=0/\w.heap[l]?=qB (.loop r)/\r.params=ps.toArray/\r.assign=as/\r.body=bd/\r.state=st/\r.pending=pd/\r.tmps.size=tm.length/\
      ∀(j:Nat) (v:Value) (c:SV),r.tmps[j]?=qB v->tm[j]?=qB c->Rep w K D v c
  | .dfr=> ∃b,D i=qB (.at b 0 0)/\K b=0/\w.heap[b]?=qB (.deferred (qB []))
structure HInv (w:World) (K:Nat->Nat) (D:DM) (H:a0e):Prop where
  dom: ∀i,H.length<=i->D i=none
  ent: ∀i en,H[i]?=qB en->EntOk w K D i en
  inj: ∀i j en en' b c n c' n',H[i]?=qB en->H[j]?=qB en'->h0p en=yB->h0p en'=yB->D i=qB (.at b c n)->D j=qB (.at b c' n')->i=j
  kw: ∀b,K b≠0->b<w.heap.size
structure Grow (w:World) (K:Nat->Nat) (D:DM) (H:a0e) (w':World) (K':Nat->Nat) (D':DM) (H':a0e):Prop where
  os:w'.os=w.os
  tape:w'.tape=w.tape
  output:w'.output=w.output
  size:w.heap.size<=w'.heap.size
  block: ∀b,b<w.heap.size-> ¬Mem D H b->w'.heap[b]?=w.heap[b]?
  cells: ∀b j,j<K b->w'.cell? ⟨b,j,none⟩=w.cell? ⟨b,j,none⟩
  le: ∀b,K b<=K' b
  kk: ∀b,b<w.heap.size-> ¬Mem D H b->K' b=K b
  dd: ∀i x,D i=qB x->D' i=qB x
  new: ∀b,Mem D' H' b->Mem D H b\/w.heap.size<=b
theorem Grow.refl(w:World)(K:Nat->Nat)(D:DM)(H:a0e):Grow w K D H w K D H:=
  ⟨rfl,rfl,rfl,aj _,λ_ _ _=>rfl,λ_ _ _=>rfl,λ_=>aj _,λ_ _ _=>rfl,λ_ _ h=>h,λ_ h=> .inl h⟩
theorem Grow.trans {w1 w2:World} {K K1 K2:Nat->Nat} {D D1 D2:DM} {H H1 H2:a0e} (g:Grow w K D H w1 K1 D1 H1)(g':Grow w1 K1 D1 H1 w2 K2 D2 H2):Grow w K D H w2 K2 D2 H2:=by
  have hn: ∀b,b<w.heap.size-> ¬Mem D H b-> ¬Mem D1 H1 b:=λb hb hm h=>by
    rcases g.new b h with h|h;exact hm h;omega
  refine⟨g'.os.trans g.os,g'.tape.trans g.tape,g'.output.trans g.output,aG g.size g'.size,λb hb hm=> ?_,λb j hj=> ?_,λb=>aG (g.le b) (g'.le b),λb hb hm=> ?_,λi x h=>g'.dd i x (g.dd i x h),λb h=> ?_⟩;rw[g'.block b (ba hb g.size) (hn b hb hm)];exact g.block b hb hm;rw[g'.cells b j (ba hj (g.le b))];exact g.cells b j hj;rw[g'.kk b (ba hb g.size) (hn b hb hm)];exact g.kk b hb hm;rcases g'.new b h with h|h;exact g.new b h;exact .inr (aG g.size h)
theorem Grow.rep {K:Nat->Nat} {D D':DM} {H H':a0e} (g:Grow w K D H w' K' D' H') {s:SV} (h:Rep w K D v s):Rep w' K' D' v s:=
  h.mono g.cells g.le g.dd
theorem CR.mono {K:Nat->Nat} {D D':DM} (hr: ∀v s,Rep w K D v s->Rep w' K' D' v s) {cs:List SV} (h:CR w K D vs cs):CR w' K' D' vs cs:=
  ⟨h.len,h.one,λj v c hv hc=>hr _ _ (h.rep j v c hv hc)⟩
theorem World.drew_rep {K:Nat->Nat} {D:DM} {s:SV} (h:Rep w K D v s):Rep w.drew K D v s:=
  Rep.mono (w:=w) (w':=w.drew) (λ_ _ _=>rfl) (λ_=>aj _) (λ_ _ e=>e) h
theorem EntOk.keep {K:Nat->Nat} {D D':DM} {en:Ent} (h:EntOk w K D i en)(hr: ∀v s,Rep w K D v s->Rep w' K' D' v s)(hd:D' i=D i)
    (hb: ∀b c n,h0p en=yB->D i=qB (.at b c n)->w'.heap[b]?=w.heap[b]?/\K' b=K b):EntOk w' K' D' i en:=by
  cases en with
  |res=>simpa only[EntOk,hd]using h
  |gone=>trivial
  |box cs=>
    obtain⟨b,vs,e,h1,h2,h3,h4⟩:=h;obtain⟨g1,g2⟩:=hb b 0 0 rfl h1;exact⟨b,vs,e,by rw[hd];exact h1,by rw[g2];exact h2,by rw[g1];exact h3,h4.mono hr⟩
  |vec n k e cs=>
    obtain⟨hp,h⟩:=h;refine⟨hp, ?_⟩;rcases h with⟨h1,h2,h3⟩|⟨b,c,vs,rest,h1,h2,h3,h4,h5,h6,h7,h8,h9⟩;exact .inl ⟨by rw[hd];exact h1,h2,h3⟩;obtain⟨g1,g2⟩:=hb b c n rfl h1;exact .inr ⟨b,c,vs,rest,by rw[hd];exact h1,by rw[g2];exact h2,h3,h4,h5,by rw[g1];exact h6,h7,h8,h9.mono hr⟩
  |map es=>
    obtain⟨r,mes,clock,h1,h2,h3,h4,hB,h5⟩:=h;obtain⟨g1,g2⟩:=hb r 0 0 rfl h1;exact⟨r,mes,clock,by rw[hd];exact h1,by rw[g2];exact h2,by rw[g1];exact h3,h4,hB,λj me kv hm hk=>⟨hr _ _ (h5 j me kv hm hk).1,hr _ _ (h5 j me kv hm hk).2⟩⟩
  |pmap es=>
    obtain⟨es',r,mes,clock,hp,h1,h2,h3,h4,hB,h5⟩:=h;obtain⟨g1,g2⟩:=hb r 0 0 rfl h1;exact⟨es',r,mes,clock,hp,by rw[hd];exact h1,by rw[g2];exact h2,by rw[g1];exact h3,h4,hB,λj me kv hm hk=>⟨hr _ _ (h5 j me kv hm hk).1,hr _ _ (h5 j me kv hm hk).2⟩⟩
  |itr m n seen=>
    obtain⟨r,bm,c0,h1,h2,h3,h4,h5⟩:=h;obtain⟨g1,g2⟩:=hb r 0 0 rfl h1;exact⟨r,bm,c0,by rw[hd];exact h1,by rw[g2];exact h2,by rw[g1];exact h3,h4,hr _ _ h5⟩
  |lop tm ps as bd st pd=>
    obtain⟨l,r,h1,h2,h3,h4,h5,h6,h7,h8,h9,h10⟩:=h;obtain⟨g1,g2⟩:=hb l 0 0 rfl h1;exact⟨l,r,by rw[hd];exact h1,by rw[g2];exact h2,by rw[g1];exact h3,h4,h5,h6,h7,h8,h9,λj v c hv hc=>hr _ _ (h10 j v c hv hc)⟩
  |dfr=>
    obtain⟨b,h1,h2,h3⟩:=h;obtain⟨g1,g2⟩:=hb b 0 0 rfl h1;exact⟨b,by rw[hd];exact h1,by rw[g2];exact h2,by rw[g1];exact h3⟩
theorem k0I {K:Nat->Nat} {D:DM} {H:a0e} (h:HInv w K D H) (hm:Mem D H b):b<w.heap.size/\K b=0:=by
  obtain⟨i,en,c,n,hi,hl,hd⟩:=hm;have he:=h.ent i en hi
  cases en with
  |res=>cases hl
  |gone=>cases hl
  |box cs=>
    obtain⟨b',vs,e,h1,h2,h3,_⟩:=he;rw[h1]at hd;cases hd;exact⟨(ak.1 h3).1,h2⟩
  |vec m k e cs=>
    rcases he.2 with⟨h1,_⟩|⟨b',c',vs,rest,h1,h2,_,_,_,h6,_⟩;rw[h1]at hd;cases hd;rw[h1]at hd;cases hd;exact⟨(ak.1 h6).1,h2⟩
  |map es=>
    obtain⟨r,mes,clock,h1,h2,h3,_⟩:=he;rw[h1]at hd;cases hd;exact⟨(ak.1 h3).1,h2⟩
  |pmap es=>
    obtain⟨es',r,mes,clock,_,h1,h2,h3,_⟩:=he;rw[h1]at hd;cases hd;exact⟨(ak.1 h3).1,h2⟩
  |itr m n' seen=>
    obtain⟨r,bm,c0,h1,h2,h3,_⟩:=he;rw[h1]at hd;cases hd;exact⟨(ak.1 h3).1,h2⟩
  |lop tm ps as bd st pd=>
    obtain⟨l,r,h1,h2,h3,_⟩:=he;rw[h1]at hd;cases hd;exact⟨(ak.1 h3).1,h2⟩
  |dfr=>
    obtain⟨b',h1,h2,h3⟩:=he;rw[h1]at hd;cases hd;exact⟨(ak.1 h3).1,h2⟩
def Good(w:World)(K:Nat->Nat)(D:DM)(H:a0e)(r:Value)(w':World)(s:SV)(H':a0e):Prop:=
  ∃K' D',Grow w K D H w' K' D' H'/\HInv w' K' D' H'/\Rep w' K' D' r s
theorem Good.here {K:Nat->Nat} {D:DM} {H:a0e} {s:SV} (hi:HInv w K D H)(h:Rep w K D r s):Good w K D H r w s H:=
  ⟨K,D,Grow.refl _ _ _ _,hi,h⟩
theorem HInv.drew {K:Nat->Nat} {D:DM} {H:a0e} (h:HInv w K D H):HInv w.drew K D H:=
  ⟨h.dom,λi en hi=>(h.ent i en hi).keep (λ_ _=>World.drew_rep) rfl (λ_ _ _ _ _=>⟨rfl,rfl⟩),h.inj,h.kw⟩
theorem Grow.drew(w:World)(K:Nat->Nat)(D:DM)(H:a0e):Grow w K D H w.drew K D H:=
  ⟨rfl,rfl,rfl,aj _,λ_ _ _=>rfl,λ_ _ _=>rfl,λ_=>aj _,λ_ _ _=>rfl,λ_ _ h=>h,λ_ h=> .inl h⟩
section
def p0K:Value->Option SV
  | .bool b=>qB (.bool b)
  | .int k n=>qB (.int k n)
  | .string s=>qB (.str s.data.toList)
  | .slice none 0 0=>qB .nl
  | .pointer none=>qB .nilp
  |_=>none
structure GT where
  tab:Nat->Option (List SV)
def L0V [G:Inhabited GT](g:Nat):Option (List SV):=G.default.tab g
variable [Inhabited GT]
def a0G(ρ:Nat->SV):Operand->Option SV
  | .tmp t=>qB (ρ t)
  | .const v=>qB ((p0K v).getD .undef)
  | .func f=>qB (.fn (.func f) [] [])
  | .global g=>(L0V g).map .ep
def v0K(P:Program)(t:TypeId):Bool:=match P.underlying t with
  |some .bool=>yB
  |_=>vB
def k0z(bt:Bool)(op:BinOp)(a b:SV):Option SV:=
  match op with
  | .add=>match a,b with
    | .int k x, .int k' y=>if k=k' then qB (.int k (k.wrap (x+y)))else none
    | .str s, .str t=>if B0Q (s.length+t.length)then qB (.str (s++t))else none
    |_,_=>none
  | .sub=>match a,b with
    | .int k x, .int k' y=>if k=k' then qB (.int k (k.wrap (x-y)))else none
    |_,_=>none
  | .mul=>match a,b with
    | .int k x, .int k' y=>if k=k' then qB (.int k (k.wrap (x*y)))else none
    |_,_=>none
  | .quo=>match a,b with
    | .int k x, .int k' y=>if k=k' then(if y=0 then none else qB (.int k (k.wrap (x.tdiv y))))else none
    |_,_=>none
  | .rem=>match a,b with
    | .int k x, .int k' y=>if k=k' then(if y=0 then none else qB (.int k (x.tmod y)))else none
    |_,_=>none
  | .and=>match a,b with
    | .int k x, .int k' y=>if k=k' then qB (.int k (bits .and k x y))else none
    |_,_=>none
  | .or=>match a,b with
    | .int k x, .int k' y=>if k=k' then qB (.int k (bits .or k x y))else none
    |_,_=>none
  | .xor=>match a,b with
    | .int k x, .int k' y=>if k=k' then qB (.int k (bits .xor k x y))else none
    |_,_=>none
  | .andNot=>match a,b with
    | .int k x, .int k' y=>if k=k' then qB (.int k (bits .andNot k x y))else none
    |_,_=>none
  | .shl=>match a,b with
    | .int k x, .int _ y=>if y<0 then none else qB (.int k (k.wrap (x*2^(min y.toNat k.bits))))
    |_,_=>none
  | .shr=>match a,b with
    | .int k x, .int _ y=>if y<0 then none else qB (.int k (x.fdiv (2^(min y.toNat k.bits))))
    |_,_=>none
  | .eql=>match a,b with
    | .int k x, .int k' y=>if k=k' then qB (.bool (wB (x=y)))else none
    | .bool x, .bool y=>if bt then qB (.bool (x==y))else none
    | .str s, .str t=>qB (.bool (s==t))
    |_,_=>none
  | .neq=>match a,b with
    | .int k x, .int k' y=>if k=k' then qB (.bool (wB (¬x=y)))else none
    | .bool x, .bool y=>if bt then qB (.bool (x !=y))else none
    | .str s, .str t=>qB (.bool (s !=t))
    |_,_=>none
  | .lss=>match a,b with
    | .int k x, .int k' y=>if k=k' then qB (.bool (wB (x<y)))else none
    | .str s, .str t=>qB (.bool (Op.bytesLess s t))
    |_,_=>none
  | .leq=>match a,b with
    | .int k x, .int k' y=>if k=k' then qB (.bool (wB (x<=y)))else none
    | .str s, .str t=>qB (.bool (Op.bytesLess s t||s==t))
    |_,_=>none
  | .gtr=>match a,b with
    | .int k x, .int k' y=>if k=k' then qB (.bool (wB (x>y)))else none
    | .str s, .str t=>qB (.bool !(Op.bytesLess s t||s==t))
    |_,_=>none
  | .geq=>match a,b with
    | .int k x, .int k' y=>if k=k' then qB (.bool (wB (x≥y)))else none
    | .str s, .str t=>qB (.bool !(Op.bytesLess s t))
    |_,_=>none
theorem m0n(s:ByteArray):s.toList=s.data.toList:=ByteArray.toList_eq s
theorem p0p (s:Sem Unit)(t:Sem Value)(hs:s=pure ()):(do s;t:Sem Value).run P w=t.run P w:=by
  subst hs;rfl
theorem j0h {k:IntKind} {a b:Int}
    (h:(binOp op t (.int k a) (.int k b)).run P w= .ok r w):(do eqGuard op t x y (.int k a) (.int k b);binOp op t (.int k a) (.int k b):Sem Value).run P w= .ok r w:=by
  rw[p0p _ _ (by cases op<;>rfl)];exact h
theorem A0x {a b:Bool}
    (h:(binOp op t (.bool a) (.bool b)).run P w= .ok r w):(do eqGuard op t x y (.bool a) (.bool b);binOp op t (.bool a) (.bool b):Sem Value).run P w= .ok r w:=by
  rw[p0p _ _ (by cases op<;>rfl)];exact h
theorem w0f {a b:ByteArray}
    (h:(binOp op t (.string a) (.string b)).run P w= .ok r w):(do eqGuard op t x y (.string a) (.string b);binOp op t (.string a) (.string b):Sem Value).run P w= .ok r w:=by
  rw[p0p _ _ (by cases op<;>rfl)];exact h
def PureV(P:Program)(w:World)(K:Nat->Nat)(D:DM)(s:Sem Value)(c:SV):Prop:=
  ∃r,s.run P w= .ok r w/\Rep w K D r c
section
variable {P : Program} {w : World} {K : Nat -> Nat} {D : DM}
theorem PureV.int {k:IntKind} {n:Int} (h:s.run P w= .ok (.int k n) w):PureV P w K D s (.int k n):=⟨_,h, .int _ _⟩
theorem PureV.bool {b:Bool} (h:s.run P w= .ok (.bool b) w):PureV P w K D s (.bool b):=⟨_,h, .bool _⟩
theorem PureV.str {b:ByteArray} {l:List UInt8} (h:s.run P w= .ok (.string b) w)(hl:l=b.data.toList):PureV P w K D s (.str l):=by subst hl;exact⟨_,h, .str _⟩
end
theorem r0J (h:v0K P t=yB):P.underlying t=qB .bool:=by
  unfold v0K at h;split at h<;>first|assumption|cases h
theorem z0o {K:Nat->Nat} {D:DM} {u:Value} {a b c:SV}
    (hu:Rep w K D u a) (hv:Rep w K D v b) (h:k0z (v0K P t) op a b=qB c):PureV P w K D (do eqGuard op t x y u v;binOp op t u v:Sem Value) c:=by
  cases op
  case add=>
    simp only[k0z]at h
    split at h
    · cases hu;cases hv;split at h<;>cases h
      rename_i hk;subst hk;exact .int (j0h (by simp[binOp,Op.intArith]))
    · cases hu;cases hv;split at h<;>cases h
      rename_i hl;unfold B0Q at hl
      exact .str (w0f (by
        simp only[binOp,Op.stringOp]
        rw[wC (by simp[IntKind.max,wH,jI]at hl⊢;omega)];rfl)) dB
    cases h
  case sub=>
    simp only[k0z]at h
    split at h
    · cases hu;cases hv;split at h<;>cases h
      rename_i hk;subst hk;exact .int (j0h (by simp[binOp,Op.intArith]))
    cases h
  case mul=>
    simp only[k0z]at h
    split at h
    · cases hu;cases hv;split at h<;>cases h
      rename_i hk;subst hk;exact .int (j0h (by simp[binOp,Op.intArith]))
    cases h
  case quo=>
    simp only[k0z]at h
    split at h
    · cases hu;cases hv;split at h<;>try cases h
      rename_i hk;subst hk;split at h<;>cases h
      rename_i hy;exact .int (j0h (by simp[binOp,Op.intDiv,hy]))
    cases h
  case rem=>
    simp only[k0z]at h
    split at h
    · cases hu;cases hv;split at h<;>try cases h
      rename_i hk;subst hk;split at h<;>cases h
      rename_i hy;exact .int (j0h (by simp[binOp,Op.intDiv,hy]))
    cases h
  case and=>
    simp only[k0z]at h
    split at h
    · cases hu;cases hv;split at h<;>cases h
      rename_i hk;subst hk;exact .int (j0h (by simp[binOp,intBits_and]))
    cases h
  case or=>
    simp only[k0z]at h
    split at h
    · cases hu;cases hv;split at h<;>cases h
      rename_i hk;subst hk;exact .int (j0h (by simp[binOp,intBits_or]))
    cases h
  case xor=>
    simp only[k0z]at h
    split at h
    · cases hu;cases hv;split at h<;>cases h
      rename_i hk;subst hk;exact .int (j0h (by simp[binOp,intBits_xor]))
    cases h
  case andNot=>
    simp only[k0z]at h
    split at h
    · cases hu;cases hv;split at h<;>cases h
      rename_i hk;subst hk;exact .int (j0h (by simp[binOp,intBits_andNot]))
    cases h
  case shl=>
    simp only[k0z]at h
    split at h
    · cases hu;cases hv;split at h<;>cases h
      rename_i hy;exact .int (by rw[p0p _ _ (show eqGuard .shl t x y _ _=pure ()from rfl)];simp[binOp,Op.shift,hy])
    cases h
  case shr=>
    simp only[k0z]at h
    split at h
    · cases hu;cases hv;split at h<;>cases h
      rename_i hy;exact .int (by rw[p0p _ _ (show eqGuard .shr t x y _ _=pure ()from rfl)];simp[binOp,Op.shift,hy])
    cases h
  case eql=>
    simp only[k0z]at h
    split at h
    · cases hu;cases hv;split at h<;>cases h
      rename_i hk;subst hk;exact .bool (j0h (by simp[binOp,Op.intCmp];rfl))
    · cases hu;cases hv;split at h<;>cases h
      rename_i hb;exact .bool (A0x (run_eql_bool _ _ _ _ (r0J hb)))
    cases hu;cases hv;cases h;exact .bool (w0f (by simp[binOp,Op.stringOp,m0n]));cases h
  case neq=>
    simp only[k0z]at h
    split at h
    · cases hu;cases hv;split at h<;>cases h
      rename_i hk;subst hk;exact .bool (j0h (by simp[binOp,Op.intCmp,bne];rfl))
    · cases hu;cases hv;split at h<;>cases h
      rename_i hb;exact .bool (A0x (by simp[binOp,run_equal_bool w _ _ _ (r0J hb),bne]))
    cases hu;cases hv;cases h;exact .bool (w0f (by simp[binOp,Op.stringOp,m0n,bne]));cases h
  all_goals
    simp only[k0z]at h
    split at h
    · cases hu;cases hv;split at h<;>cases h
      rename_i hk;subst hk;exact .bool (j0h (by simp[binOp,Op.intCmp]))
    cases hu;cases hv;cases h;exact .bool (w0f (by simp[binOp,Op.stringOp,m0n]));cases h
end
section
variable [Inhabited GT]
abbrev Env:=Nat->SV
def upd(ρ:Env)(d:Nat)(v:SV):Env:=λi=>if i=d then v else ρ i
def m0X(ρ:Env)(d:Option Nat)(s:SV):Env:=match d with
  |some d=>upd ρ d s
  |none=>ρ
def Operand.inB(n:Nat):Operand->Bool
  | .tmp t=>wB (t<n)
  |_=>yB
def m0E(w:World)(K:Nat->Nat)(D:DM):Prop:= ∀g cs,L0V g=qB cs->Rep w K D (.pointer (qB ⟨g,0,none⟩)) (.ep cs)
structure Slots (n:Nat) (w:World) (K:Nat->Nat) (D:DM) (ρ:Env) (tm:Array Value):Prop where
  size:tm.size=n
  rep: ∀i,i<n->Rep w K D (tm.getD i undef) (ρ i)
  glob:m0E w K D
theorem Slots.mono {K:Nat->Nat} {D D':DM} {ρ:Env} {tm:Array Value} (h:Slots n w K D ρ tm)(hr: ∀v s,Rep w K D v s->Rep w' K' D' v s):Slots n w' K' D' ρ tm:=
  ⟨h.size,λi hi=>hr _ _ (h.rep i hi),λg cs hg=>hr _ _ (h.glob g cs hg)⟩
theorem Slots.put {K:Nat->Nat} {D:DM} {ρ:Env} {a:Act} (h:Slots n w K D ρ a.tmps)(d:Option Nat) {s:SV} (hr:Rep w K D r s):Slots n w K D (m0X ρ d s) (a.put d r).tmps:=by
  cases d with
  |none=>exact h
  |some d=>
    refine⟨by simpa [Act.put]using h.size,λi hi=> ?_,h.glob⟩;simp only[m0X,upd,Act.put];by_cases hd:i=d;subst hd;have:i<a.tmps.size:=by rw[h.size];exact hi
    simpa [Array.getD,this]using hr;rw[wC hd];have:=h.rep i hi;simpa [aU,Ne.symm hd]using this
theorem m0o {K:Nat->Nat} {D:DM} {s:SV} (h:p0K v=qB s):Rep w K D v s:=by
  unfold p0K at h;split at h<;>cases h
  exact .bool _;exact .int _ _;exact .str _;exact .nl _;exact .nilp
theorem a0i {K:Nat->Nat} {D:DM} {ρ:Env} {a:Act} (h:Slots n w K D ρ a.tmps) (hx:Operand.inB n x=yB) {s:SV}
    (hv:a0G ρ x=qB s):Rep w K D (a.eval x) s:=by
  cases x with
  |tmp t=>
    cases hv;exact h.rep t (by simpa [Operand.inB]using hx)
  |const v=>
    cases hc:p0K v with
    |none=>simp only[a0G,hc,Option.getD_none,ah]at hv;subst hv;exact .undef _
    |some c=>simp only[a0G,hc,bl,ah]at hv;subst hv;exact m0o hc
  |global g=>
    cases hg:L0V g with
    |none=>simp only[a0G,hg,Option.map_none]at hv;cases hv
    |some cs=>
      simp only[a0G,hg,aT,ah]at hv;subst hv;exact h.glob g cs hg
  |func f=>
    cases hv;exact .fn _ [] [] [] [] rfl rfl (λj v c e=>by simp at e) (λj v c e=>by simp at e)
def b0w(P:Program)(t:TypeId)(cs:List SV):Option SV:=
  match P.underlying t with
  |some (.struct _)=>if P.cellsOf t<=cs.length then qB (.agg (cs.take (P.cellsOf t)))else none
  |some (.array _ _)=>if P.cellsOf t<=cs.length then qB (.agg (cs.take (P.cellsOf t)))else none
  |some _=>match cs with
    |c::_=>qB c
    | []=>none
  |none=>none
def N0i(op:UnOp)(a:SV):Option SV:=
  match op,a with
  | .neg, .int k n=>qB (.int k (k.wrap (0-n)))
  | .xor, .int k n=>qB (.int k (bits .xor k (if k.signed then-1 else k.max) n))
  | .not, .bool b=>qB (.bool !b)
  |_,_=>none
def t0N(P:Program)(dst:TypeId)(a:SV):Option SV:=
  match P.underlying dst,a with
  |some (.int k), .int _ n=>qB (.int k (k.wrap n))
  |_,_=>none
def N0q(P:Program)(t:TypeId)(s:SV):Option SV:=
  match P.underlying t,s with
  |some (.slice _), .lst n _ _=>qB (.int .i64 n)
  |some (.slice _), .nl=>qB (.int .i64 0)
  |some (.slice _), .sl _ _ n _=>qB (.int .i64 n)
  |some .string, .str s=>qB (.int .i64 s.length)
  |some (.array n _),_=>qB (.int .i64 n)
  |_,_=>none
def i0Z(ρ:Env)(lo:Option Operand)(d:Int):Option Int:=
  match lo with
  |none=>qB d
  |some l=>match a0G ρ l with
    |some (.int _ n)=>qB n
    |_=>none
def M0J(n k:Nat)(cs:List SV)(i:Int):Option SV:=if 0<k/\0<=i/\i<n then qB (.ep ((cs.drop (i.toNat*k)).take k))else none
def C0w(n k:Nat)(cs:List SV)(l h:Int):Option SV:=if 0<k/\0<=l/\l<=h/\h<=n then qB (.lst (h.toNat-l.toNat) k ((cs.take (h.toNat*k)).drop (l.toNat*k)))else none
def I0B(ρ:Env)(big:Bool):List Operand->Option SV
  | [x]=>match a0G ρ x with
    |some (.int k a)=>qB (.int k a)
    |_=>none
  |x::r=>match a0G ρ x,I0B ρ big r with
    |some (.int k a),qB (.int k' b)=>if k=k' then qB (.int k (if big then max a b else min a b))else none
    |_,_=>none
  | []=>none
def z0m(P:Program)(c:Call)(ρ:Env):Option SV:=
  match c.callee with
  | .builtin .len=>match c.args.toList,c.argTypes.toList with
    | [x],[t]=>(a0G ρ x).bind (N0q P t)
    |_,_=>none
  |_=>none
def SV.cells?:SV->Option (List SV)
  | .undef=>none
  | .agg cs=>qB cs
  | .tup _=>none
  | .ep _=>none
  |s=>qB [s]
def B0R(v:Value):Option SV:=match p0K v with
  |some s=>qB s
  |none=>if v.oneCell'=yB then qB .undef else none
def o0w(v:Value):Option (List SV):=v.cells.toList.mapM B0R
def r0P(P:Program)(t:TypeId):Option (List SV):=
  match P.info? t with
  |some i=>match i.zero with
    |some z=>match o0w z with
      |some cs=>if cs.length=i.size then qB cs else none
      |none=>none
    |none=>none
  |none=>none
def splice(cs:List SV)(off:Nat)(ps:List SV):List SV:=cs.take off++(ps++cs.drop (off+ps.length))
def q0G(ρ:Env)(place:Nat->Option (Nat×Nat))(cs:List SV):List (Nat×Operand)->Option (List SV)
  | []=>qB cs
  |(i,x)::rest=>match place i,(a0G ρ x).bind SV.cells? with
    |some (off,size),qB ps=>if ps.length=size/\off+ps.length<=cs.length then q0G ρ place (splice cs off ps) rest else none
    |_,_=>none
def z0S(P:Program)(t:TypeId):Option (List (Nat×Nat)):=
  match P.underlying t with
  |some (.struct fs)=>fs.toList.mapM λf=>(P.info? f.type).map λi=>(f.offset,i.size)
  |_=>none
def x0Q(P:Program)(t:TypeId):Option Nat:=
  match P.underlying t with
  |some (.array _ e)=>(P.info? e).map λi=>i.size
  |_=>none
def a0k(P:Program)(o:Oper)(ρ:Env):Option SV:=
  match o.op with
  | .move x=>a0G ρ x
  | .assign x=>a0G ρ x
  | .pick c a b=>match a0G ρ c with
    |some (.bool yB)=>a0G ρ a
    |some (.bool vB)=>a0G ρ b
    |_=>none
  | .binOp op t x y _=>match a0G ρ x,a0G ρ y with
    |some a,qB b=>k0z (v0K P t) op a b
    |_,_=>none
  | .unOp op _ x=>match a0G ρ x with
    |some a=>N0i op a
    |none=>none
  | .convert src dst x=>match P.underlying src,a0G ρ x with
    |some _,qB a=>t0N P dst a
    |_,_=>none
  | .extract t i=>match a0G ρ t with
    |some (.tup vs)=>vs[i]?
    |_=>none
  | .nilCheck x=>match a0G ρ x with
    |some (.ptr i off)=>qB (.ptr i off)
    |some (.ep cs)=>qB (.ep cs)
    |some (.fn (.func f) a b)=>qB (.fn (.func f) a b)
    |_=>none
  | .indexAddr t x i=>match P.underlying t,a0G ρ x,a0G ρ i with
    |some (.slice e),qB (.lst n k cs),qB (.int _ j)=>if k=P.cellsOf e then M0J n k cs j else none
    |some (.slice e),qB (.sl b off n k),qB (.int _ j)=>if k=P.cellsOf e/\0<k/\0<=j/\j<n then qB (.ptr b (off+j.toNat*k))else none
    |some (.array len e),qB (.ep cs),qB (.int _ n)=>if 0<=n/\n<len/\(n.toNat+1)*P.cellsOf e<=cs.length/\0<P.cellsOf e then qB (.ep ((cs.drop (n.toNat*P.cellsOf e)).take (P.cellsOf e)))else none
    |some (.array len e),qB (.ptr b off),qB (.int _ n)=>if 0<=n/\n<len/\0<P.cellsOf e then qB (.ptr b (off+n.toNat*P.cellsOf e))else none
    |_,_,_=>none
  | .fieldAddr s x f=>match P.underlying s with
    |some (.struct fs)=>match fs[f]?,a0G ρ x with
      |some fd,qB (.ep cs)=>if 0<P.cellsOf fd.type/\fd.offset<=cs.length then qB (.ep (cs.drop fd.offset))else none
      |some fd,qB (.ptr b off)=>if 0<P.cellsOf fd.type then qB (.ptr b (off+fd.offset))else none
      |_,_=>none
    |_=>none
  | .field t x f=>match P.underlying t with
    |some (.struct fs)=>match fs[f]?,a0G ρ x with
      |some fd,qB (.agg cs)=>b0w P fd.type (cs.drop fd.offset)
      |_,_=>none
    |_=>none
  | .load t x=>match a0G ρ x with
    |some (.ep cs)=>b0w P t cs
    |_=>none
  | .slice t x lo hi mx=>match P.underlying t,a0G ρ x,mx with
    |some (.slice e),qB (.lst n k cs),none=>
      match i0Z ρ lo 0,i0Z ρ hi (n:Int)with
      |some l,qB h=>if k=P.cellsOf e then C0w n k cs l h else none
      |_,_=>none
    |some .string,qB (.str s),none=>
      match i0Z ρ lo 0,i0Z ρ hi (s.length:Int)with
      |some l,qB h=>if 0<=l/\l<=h/\h.toNat<=s.length then qB (.str ((s.take h.toNat).drop l.toNat))else none
      |_,_=>none
    |_,_,_=>none
  | .index t x i=>match P.underlying t,a0G ρ x,a0G ρ i with
    |some .string,qB (.str s),qB (.int _ n)=>if 0<=n then(match s[n.toNat]? with|some b=>qB (.int .u8 b.toNat)|none=>none)else none
    |some (.array len e),qB (.agg cs),qB (.int _ n)=>if 0<=n/\n<len then b0w P e (cs.drop (n.toNat*P.cellsOf e))else none
    |_,_,_=>none
  | .call c=>z0m P c ρ
  | .makeFunc fn first captured=>match first.toList.mapM (a0G ρ),captured.toList.mapM (a0G ρ)with
    |some a,qB b=>qB (.fn fn a b)
    |_,_=>none
  | .build t parts=>match r0P P t,z0S P t,x0Q P t with
    |some zs,qB pl,_=>(q0G ρ (λi=>pl[i]?) zs parts.toList).map .agg
    |some zs,none,qB k=>(q0G ρ (λi=>qB (i*k,k)) zs parts.toList).map .agg
    |_,_,_=>none
  |_=>none
section
variable {P : Program} {n : Nat} {w : World} {K : Nat -> Nat} {D : DM} {ρ : Env} {a : Act} {o : Oper}
def h0U(P:Program)(w:World)(K:Nat->Nat)(D:DM)(o:Oper)(a:Act)(s:SV):Prop:=
  ∃r,(execOp a.eval o).run P w= .ok (.value r) w/\Rep w K D r s
theorem b0q {w:World} (h:s.run P w= .ok r w'):(do pure (Next.value (<-s)):Sem Next).run P w= .ok (.value r) w':=by
  simp[h]
theorem add_lit(b off n:Nat):(⟨b,off,none⟩:Addr).add n=⟨b,off+n,none⟩:=by
  unfold Addr.add;split<;>simp_all
structure RowAt (w:World) (K:Nat->Nat) (D:DM) (b off:Nat) (vs:List Value) (cs:List SV):Prop where
  len:cs.length=vs.length
  mem: ∀j v,vs[j]?=qB v->w.cell? ⟨b,off+j,none⟩=qB v
  one: ∀v∈vs,v.oneCell'=yB
  rep: ∀(j:Nat) (v:Value) (c:SV),vs[j]?=qB v->cs[j]?=qB c->Rep w K D v c
theorem RowAt.drop {cs:List SV} (h:RowAt w K D b off vs cs)(n:Nat):RowAt w K D b (off+n) (vs.drop n) (cs.drop n):=
  ⟨by simp[h.len],λj v hj=>by rw[Nat.add_assoc];exact h.mem (n+j) v (by simpa using hj),λc hc=>h.one c (bQ hc),λj v c hv hc=>h.rep (n+j) v c (by simpa using hv) (by simpa using hc)⟩
theorem RowAt.take {cs:List SV} (h:RowAt w K D b off vs cs)(n:Nat):RowAt w K D b off (vs.take n) (cs.take n):=
  ⟨by simp[h.len],λj v hj=>h.mem j v (by rw[aP]at hj;split at hj<;>first|exact hj|cases hj),λc hc=>h.one c (bS hc),λj v c hv hc=>
    h.rep j v c (by rw[aP]at hv;split at hv<;>first|exact hv|cases hv) (by rw[aP]at hc;split at hc<;>first|exact hc|cases hc)⟩
theorem i0k {cs:List SV} (h:a0Q cs=yB)(n:Nat):a0Q (cs.drop n)=true:=
  List.all_eq_true.2 λc hc=>List.all_eq_true.1 h c (bQ hc)
theorem f0M {cs:List SV} (h:a0Q cs=yB)(n:Nat):a0Q (cs.take n)=true:=
  List.all_eq_true.2 λc hc=>List.all_eq_true.1 h c (bS hc)
theorem m0q {cs:List SV} {s:SV} (h:RowAt w K D b off vs cs)(hv:b0w P t cs=qB s):
    ∃r,(loadVar t ⟨b,off,none⟩).run P w= .ok r w/\Rep w K D r s:=by
  have hagg:(if P.cellsOf t<=cs.length then qB (SV.agg (cs.take (P.cellsOf t)))else none)=qB s->(isAgg t).run P w= .ok yB w->P.underlying t≠none->
      ∃r,(loadVar t ⟨b,off,none⟩).run P w= .ok r w/\Rep w K D r s:=by
    intro h1 h2 h3;split at h1<;>cases h1
    rename_i hle
    obtain⟨i,hi⟩: ∃i,P.info? t=qB i:=by
      cases hi:P.info? t with
      |none=>exact absurd (by simp[Program.underlying,hi]) h3
      |some i=>exact⟨i,rfl⟩
    have hsz:P.cellsOf t=i.size:=by simp[wJ,hi]
    have ht:=h.take (P.cellsOf t);refine⟨.agg (vs.take (P.cellsOf t)).toArray, ?_, .agg _ _ (by simp[h.len]) ht.one ht.rep⟩;have hl:(vs.take (P.cellsOf t)).length=P.cellsOf t:=by simp;rw[<-h.len];omega
    have:=run_loadCells_list (P:=P) (w:=w) ⟨b,off,none⟩ (vs.take (P.cellsOf t)) (λj v hj=>by rw[add_lit];exact ht.mem j v hj);rw[hl]at this;simp[loadVar,h2,sizeOf,typeInfo,hi,<-hsz,this]
  unfold b0w at hv;split at hv;rename_i fs hu;exact hagg hv (by simp[isAgg,run_underlying hu]) (by simp[hu]);rename_i n e hu;exact hagg hv (by simp[isAgg,run_underlying hu]) (by simp[hu])
  · rename_i d hns hna hu
    split at hv<;>cases hv
    rename_i cs'
    cases vs with
    |nil=>have:=h.len;simp at this
    |cons v vs'=>
      refine⟨v, ?_,h.rep 0 v s rfl rfl⟩;have hm:=h.mem 0 v rfl;simp only[cq]at hm
      have hia:(isAgg t).run P w= .ok vB w:=by
        simp only[isAgg,yD,run_underlying hu,jD];cases d<;>first|rfl|exact(hns _ rfl).elim|exact(hna _ _ rfl).elim
      simp[loadVar,hia,run_load,hm]
  cases hv
theorem a0K {c:SV} (he:execOp a.eval o=(do pure (Next.value (<-s))))(hr:s.run P w= .ok r w)(h:Rep w K D r c):h0U P w K D o a c:=
  ⟨r,by rw[he];exact b0q hr,h⟩
theorem w0X {c:SV} (he:execOp a.eval o=(do pure (Next.value (<-s))))(h:PureV P w K D s c):h0U P w K D o a c:=
  let⟨_,hr,hrep⟩:=h;a0K he hr hrep
theorem r0g {cs:List SV} (h:Rep w K D v (.ep cs)): ∃b off vs,v= .pointer (qB ⟨b,off,none⟩)/\RowAt w K D b off vs cs/\off+vs.length<=K b/\a0Q cs=true:=by
  cases h with
  |ep b off vs _ hc hm hK h1 hp h=>exact⟨b,off,vs,rfl,⟨hc,hm,h1,h⟩,hK,hp⟩
theorem RowAt.ep {cs:List SV} (h:RowAt w K D b off vs cs)(hK:off+vs.length<=K b)(hp:a0Q cs=yB):Rep w K D (.pointer (qB ⟨b,off,none⟩)) (.ep cs):=
  .ep b off vs cs h.len h.mem hK h.one hp h.rep
theorem l0S {n:Nat} {cs:List SV} (h:Rep w K D v (.lst n k cs)):
    (∃a cap,v= .slice a 0 cap/\cs=[]/\n=0)\/ ∃b off cap vs,v= .slice (qB ⟨b,off,none⟩) n cap/\RowAt w K D b off vs cs/\off+vs.length<=K b/\0<k/\vs.length=n*k/\n<=cap/\a0Q cs=true:=by
  cases h with
  |emp _ a cap=>exact .inl ⟨a,cap,rfl,rfl,rfl⟩
  |lst _ b off len cap vs _ hk hl hc hcap hm hK h1 hp h=>exact .inr ⟨b,off,cap,vs,rfl,⟨hc,hm,h1,h⟩,hK,hk,hl,hcap,hp⟩
theorem RowAt.lst {cs:List SV} (h:RowAt w K D b off vs cs)(hK:off+vs.length<=K b)(hk:0<k)(hl:vs.length=len*k)(hcap:len<=cap)(hp:a0Q cs=yB):
    Rep w K D (.slice (qB ⟨b,off,none⟩) len cap) (.lst len k cs):=
  .lst k b off len cap vs cs hk hl h.len hcap h.mem hK h.one hp h.rep
theorem r0M (h:0<P.cellsOf t): ∃i,P.info? t=qB i/\i.size=P.cellsOf t:=by
  cases hi:P.info? t with
  |none=>simp[wJ,hi]at h
  |some i=>exact⟨i,rfl,by simp[wJ,hi]⟩
theorem b0Y (h:0<P.cellsOf t):(sizeOf t).run P w= .ok (P.cellsOf t) w:=by
  obtain⟨i,hi,hs⟩:=r0M h;simp[sizeOf,typeInfo,hi,hs]
theorem RowAt.part {n:Nat} {cs:List SV} (h:RowAt w K D b off vs cs)(hK:off+vs.length<=K b)(hp:a0Q cs=yB)(hle:n+k<=cs.length):
    Rep w K D (.pointer (qB ⟨b,off+n,none⟩)) (.ep ((cs.drop n).take k)):=
  ((h.drop n).take k).ep (by
    have:=h.len;simp only[aB,aV]
    omega) (f0M (i0k hp n) k)
theorem x0D(h:Slots n w K D ρ a.tmps) {i:Operand} (ho:o.op= .indexAddr t x i)(hx:Operand.inB n x=yB)(hi:Operand.inB n i=yB) {s:SV}
    (hs:a0k P o ρ=qB s):h0U P w K D o a s:=by
  have he:execOp a.eval o=(do pure (Next.value (<-zJ t (a.eval x) (a.eval i)))):=by unfold execOp;rw[ho]
  simp only[a0k,ho]at hs
  split at hs
  · rename_i e q k cs kk j hu hxe hie
    split at hs<;>try cases hs
    rename_i hk;unfold M0J at hs;split at hs<;>cases hs
    rename_i hc;obtain⟨hk1,hn,hlt⟩:=hc;have hrx:=a0i h hx hxe;have hri:=a0i h hi hie;generalize hvi:a.eval i=vi at hri;cases hri;rcases l0S hrx with⟨ea,ecap,hv,hcs,hn0⟩|⟨b,off,cap,vs,hv,hrow,hK,hk0,hl,hcap,hp⟩;omega
    have hle:j.toNat*k+k<=cs.length:=by
      rw[hrow.len,hl,<-bK];exact aJ _ cV
    subst hk;refine a0K he (r:= .pointer (qB ⟨b,off+j.toNat*P.cellsOf e,none⟩)) ?_ (hrow.part hK hp hle);rw[hv,hvi];simp[zJ,asIntOf,run_underlying hu,b0Y hk0,hn,hlt,add_lit]
  · rename_i e bi off m k kk j hu hxe hie
    split at hs<;>cases hs
    rename_i hc;obtain⟨hk,hk0,hn,hlt⟩:=hc;have hrx:=a0i h hx hxe;have hri:=a0i h hi hie;generalize hvi:a.eval i=vi at hri;cases hri;generalize hvx:a.eval x=vx at hrx;subst hk
    cases hrx with
    |sl _ _ _ _ b c m' cap hd hcap=>
      refine a0K he (r:= .pointer (qB ⟨b,off+j.toNat*P.cellsOf e,none⟩)) ?_ (.ptr _ _ _ _ _ hd);rw[hvx,hvi];simp[zJ,asIntOf,run_underlying hu,b0Y hk0,hn,hlt,add_lit]
  · rename_i len e cs kk j hu hxe hie
    split at hs<;>cases hs
    rename_i hc;obtain⟨hn,hlen,hle,hk0⟩:=hc;have hrx:=a0i h hx hxe;have hri:=a0i h hi hie;generalize hvi:a.eval i=vi at hri;cases hri;rw[bK]at hle;obtain⟨b,off,vs,hv,hrow,hK,hp⟩:=r0g hrx;refine a0K he (r:= .pointer (qB ⟨b,off+j.toNat*P.cellsOf e,none⟩)) ?_ (hrow.part hK hp hle);rw[hv,hvi];simp[zJ,yH,asIntOf,run_underlying hu,b0Y hk0,hn,hlen,add_lit]
  · rename_i len e bx off kk j hu hxe hie
    split at hs<;>cases hs
    rename_i hc;obtain⟨hn,hlen,hk0⟩:=hc;have hrx:=a0i h hx hxe;have hri:=a0i h hi hie;generalize hvi:a.eval i=vi at hri;cases hri;generalize hvx:a.eval x=vx at hrx
    cases hrx with
    |ptr _ _ b c m hb=>
      refine a0K he (r:= .pointer (qB ⟨b,off+j.toNat*P.cellsOf e,none⟩)) ?_ (.ptr _ _ _ _ _ hb);rw[hvx,hvi];simp[zJ,yH,asIntOf,run_underlying hu,b0Y hk0,hn,hlen,add_lit]
  cases hs
theorem x0K(h:Slots n w K D ρ a.tmps) {f:Nat} (ho:o.op= .fieldAddr t x f)(hx:Operand.inB n x=yB) {s:SV}
    (hs:a0k P o ρ=qB s):h0U P w K D o a s:=by
  have he:execOp a.eval o=(do pure (Next.value (<-Instr.fieldAt t (a.eval x) f))):=by unfold execOp;rw[ho]
  simp only[a0k,ho]at hs
  split at hs
  · rename_i fs hu
    split at hs
    · rename_i fd cs hf hxe
      split at hs<;>cases hs
      rename_i hc;obtain⟨hk0,hle⟩:=hc;obtain⟨b,off,vs,hv,hrow,hK,hp⟩:=r0g (a0i h hx hxe);have hne:P.cellsOf fd.type≠0:=by omega
      refine a0K he (r:= .pointer (qB ⟨b,off+fd.offset,none⟩)) ?_ ((hrow.drop fd.offset).ep (by have:=hrow.len;simp only[aV];omega) (i0k hp _));rw[hv];simp[Instr.fieldAt,yH,run_underlying hu,hf,fieldPlace,b0Y hk0,hne,add_lit]
    · rename_i fd bx off hf hxe
      split at hs<;>cases hs
      rename_i hk0;have hrx:=a0i h hx hxe;generalize hvx:a.eval x=vx at hrx;have hne:P.cellsOf fd.type≠0:=by omega
      cases hrx with
      |ptr _ _ b c m hb=>
        refine a0K he (r:= .pointer (qB ⟨b,off+fd.offset,none⟩)) ?_ (.ptr _ _ _ _ _ hb);rw[hvx];simp[Instr.fieldAt,yH,run_underlying hu,hf,fieldPlace,b0Y hk0,hne,add_lit]
    cases hs
  cases hs
theorem I0F(h:Slots n w K D ρ a.tmps) (ho:o.op= .load t x)(hx:Operand.inB n x=yB) {s:SV}
    (hs:a0k P o ρ=qB s):h0U P w K D o a s:=by
  have he:execOp a.eval o=(do pure (Next.value (<-Instr.loadAt t (a.eval x)))):=by unfold execOp;rw[ho]
  simp only[a0k,ho]at hs;split at hs;rename_i cs hxe;obtain⟨b,off,vs,hv,hrow,hK,hp⟩:=r0g (a0i h hx hxe);obtain⟨r,hr,hrep⟩:=m0q (P:=P) hrow hs;exact a0K he (by rw[hv];simp[Instr.loadAt,yH,hr]) hrep;cases hs
theorem B0w(h:Slots n w K D ρ a.tmps) (ho:o.op= .extract x i)(hx:Operand.inB n x=yB) {s:SV}
    (hs:a0k P o ρ=qB s):h0U P w K D o a s:=by
  have he:execOp a.eval o=(do pure (Next.value (<-Instr.extract (a.eval x) i))):=by unfold execOp;rw[ho]
  simp only[a0k,ho]at hs;split at hs;rename_i vs hxe;have hrx:=a0i h hx hxe;generalize hvx:a.eval x=vx at hrx
  cases hrx with
  |tup ws _ hl hrep=>
    have hi:i<ws.length:=by rw[<-hl];exact(ab.1 hs).1
    have hg:ws[i]?=qB ws[i]:=af hi;exact a0K he (r:=ws[i]) (by rw[hvx];simp[Instr.extract,hg]) (hrep i _ s hg hs)
  cases hs
theorem e0t {cs:List SV} {s:SV} (hl:cs.length=vs.length)(h1: ∀v∈vs,v.oneCell'=yB)
    (h: ∀(j:Nat) (v:Value) (c:SV),vs[j]?=qB v->cs[j]?=qB c->Rep w K D v c) (hv:b0w P t (cs.drop off)=qB s):
    ∃r,(part t vs.toArray off).run P w= .ok r w/\Rep w K D r s:=by
  have hagg:(if P.cellsOf t<=(cs.drop off).length then qB (SV.agg ((cs.drop off).take (P.cellsOf t)))else none)=qB s->(isAgg t).run P w= .ok yB w->P.underlying t≠none->
      ∃r,(part t vs.toArray off).run P w= .ok r w/\Rep w K D r s:=by
    intro h1' h2 h3;split at h1'<;>cases h1'
    rename_i hle
    obtain⟨i,hi⟩: ∃i,P.info? t=qB i:=by
      cases hi:P.info? t with
      |none=>exact absurd (by simp[Program.underlying,hi]) h3
      |some i=>exact⟨i,rfl⟩
    have hsz:P.cellsOf t=i.size:=by simp[wJ,hi]
    refine⟨.agg ((vs.drop off).take (P.cellsOf t)).toArray, ?_, .agg _ _ (by simp[hl]) (λc hc=>h1 c (bQ (bS hc))) (λj v c hv hc=> ?_)⟩;simp only[part,yD,h2,jD,if_true,sizeOf,typeInfo,run_program,hi,vE,<-hsz];congr 2;apply yJ;simp[bZ];rw[aP]at hv hc;by_cases hj:j<P.cellsOf t;rw[qC hj]at hv hc;exact h (off+j) v c (by simpa using hv) (by simpa using hc);rw[wC hj]at hv;cases hv
  unfold b0w at hv;split at hv;rename_i fs hu;exact hagg hv (by simp[isAgg,run_underlying hu]) (by simp[hu]);rename_i n e hu;exact hagg hv (by simp[isAgg,run_underlying hu]) (by simp[hu])
  · rename_i d hns hna hu
    split at hv<;>cases hv
    rename_i cs' hcs
    have hc:cs[off]?=qB s:=by
      have:(cs.drop off)[0]?=qB s:=by rw[hcs];rfl
      simpa using this
    have hi:off<vs.length:=by rw[<-hl];exact(ab.1 hc).1
    have hg:vs[off]?=qB vs[off]:=af hi;refine⟨vs[off], ?_,h off _ s hg hc⟩
    have hia:(isAgg t).run P w= .ok vB w:=by
      simp only[isAgg,yD,run_underlying hu,jD];cases d<;>first|rfl|exact(hns _ rfl).elim|exact(hna _ _ rfl).elim
    simp[part,hia,hg]
  cases hv
theorem G0p(h:Slots n w K D ρ a.tmps) {f:Nat} (ho:o.op= .field t x f)(hx:Operand.inB n x=yB) {s:SV}
    (hs:a0k P o ρ=qB s):h0U P w K D o a s:=by
  have he:execOp a.eval o=(do pure (Next.value (<-Instr.field t (a.eval x) f))):=by unfold execOp;rw[ho]
  simp only[a0k,ho]at hs;split at hs;rename_i fs hu;split at hs;rename_i fd cs hf hxe;have hrx:=a0i h hx hxe;generalize hvx:a.eval x=vx at hrx
  cases hrx with
  |agg vs _ hl h1 hrep=>
    obtain⟨r,hr,hrep⟩:=e0t (P:=P) hl h1 hrep hs;exact a0K he (by rw[hvx];simp[Instr.field,run_underlying hu,hf,asAgg,hr]) hrep
  cases hs;cases hs
theorem G0j(h:Slots n w K D ρ a.tmps) {i:Operand} (ho:o.op= .index t x i)(hx:Operand.inB n x=yB)(hi:Operand.inB n i=yB) {s:SV}
    (hs:a0k P o ρ=qB s):h0U P w K D o a s:=by
  have he:execOp a.eval o=(do pure (Next.value (<-Instr.index t (a.eval x) (a.eval i)))):=by unfold execOp;rw[ho]
  simp only[a0k,ho]at hs
  split at hs
  · rename_i l k m hu hxe hie
    have hrx:=a0i h hx hxe;have hri:=a0i h hi hie;generalize hvi:a.eval i=vi at hri;cases hri;generalize hvx:a.eval x=vx at hrx
    cases hrx with
    |str sb=>
      split at hs
      · rename_i hn
        split at hs<;>cases hs
        rename_i b hb;refine a0K he (r:= .int .u8 b.toNat) ?_ (.int _ _);rw[hvx,hvi]
        have hb':sb[m.toNat]?=qB b:=by
          have hb2:sb.data[m.toNat]?=qB b:=by simpa using hb
          obtain⟨h1,h2⟩:=ak.1 hb2;rw[getElem?_pos sb m.toNat h1];exact congrArg qB h2
        simp[Instr.index,asIntOf,run_underlying hu,hn,hb']
      cases hs
  rename_i len e cs k m hu hxe hie;split at hs;rename_i hc;obtain⟨hn,hlen⟩:=hc;have hrx:=a0i h hx hxe;have hri:=a0i h hi hie;generalize hvi:a.eval i=vi at hri;cases hri;generalize hvx:a.eval x=vx at hrx
  cases hrx with
  |agg vs _ hl h1 hrep=>
    obtain⟨r,hr,hrep'⟩:=e0t (P:=P) hl h1 hrep hs
    have hsz:(sizeOf e).run P w= .ok (P.cellsOf e) w:=by
      cases hi:P.info? e with
      |none=>
        have:P.underlying e=none:=by simp[Program.underlying,hi]
        simp[b0w,this]at hs
      |some i=>simp[sizeOf,typeInfo,hi,wJ]
    exact a0K he (by rw[hvx,hvi];simp[Instr.index,asIntOf,run_underlying hu,hn,hlen,hsz,hr]) hrep'
  cases hs;cases hs
theorem K0P(h:Slots n w K D ρ a.tmps) (ho:o.op= .call c)(hx: ∀x∈c.args,Operand.inB n x=yB) {s:SV}
    (hs:a0k P o ρ=qB s):h0U P w K D o a s:=by
  simp only[a0k,ho,z0m]at hs
  split at hs
  · rename_i hcal
    split at hs
    · rename_i x t hargs htys
      have ha:c.args= #[x]:=by rw[<-aZ];exact hargs
      have ht:c.argTypes= #[t]:=by rw[<-aZ];exact htys
      have hrun: ∀r,(Builtin.len_ #[t] o.type #[a.eval x]).run P w= .ok r w->(execOp a.eval o).run P w= .ok (.value r) w:=λr hr=>by
        unfold execOp;simp only[ho,resolve,hcal,ha,ht,invoke,builtin,yD,vE,jD,bU,al,aE,hr]
      have hxb:=hx x (by rw[ha];simp)
      cases hxe:a0G ρ x with
      |none=>rw[hxe]at hs;cases hs
      |some s0=>
        rw[hxe]at hs;simp only[ai,N0q]at hs;have hrx:=a0i h hxb hxe;split at hs;rename_i e m k cs hu;cases hs
        have hv: ∃ad cap,a.eval x= .slice ad m cap:=by
          rcases l0S hrx with⟨ea,ecap,hv,hcs,hn0⟩|⟨b,off,cap,vs,hv,_⟩;exact⟨_,_,by rw[hv,hn0]⟩;exact⟨_,_,hv⟩
        obtain⟨ad,cap,hv⟩:=hv;exact⟨.int .i64 m,hrun _ (by rw[hv];simp[Builtin.len_,run_underlying hu,goInt]), .int _ _⟩;rename_i e hu;cases hs;generalize hvx:a.eval x=vx at hrx;cases hrx;exact⟨.int .i64 0,hrun _ (by rw[hvx];simp[Builtin.len_,run_underlying hu,goInt]), .int _ _⟩;rename_i e i off m k hu;cases hs;generalize hvx:a.eval x=vx at hrx;cases hrx;exact⟨.int .i64 m,hrun _ (by rw[hvx];simp[Builtin.len_,run_underlying hu,goInt]), .int _ _⟩;rename_i l hu;cases hs;generalize hvx:a.eval x=vx at hrx
        cases hrx with
        |str sb=>exact⟨.int .i64 sb.size,hrun _ (by rw[hvx];simp[Builtin.len_,run_underlying hu,goInt]),by simpa using Rep.int .i64 sb.size⟩
        · rename_i m e hu
          cases hs;refine⟨.int .i64 m,hrun _ ?_, .int _ _⟩;cases a.eval x<;>simp[Builtin.len_,run_underlying hu,goInt]
        cases hs
    cases hs
  cases hs
end
end
section
variable [Inhabited GT]
section
variable {P : Program} {n : Nat} {w : World} {K : Nat -> Nat} {D : DM} {ρ : Env} {a : Act} {o : Oper}
theorem B0z(h:Slots n w K D ρ a.tmps) (ho:o.op= .convert src dst x)(hx:Operand.inB n x=yB) {s:SV}
    (hs:a0k P o ρ=qB s):h0U P w K D o a s:=by
  have he:execOp a.eval o=(do pure (Next.value (<-convert src dst (a.eval x)))):=by unfold execOp;rw[ho]
  simp only[a0k,ho]at hs;split at hs;rename_i d sv hsrc hxe;have hrx:=a0i h hx hxe;unfold t0N at hs;split at hs;rename_i k k' n hdst;cases hs;generalize hvx:a.eval x=vx at hrx;cases hrx;exact a0K he (r:= .int k (k.wrap n)) (by rw[hvx];simp[convert,run_underlying hsrc,run_underlying hdst,Conv.intToInt]) (.int _ _);cases hs;cases hs
theorem H0M(h:Slots n w K D ρ a.tmps) {op:UnOp} (ho:o.op= .unOp op t x)(hx:Operand.inB n x=yB) {s:SV}
    (hs:a0k P o ρ=qB s):h0U P w K D o a s:=by
  have he:execOp a.eval o=(do pure (Next.value (<-Op.unary op (a.eval x)))):=by unfold execOp;rw[ho]
  simp only[a0k,ho]at hs;split at hs;rename_i sv hxe;have hrx:=a0i h hx hxe;unfold N0i at hs;split at hs;cases hs;generalize hvx:a.eval x=vx at hrx;cases hrx;exact a0K he (by rw[hvx];simp only[Op.unary,Op.intArith];rfl) (.int _ _);cases hs;generalize hvx:a.eval x=vx at hrx;cases hrx;exact a0K he (by rw[hvx];simp only[Op.unary,intBits_xor];rfl) (.int _ _);cases hs;generalize hvx:a.eval x=vx at hrx;cases hrx;exact a0K he (by rw[hvx];simp only[Op.unary];rfl) (.bool _);cases hs;cases hs
theorem G0C(h:Slots n w K D ρ a.tmps) {u:TypeId} (ho:o.op= .binOp op t x y u)(hx:Operand.inB n x=yB)(hy:Operand.inB n y=yB) {s:SV}
    (hs:a0k P o ρ=qB s):h0U P w K D o a s:=by
  have he:execOp a.eval o=(do pure (Next.value (<-(do eqGuard op t x y (a.eval x) (a.eval y);binOp op t (a.eval x) (a.eval y):Sem Value)))):=by unfold execOp;rw[ho]
  simp only[a0k,ho]at hs;split at hs;rename_i sa sb hxe hye;exact w0X he (z0o (a0i h hx hxe) (a0i h hy hye) hs);cases hs
theorem D0n(h:Slots n w K D ρ a.tmps) (ho:o.op= .move x\/o.op= .assign x)(hx:Operand.inB n x=yB) {s:SV}
    (hs:a0k P o ρ=qB s):h0U P w K D o a s:=by
  have he:(execOp a.eval o).run P w= .ok (.value (a.eval x)) w:=by unfold execOp;rcases ho with ho|ho<;>rw[ho]<;>rfl
  have hs':a0G ρ x=qB s:=by rcases ho with ho|ho<;>simpa only[a0k,ho]using hs
  exact⟨_,he,a0i h hx hs'⟩
theorem I0q(h:Slots n w K D ρ a.tmps) {c:Operand} (ho:o.op= .pick c x y)(hc:Operand.inB n c=yB)(hx:Operand.inB n x=yB)(hy:Operand.inB n y=yB) {s:SV}
    (hs:a0k P o ρ=qB s):h0U P w K D o a s:=by
  simp only[a0k,ho]at hs;have he:execOp a.eval o=(do pure (.value (if<-asBool (a.eval c)then a.eval x else a.eval y))):=by unfold execOp;rw[ho]
  split at hs;rename_i hce;have hrc:=a0i h hc hce;generalize hvc:a.eval c=vc at hrc;cases hrc;exact⟨_,by rw[he,hvc];simp[asBool],a0i h hx hs⟩;rename_i hce;have hrc:=a0i h hc hce;generalize hvc:a.eval c=vc at hrc;cases hrc;exact⟨_,by rw[he,hvc];simp[asBool],a0i h hy hs⟩;cases hs
theorem y0J(h:Slots n w K D ρ a.tmps) (ho:o.op= .nilCheck x)(hx:Operand.inB n x=yB) {s:SV}
    (hs:a0k P o ρ=qB s):h0U P w K D o a s:=by
  simp only[a0k,ho]at hs
  have he: ∀r,a.eval x=r->(match r with| .pointer (qB _)=>True| .func (.func _) _ _=>True|_=>False)->(execOp a.eval o).run P w= .ok (.value r) w:=by
    intro r hr hm;unfold execOp;rw[ho];dsimp only;rw[hr];split at hm;rfl;rfl;exact hm.elim
  split at hs;rename_i i off hxe;cases hs;have hrx:=a0i h hx hxe;generalize hvx:a.eval x=vx at hrx
  cases hrx with
  |ptr _ _ b c m hb=>exact⟨_,he _ hvx trivial, .ptr _ _ _ _ _ hb⟩
  rename_i cs hxe;cases hs;have hrx:=a0i h hx hxe;generalize hvx:a.eval x=vx at hrx;have hrx':=hrx
  cases hrx with
  |ep=>exact⟨_,he _ hvx trivial,hrx'⟩
  rename_i f p q hxe;cases hs;have hrx:=a0i h hx hxe;generalize hvx:a.eval x=vx at hrx;have hrx':=hrx
  cases hrx with
  |fn=>exact⟨_,he _ hvx trivial,hrx'⟩
  cases hs
theorem q0L(h:Slots n w K D ρ a.tmps) {lo:Option Operand} {d m:Int} {y:Nat} {code:BoundsCode} (hx: ∀x,lo=qB x->Operand.inB n x=yB)
    (hl:i0Z ρ lo d=qB m) (h0:0<=m) (h1:m<=y):
    (lo=none/\m=d)\/ ∃l,lo=qB l/\(vI (a.eval l) y code).run P w= .ok m.toNat w:=by
  cases lo with
  |none=>simp[i0Z]at hl;exact .inl ⟨rfl,hl.symm⟩
  |some l=>
    right;refine⟨l,rfl, ?_⟩;simp only[i0Z]at hl;split at hl<;>cases hl
    rename_i k hle;have hr:=a0i h (hx l rfl) hle;generalize hvl:a.eval l=vl at hr;cases hr;simp[vI,asIntOf,h0,h1]
theorem F0o(h:Slots n w K D ρ a.tmps) {lo hi mx:Option Operand} (ho:o.op= .slice t x lo hi mx)(hx:Operand.inB n x=yB)
    (hlo: ∀x,lo=qB x->Operand.inB n x=yB) (hhi: ∀x,hi=qB x->Operand.inB n x=yB) {s:SV}
    (hs:a0k P o ρ=qB s):h0U P w K D o a s:=by
  have he:execOp a.eval o=(do pure (Next.value (<-vG t (a.eval x) (lo.map a.eval) (hi.map a.eval) (mx.map a.eval)))):=by unfold execOp;rw[ho]
  simp only[a0k,ho]at hs
  split at hs
  · rename_i e n k cs hu hxe
    split at hs
    · rename_i l hh hle hhe
      split at hs<;>try cases hs
      rename_i hk;unfold C0w at hs;split at hs<;>cases hs
      rename_i hc;obtain⟨hk0,hl0,hlh,hle'⟩:=hc;have hrx:=a0i h hx hxe;have hsz:(sizeOf e).run P w= .ok k w:=by rw[hk];exact b0Y (by rw[<-hk];exact hk0)
      have bounds: ∀cap:Nat,n<=cap->(wE yB n cap (lo.map a.eval) (hi.map a.eval) none).run P w= .ok (l.toNat,hh.toNat,cap) w:=by
        intro cap hlc;have b1:=q0L (P:=P) (code:= .sliceAcap) h hhi hhe cV (show hh<=(cap:Int) by omega);have b2:=q0L (P:=P) (code:= .sliceB) (y:=hh.toNat) h hlo hle hl0 cV;rcases b1 with⟨rfl,e1⟩|⟨y1,rfl,e1⟩<;>rcases b2 with⟨rfl,e2⟩|⟨y2,rfl,e2⟩
        subst e1;subst e2;simp[wE];subst e1;simp at e2;simp[wE,e2];subst e2;simp[wE,e1];simp[wE,e1,e2]
      rcases l0S hrx with⟨ea,ecap,hv,hcs,hn0⟩|⟨b,off,cap,vs,hv,hrow,hK,_,hl,hcap,hp⟩
      · subst hcs;subst hn0
        have hb:=bounds ecap (bf _);have h0:hh.toNat=0:=by omega
        have h0':l.toNat=0:=by omega
        refine a0K he (r:= .slice ea 0 ecap) ?_ (by simpa [h0,h0']using Rep.emp k ea ecap);rw[hv];have hadd:ea.map (λx=>x.add (0*k))=ea:=by cases ea<;>simp[Addr.add]
        have hadd':ea.map (λx=>x.add 0)=ea:=by cases ea<;>simp[Addr.add]
        simp[vG,oJ,run_underlying hu,hb,hsz,h0,h0',hadd']
      have hb:=bounds cap hcap;have hlk:l.toNat*k<=hh.toNat*k:=aJ k cV;have hhk:hh.toNat*k<=n*k:=aJ k cV;have hrow':=(hrow.take (hh.toNat*k)).drop (l.toNat*k)
      have hvl:((vs.take (hh.toNat*k)).drop (l.toNat*k)).length=(hh.toNat-l.toNat)*k:=by
        simp only[aV,aB,Nat.sub_mul];omega
      have hcl:(hh.toNat-l.toNat)<=cap-l.toNat:=by omega
      have hp':a0Q ((cs.take (hh.toNat*k)).drop (l.toNat*k))=true:=i0k (f0M hp _) _;by_cases hml:cap=l.toNat;have hz:(hh.toNat-l.toNat)=0:=by omega
      have hnil:(cs.take (hh.toNat*k)).drop (l.toNat*k)=[]:=by
        apply av;rw[hrow'.len,hvl,hz,Nat.zero_mul]
      refine a0K he (r:= .slice (qB ⟨b,off,none⟩) (hh.toNat-l.toNat) (cap-l.toNat)) ?_ ?_;rw[hv];subst hml;simp[vG,oJ,run_underlying hu,hb,hsz];rw[hnil,hz];exact .emp _ _ _;refine a0K he (r:= .slice (qB ⟨b,off+l.toNat*k,none⟩) (hh.toNat-l.toNat) (cap-l.toNat)) ?_ (hrow'.lst (by rw[hvl,Nat.sub_mul];omega) hk0 hvl hcl hp');rw[hv];simp[vG,oJ,run_underlying hu,hb,hsz,hml,add_lit]
    cases hs
  · rename_i l0 hu hxe
    split at hs
    · rename_i l hh hle hhe
      split at hs<;>cases hs
      rename_i hc;obtain⟨hl0,hlh,hle'⟩:=hc;have hrx:=a0i h hx hxe;generalize hvx:a.eval x=vx at hrx
      cases hrx with
      |str sb=>
        have hsl:hh.toNat<=sb.size:=by simpa using hle'
        have b1:=q0L (P:=P) (code:= .sliceAlen) h hhi hhe cV (show hh<=(sb.size:Int) by omega);have b2:=q0L (P:=P) (code:= .sliceB) (y:=hh.toNat) h hlo hle hl0 cV
        have hb:(wE vB sb.size sb.size (lo.map a.eval) (hi.map a.eval) none).run P w= .ok (l.toNat,hh.toNat,sb.size) w:=by
          rcases b1 with⟨rfl,e1⟩|⟨y1,rfl,e1⟩<;>rcases b2 with⟨rfl,e2⟩|⟨y2,rfl,e2⟩
          subst e1;subst e2;simp[wE];subst e1;simp at e2;simp[wE,e2];subst e2;simp[wE,e1];simp[wE,e1,e2]
        have hex:(sb.extract l.toNat hh.toNat).data.toList=(sb.data.toList.take hh.toNat).drop l.toNat:=by
          simp[ByteArray.data_extract,bZ,List.drop_take]
        refine a0K he (r:= .string (sb.extract l.toNat hh.toNat)) ?_ (by rw[<-hex];exact .str _);rw[hvx];simp[vG,oJ,run_underlying hu,hb]
    cases hs
  cases hs
theorem y0N(h:Slots n w K D ρ a.tmps) {fn:Fn} {first captured:Array Operand} (ho:o.op= .makeFunc fn first captured)
    (hx: ∀x∈first,Operand.inB n x=yB) (hy: ∀x∈captured,Operand.inB n x=yB) {s:SV}
    (hs:a0k P o ρ=qB s):h0U P w K D o a s:=by
  have he:execOp a.eval o=(do pure (Next.value (<-Instr.makeFunc fn (first.map a.eval) (captured.map a.eval)))):=by unfold execOp;rw[ho]
  simp only[a0k,ho]at hs
  have key: ∀(l:List Operand) (r:List SV),(∀x∈l,Operand.inB n x=yB)->l.mapM (a0G ρ)=qB r->r.length=(l.map a.eval).length/\
      ∀(j:Nat) (v:Value) (c:SV),(l.map a.eval)[j]?=qB v->r[j]?=qB c->Rep w K D v c:=by
    intro l
    induction l with
    |nil=>intro r _ hr;simp at hr;subst hr;exact⟨rfl,λj v c e=>by simp at e⟩
    |cons x l ih=>
      intro r hb hr;simp only[cI]at hr
      cases hx1:a0G ρ x with
      |none=>rw[hx1]at hr;cases hr
      |some s1=>
        rw[hx1]at hr
        cases hr1:l.mapM (a0G ρ)with
        |none=>rw[hr1]at hr;cases hr
        |some r1=>
          rw[hr1]at hr;cases hr;obtain⟨i1,i2⟩:=ih r1 (λy hy=>hb y (ao _ hy)) hr1;refine⟨by simp[i1],λj v c hv hc=> ?_⟩
          cases j with
          |zero=>simp at hv hc;subst hv;subst hc;exact a0i h (hb x (aw ..)) hx1
          |succ j=>exact i2 j v c (by simpa using hv) (by simpa using hc)
  split at hs;rename_i p q hp hq;cases hs;obtain⟨p1,p2⟩:=key _ _ (λx hm=>hx x (aK.1 hm)) hp;obtain⟨q1,q2⟩:=key _ _ (λx hm=>hy x (aK.1 hm)) hq;refine a0K he (r:= .func fn (first.map a.eval) (captured.map a.eval)) rfl ?_;have:=Rep.fn (w:=w) (K:=K) (D:=D) fn (first.toList.map a.eval) (captured.toList.map a.eval) p q p1 q1 p2 q2;rw[show first.map a.eval=(first.toList.map a.eval).toArray from by apply yJ;simp,show captured.map a.eval=(captured.toList.map a.eval).toArray from by apply yJ;simp];exact this;cases hs
theorem CR.nil:CR w K D [] []:=⟨rfl,λc h=>(by cases h),λj v c h=>(by simp at h)⟩
theorem CR.append {cs ds:List SV} (h:CR w K D vs cs)(g:CR w K D us ds):CR w K D (vs++us) (cs++ds):=by
  refine⟨by simp[h.len,g.len],λc hc=> ?_,λj v c hv hc=> ?_⟩;rcases au.1 hc with hc|hc;exact h.one c hc;exact g.one c hc;rw[aL]at hv hc;rw[h.len]at hc;split at hv;rename_i hj;rw[qC hj]at hc;exact h.rep j v c hv hc;rename_i hj;rw[wC hj]at hc;exact g.rep _ v c hv hc
theorem CR.take {cs:List SV} (h:CR w K D vs cs)(n:Nat):CR w K D (vs.take n) (cs.take n):=
  ⟨by simp[h.len],λc hc=>h.one c (bS hc),λj v c hv hc=>
    h.rep j v c (by rw[aP]at hv;split at hv<;>first|exact hv|cases hv) (by rw[aP]at hc;split at hc<;>first|exact hc|cases hc)⟩
theorem CR.drop {cs:List SV} (h:CR w K D vs cs)(n:Nat):CR w K D (vs.drop n) (cs.drop n):=
  ⟨by simp[h.len],λc hc=>h.one c (bQ hc),λj v c hv hc=>h.rep (n+j) v c (by simpa using hv) (by simpa using hc)⟩
theorem CR.splice {cs ds:List SV} (h:CR w K D vs cs)(g:CR w K D us ds)(off:Nat):CR w K D (vs.take off++(us++vs.drop (off+us.length))) (splice cs off ds):=by
  unfold Sy.splice;rw[g.len];exact(h.take off).append (g.append (h.drop _))
theorem w0a {s:SV} {ps:List SV} (h:Rep w K D v s)(hp:s.cells?=qB ps):CR w K D v.cells.toList ps:=by
  have single: ∀(u:Value),Rep w K D u s->u.cells= #[u]->u.oneCell'=yB->CR w K D u.cells.toList [s]:=by
    intro u hu hc h1;rw[hc];refine⟨rfl,λc hm=> ?_,λj x c hx hc=> ?_⟩;simp at hm;subst hm;exact h1
    cases j with
    |zero=>simp at hx hc;subst hx;subst hc;exact hu
    |succ j=>simp at hx
  cases h with
  |agg vs cs hc h1 h=>cases hp;exact⟨hc,h1,h⟩
  |undef=>cases hp
  |tup=>cases hp
  |ep=>cases hp
  |bool b=>cases hp;exact single _ (.bool b) rfl rfl
  |int k n=>cases hp;exact single _ (.int k n) rfl rfl
  |str sb=>cases hp;exact single _ (.str sb) rfl rfl
  |nl a=>cases hp;exact single _ (.nl a) rfl rfl
  |emp k a cap=>cases hp;exact single _ (.emp k a cap) rfl rfl
  |lst k b off len cap vs cs hk hl hc hcap hm hK h1 hpl h=>cases hp;exact single _ (.lst k b off len cap vs cs hk hl hc hcap hm hK h1 hpl h) rfl rfl
  |ptr i off b c n hb=>cases hp;exact single _ (.ptr i off b c n hb) rfl rfl
  |vcn i a hd=>cases hp;exact single _ (.vcn i a hd) rfl rfl
  |vc i b c n hd=>cases hp;exact single _ (.vc i b c n hd) rfl rfl
  |sl i off n k b c m cap hd hn=>cases hp;exact single _ (.sl i off n k b c m cap hd hn) rfl rfl
  |mp i r c n hd=>cases hp;exact single _ (.mp i r c n hd) rfl rfl
  |fn f fs caps gs dcs hc hd h h'=>cases hp;exact single _ (.fn f fs caps gs dcs hc hd h h') rfl rfl
  |nilp=>cases hp;exact single _ .nilp rfl rfl
  |yld i l c n hd=>cases hp;exact single _ (.yld i l c n hd) rfl rfl
theorem y0X: ∀(l:List Value) (k off:Nat) (cells:Array Value),off+k+l.length<=cells.size->
    ((l.zipIdx k).foldl (λcs x=>cs.setIfInBounds (off+x.2) x.1) cells).toList=cells.toList.take (off+k)++(l++cells.toList.drop (off+k+l.length)):=by
  intro l
  induction l with
  |nil=>intro k off cells _;simp
  |cons x l ih=>
    intro k off cells h;simp only[List.zipIdx_cons,List.foldl_cons];rw[ih (k+1) off _ (by simp at h⊢;omega)];have hlt:off+k<cells.toList.length:=by simp at h⊢;omega
    simp only[Array.toList_setIfInBounds,aW];rw[show off+(k+1)=off+k+1 from by omega,show off+k+1+l.length=off+k+(l.length+1)from by omega];rw[List.take_succ_eq_append_getElem (by simpa using hlt),List.take_set_of_le (aj _),List.drop_set_of_lt cV];simp
theorem z0b(h:Slots n w K D ρ a.tmps) {place:Nat->Option (Nat×Nat)} : ∀(parts:List (Nat×Operand)) (cells:Array Value) (cs cs':List SV),(∀p∈parts,Operand.inB n p.2=yB)->
    CR w K D cells.toList cs->q0G ρ place cs parts=qB cs'-> ∃cells',Instr.fill place cells (parts.map λp=>(p.1,a.eval p.2))=qB cells'/\CR w K D cells'.toList cs':=by
  intro parts
  induction parts with
  |nil=>intro cells cs cs' _ hcr hs;cases hs;exact⟨cells,rfl,hcr⟩
  |cons p rest ih=>
    intro cells cs cs' hb hcr hs;obtain⟨i,x⟩:=p;simp only[q0G]at hs;split at hs;rename_i off size ps hp hx;split at hs;rename_i hc;obtain⟨hl,hle⟩:=hc
    cases hxe:a0G ρ x with
    |none=>rw[hxe]at hx;cases hx
    |some sx=>
      rw[hxe]at hx;have hrx:=a0i h (hb (i,x) (aw ..)) hxe;have hcx:=w0a hrx hx;have hvl:(a.eval x).cells.size=size:=by have:=hcx.len;simp at this;omega
      have hcl:cs.length=cells.size:=by simpa using hcr.len
      have hle':off+0+(a.eval x).cells.toList.length<=cells.size:=by simp;omega
      have hf:=y0X (a.eval x).cells.toList 0 off cells hle';have hcond: ¬(((a.eval x).cells.size≠size||off+(a.eval x).cells.size>cells.size)=yB):=by simp;omega
      obtain⟨cells',h1,h2⟩:=ih ((a.eval x).cells.toList.zipIdx.foldl (λcs x=>cs.setIfInBounds (off+x.2) x.1) cells) _ cs' (λp hm=>hb p (ao _ hm)) (by
        rw[hf];simpa using hcr.splice hcx off) hs
      refine⟨cells', ?_,h2⟩;simp only[al,Instr.fill,hp];rw[wC (by simpa using hcond)]
      have hz:(a.eval x).cells.zipIdx.foldl (λcs x=>cs.setIfInBounds (off+x.2) x.1) cells=(a.eval x).cells.toList.zipIdx.foldl (λcs x=>cs.setIfInBounds (off+x.2) x.1) cells:=by
        rw[<-Array.foldl_toList];simp
      rw[<-hz]at h1;exact h1
    cases hs;cases hs
theorem A0z {x:Value} {s:SV} (h:B0R x=qB s):Rep w K D x s/\x.oneCell'=true:=by
  unfold B0R at h
  split at h
  · rename_i s' hx
    cases h;have hpl:s.plain=true:=by unfold p0K at hx;split at hx<;>cases hx<;>rfl
    exact⟨m0o hx,x0b (w:=w) (K:=K) (D:=D) (m0o hx) hpl⟩
  · split at h<;>cases h
    rename_i h1;exact⟨.undef _,h1⟩
theorem q0J {cs:List SV} (h:o0w v=qB cs):CR w K D v.cells.toList cs:=by
  unfold o0w at h;generalize v.cells.toList=l at h
  induction l generalizing cs with
  |nil=>simp at h;subst h;exact CR.nil
  |cons x l ih=>
    simp only[cI]at h
    cases hx:B0R x with
    |none=>rw[hx]at h;cases h
    |some s=>
      rw[hx]at h
      cases hl:l.mapM B0R with
      |none=>rw[hl]at h;cases h
      |some r=>
        rw[hl]at h;cases h;obtain⟨hz1,hz2⟩:=A0z (w:=w) (K:=K) (D:=D) hx
        have h1:CR w K D [x] [s]:=⟨rfl,λc hm=>by simp at hm;subst hm;exact hz2,λj v c hv hc=>by
          cases j with
          |zero=>simp at hv hc;subst hv;subst hc;exact hz1
          |succ j=>simp at hv⟩
        exact h1.append (ih hl)
theorem o0k {cs:List SV} (h:r0P P t=qB cs): ∃i z,P.info? t=qB i/\i.zero=qB z/\cs.length=i.size/\P.cellsOf t=i.size/\True/\ ∀(w:World) (K:Nat->Nat) (D:DM),CR w K D z.cells.toList cs:=by
  unfold r0P at h
  split at h
  · rename_i i hi
    split at h
    · rename_i z hz
      split at h
      · rename_i cs' hcs
        split at h<;>cases h
        rename_i hl;exact⟨i,z,hi,hz,hl,by simp[wJ,hi],trivial,λw K D=>q0J hcs⟩
      cases h
    cases h
  cases h
theorem G0B(h:Slots n w K D ρ a.tmps) {parts:Array (Nat×Operand)} (ho:o.op= .build t parts)(hb: ∀p∈parts.toList,Operand.inB n p.2=yB) {s:SV}
    (hs:a0k P o ρ=qB s):h0U P w K D o a s:=by
  have he:execOp a.eval o=(do pure (Next.value (<-Instr.build t (parts.map λp=>(p.1,a.eval p.2))))):=by unfold execOp;rw[ho]
  have hpl:(parts.map λp=>(p.1,a.eval p.2)).toList=parts.toList.map λp=>(p.1,a.eval p.2):=by simp
  simp only[a0k,ho]at hs;split at hs;rename_i zs pl hz hp
  cases hf:q0G ρ (λi=>pl[i]?) zs parts.toList with
  |none=>rw[hf]at hs;cases hs
  |some cs=>
    rw[hf]at hs;cases hs;obtain⟨i,z,hi,hzz,hl,hc,_,hcr⟩:=o0k hz;obtain⟨cells',h1,h2⟩:=z0b h parts.toList z.cells zs cs hb (hcr w K D) hf;unfold z0S at hp;split at hp;rename_i fs hu;refine a0K he (r:= .agg cells') (run_build w t _ _ ?_) (by have:=Rep.agg _ _ h2.len h2.one h2.rep;simpa using this);unfold Program.built;simp only[hi,hu,hzz,hp,hpl];rw[<-h1];congr 1;funext j;simp;cases hp
  rename_i zs k hz hp hk
  cases hf:q0G ρ (λi=>qB (i*k,k)) zs parts.toList with
  |none=>rw[hf]at hs;cases hs
  |some cs=>
    rw[hf]at hs;cases hs;obtain⟨i,z,hi,hzz,hl,hc,_,hcr⟩:=o0k hz;obtain⟨cells',h1,h2⟩:=z0b h parts.toList z.cells zs cs hb (hcr w K D) hf;unfold x0Q at hk;split at hk;rename_i n e hu
    cases hie:P.info? e with
    |none=>rw[hie]at hk;cases hk
    |some ie=>
      rw[hie]at hk;cases hk;refine a0K he (r:= .agg cells') (run_build w t _ _ ?_) (by have:=Rep.agg _ _ h2.len h2.one h2.rep;simpa using this);unfold Program.built;simp only[hi,hu,hzz,hie,hpl];exact h1
    cases hk
  cases hs
def Op.inB(n:Nat)(o:Op):Bool:=o.operands.all (Operand.inB n)
theorem B0a(h:Slots n w K D ρ a.tmps)(hb:Op.inB n o.op=yB) {s:SV} (hs:a0k P o ρ=qB s):h0U P w K D o a s:=by
  unfold Op.inB at hb;rw[aQ]at hb;cases ho:o.op
  case move x=>exact D0n h (.inl ho) (hb x (by simp[ho,oB])) hs
  case assign x=>exact D0n h (.inr ho) (hb x (by simp[ho,oB])) hs
  case pick c x y=>exact I0q h ho (hb c (by simp[ho,oB])) (hb x (by simp[ho,oB])) (hb y (by simp[ho,oB])) hs
  case binOp op t x y u=>exact G0C h ho (hb x (by simp[ho,oB])) (hb y (by simp[ho,oB])) hs
  case unOp op t x=>exact H0M h ho (hb x (by simp[ho,oB])) hs
  case convert s d x=>exact B0z h ho (hb x (by simp[ho,oB])) hs
  case extract x i=>exact B0w h ho (hb x (by simp[ho,oB])) hs
  case nilCheck x=>exact y0J h ho (hb x (by simp[ho,oB])) hs
  case indexAddr t x i=>exact x0D h ho (hb x (by simp[ho,oB])) (hb i (by simp[ho,oB])) hs
  case index t x i=>exact G0j h ho (hb x (by simp[ho,oB])) (hb i (by simp[ho,oB])) hs
  case fieldAddr t x f=>exact x0K h ho (hb x (by simp[ho,oB])) hs
  case field t x f=>exact G0p h ho (hb x (by simp[ho,oB])) hs
  case load t x=>exact I0F h ho (hb x (by simp[ho,oB])) hs
  case slice t x lo hi mx=>
    exact F0o h ho (hb x (by simp[ho,oB])) (λy hy=>hb y (by subst hy;simp[ho,oB])) (λy hy=>hb y (by subst hy;simp[ho,oB])) hs
  case makeFunc f p q=>exact y0N h ho (λx hm=>hb x (by simp[ho,oB,hm])) (λx hm=>hb x (by simp[ho,oB,hm])) hs
  case build t parts=>exact G0B h ho (λp hp=>hb p.2 (by simp only[ho,oB,cM,aX];exact⟨p,hp,rfl⟩)) hs
  case call c=>exact K0P h ho (λx hm=>hb x (by simp[ho,oB,Call.operands,hm])) hs
  all_goals(simp only[a0k,ho]at hs;cases hs)
end
end
section
variable [Inhabited GT]
def g0L(D:DM)(i:Nat)(l:Loc):DM:=λj=>if j=i then qB l else D j
def i0h(H:a0e)(i:Nat)(en:Ent):a0e:=if i<H.length then H.set i en else H++ [en]
def CanNew(H:a0e)(i:Nat):Prop:=i=H.length\/H[i]?=qB .res
def i0o(H:a0e):Option Nat->a0e
  |none=>H
  |some i=>H.set i .gone
theorem r0I(H:a0e)(x:Option Nat):(i0o H x).length=H.length:=by cases x<;>simp[i0o]
theorem v0i {H:a0e} {en:Ent} (hi:i<=H.length)(j:Nat):(i0h H i en)[j]?=if j=i then qB en else H[j]?:=by
  unfold i0h;by_cases hl:i<H.length;rw[qC hl,aN];by_cases hj:j=i;subst hj;simp[hl];rw[wC (Ne.symm hj),wC hj];rw[wC hl,aL];have:i=H.length:=by omega
  subst this;by_cases hj:j=H.length;subst hj;simp;rw[wC hj];split;rfl;rw[ay dA,ay cV]
theorem l0y {H:a0e} {x:Option Nat} {en:Ent} (h:(i0o H x)[j]?=qB en):en= .gone\/(H[j]?=qB en/\x≠qB j):=by
  cases x with
  |none=>exact .inr ⟨h,dB⟩
  |some i=>
    simp only[i0o]at h;rw[aN]at h;by_cases hij:i=j
    · subst hij
      rw[qC rfl]at h;split at h<;>cases h
      exact .inl rfl
    rw[wC hij]at h;exact .inr ⟨h,by simp[hij]⟩
section
variable {P : Program} {n : Nat} {w : World} {K : Nat -> Nat} {D : DM} {H : a0e} {ρ : Env} {a : Act} {o : Oper}
theorem CanNew.le (h:CanNew H i):i<=H.length:=by
  rcases h with h|h;omega;exact Nat.le_of_lt (ab.1 h).1
theorem CanNew.free (h:CanNew H i)(hi:HInv w K D H):D i=none:=by
  rcases h with h|h;exact hi.dom i cV;exact hi.ent i _ h
theorem place(h:HInv w K D H) {idx:Nat} (hidx:CanNew H idx) {x:Option Nat} (hx:x≠qB idx) {c:Nat} {en:Ent}
    (hb:w.heap.size<=b\/ ∃i en0 c0 n0,x=qB i/\H[i]?=qB en0/\h0p en0=yB/\D i=qB (.at b c0 n0))
    (h1:w'.os=w.os) (h2:w'.tape=w.tape) (h3:w'.output=w.output) (h4:w.heap.size<=w'.heap.size)
    (h5: ∀b',b'≠b->b'<w.heap.size->w'.heap[b']?=w.heap[b']?)
    (hen:(∀v s,Rep w K D v s->Rep w' K (g0L D idx (.at b c m)) v s)->EntOk w' K (g0L D idx (.at b c m)) idx en):
    Grow w K D H w' K (g0L D idx (.at b c m)) (i0h (i0o H x) idx en)/\HInv w' K (g0L D idx (.at b c m)) (i0h (i0o H x) idx en):=by
  have hfree:=hidx.free h;have hle:=hidx.le;have hlen:(i0o H x).length=H.length:=r0I H x;have hget: ∀j,(i0h (i0o H x) idx en)[j]?=if j=idx then qB en else(i0o H x)[j]?:=v0i cV
  have hbK:K b=0:=by
    rcases hb with hb|⟨i,en0,c0,n0,_,g1,g2,g3⟩;rcases br (K b)with hz|hz;exact hz;have:=h.kw b cV;omega;exact(k0I h ⟨i,en0,c0,n0,g1,g2,g3⟩).2
  have hdd: ∀i x,D i=qB x->g0L D idx (.at b c m) i=qB x:=by
    intro i x hi;unfold g0L;rw[wC (λe=>by subst e;rw[hfree]at hi;cases hi)];exact hi
  have hcells: ∀b' j,j<K b'->w'.cell? ⟨b',j,none⟩=w.cell? ⟨b',j,none⟩:=by
    intro b' j hj;have hne:b'≠b:=λe=>by subst e;omega
    exact World.cell?_of_block (w:=w) (a:=⟨b',j,none⟩) (h5 b' hne (h.kw b' cV))
  have hrep: ∀v s,Rep w K D v s->Rep w' K (g0L D idx (.at b c m)) v s:=λv s hr=>hr.mono hcells (λ_=>aj _) hdd
  -- a h0p entry beside has another block
  have hother: ∀j enj bj cj nj,j≠idx->(i0o H x)[j]?=qB enj->h0p enj=yB->D j=qB (.at bj cj nj)->bj≠b/\bj<w.heap.size/\H[j]?=qB enj:=by
    intro j enj bj cj nj hj hkj hlj hdj;rcases l0y hkj with hg|⟨hj1,hj2⟩;subst hg;cases hlj;have hlt:=(k0I h ⟨j,enj,cj,nj,hj1,hlj,hdj⟩).1;refine⟨λe=> ?_,hlt,hj1⟩;subst e;rcases hb with hb|⟨i,en0,c0,n0,hxi,g1,g2,g3⟩;omega;have:=h.inj j i enj en0 bj cj nj c0 n0 hj1 g1 hlj g2 hdj g3;subst this;exact hj2 hxi
  have hgrow:Grow w K D H w' K (g0L D idx (.at b c m)) (i0h (i0o H x) idx en):=by
    refine⟨h1,h2,h3,h4,λb' hb' hm=>h5 b' (λe=> ?_) hb',hcells,λ_=>aj _,λ_ _ _=>rfl,hdd,λb' hm=> ?_⟩;subst e;rcases hb with hb|⟨i,en0,c0,n0,_,g1,g2,g3⟩;omega;exact hm ⟨i,en0,c0,n0,g1,g2,g3⟩;obtain⟨j,enj,cj,nj,e1,e2,e3⟩:=hm;rw[hget]at e1;by_cases hj:j=idx;subst hj;simp only[g0L,if_true]at e3;cases e3;rcases hb with hb|⟨i,en0,c0,n0,_,g1,g2,g3⟩;exact .inr hb;exact .inl ⟨i,en0,c0,n0,g1,g2,g3⟩;rw[wC hj]at e1;simp only[g0L,wC hj]at e3;obtain⟨_,_,q⟩:=hother j enj b' cj nj hj e1 e2 e3;exact .inl ⟨j,enj,cj,nj,q,e2,e3⟩
  refine⟨hgrow,⟨λi hi=> ?_,λi eni hi=> ?_,λi j eni enj bb cc nn cc' nn' hi hj hli hlj hdi hdj=> ?_,λb' hb'=>ba (h.kw b' hb') h4⟩⟩
  have hl:H.length<=i/\i≠idx:=by
    unfold i0h at hi;split at hi;simp[hlen]at hi;exact⟨cV,cV⟩;simp[hlen]at hi;exact⟨cV,cV⟩
  simp only[g0L,wC hl.2];exact h.dom i hl.1;rw[hget]at hi;by_cases hii:i=idx;subst hii;rw[qC rfl]at hi;cases hi;exact hen hrep;rw[wC hii]at hi;rcases l0y hi with hg|⟨g1,g2⟩;subst hg;trivial;refine(h.ent i eni g1).keep hrep (by simp[g0L,hii]) (λbb cc nn hl hd=>⟨?_,rfl⟩);obtain⟨q1,q2,_⟩:=hother i eni bb cc nn hii hi hl hd;exact h5 bb q1 q2;rw[hget]at hi hj;by_cases hii:i=idx;by_cases hjj:j=idx;rw[hii,hjj];rw[wC hjj]at hj;subst hii;simp only[g0L,if_true]at hdi;cases hdi;simp only[g0L,wC hjj]at hdj;exact absurd rfl (hother j enj _ cc' nn' hjj hj hlj hdj).1;rw[wC hii]at hi;simp only[g0L,wC hii]at hdi;by_cases hjj:j=idx;subst hjj;simp only[g0L,if_true]at hdj;cases hdj;exact absurd rfl (hother i eni _ cc nn hii hi hli hdi).1;rw[wC hjj]at hj;simp only[g0L,wC hjj]at hdj;obtain⟨_,_,q1⟩:=hother i eni bb cc nn hii hi hli hdi;obtain⟨_,_,q2⟩:=hother j enj bb cc' nn' hjj hj hlj hdj;exact h.inj i j eni enj bb cc nn cc' nn' q1 q2 hli hlj hdi hdj
theorem t0i(h:HInv w K D H) {idx:Nat} (hidx:CanNew H idx)(x:Option Nat)(hx:x≠qB idx)(k:Nat)(e:TypeId):
    Grow w K D H w K (g0L D idx .nil) (i0h (i0o H x) idx (.vec 0 k e []))/\HInv w K (g0L D idx .nil) (i0h (i0o H x) idx (.vec 0 k e [])):=by
  have hfree:=hidx.free h;have hle:=hidx.le;have hlen:(i0o H x).length=H.length:=r0I H x;have hget: ∀j,(i0h (i0o H x) idx (.vec 0 k e []))[j]?=if j=idx then qB (.vec 0 k e [])else(i0o H x)[j]?:=v0i cV
  have hdd: ∀i x,D i=qB x->g0L D idx .nil i=qB x:=by
    intro i x hi;unfold g0L;rw[wC (λe=>by subst e;rw[hfree]at hi;cases hi)];exact hi
  have hrep: ∀v s,Rep w K D v s->Rep w K (g0L D idx .nil) v s:=λv s hr=>hr.mono (λ_ _ _=>rfl) (λ_=>aj _) hdd
  refine⟨⟨rfl,rfl,rfl,aj _,λ_ _ _=>rfl,λ_ _ _=>rfl,λ_=>aj _,λ_ _ _=>rfl,hdd,λb hm=> ?_⟩,⟨λi hi=> ?_,λi eni hi=> ?_,λi j eni enj bb cc nn cc' nn' hi hj hli hlj hdi hdj=> ?_,h.kw⟩⟩;obtain⟨j,enj,cj,nj,e1,e2,e3⟩:=hm;rw[hget]at e1;by_cases hj:j=idx;subst hj;simp only[g0L,if_true]at e3;cases e3;rw[wC hj]at e1;simp only[g0L,wC hj]at e3;rcases l0y e1 with hg|⟨g1,_⟩;subst hg;cases e2;exact .inl ⟨j,enj,cj,nj,g1,e2,e3⟩
  have hl:H.length<=i/\i≠idx:=by
    unfold i0h at hi;split at hi;simp[hlen]at hi;exact⟨cV,cV⟩;simp[hlen]at hi;exact⟨cV,cV⟩
  simp only[g0L,wC hl.2];exact h.dom i hl.1;rw[hget]at hi;by_cases hii:i=idx;subst hii;rw[qC rfl]at hi;cases hi;exact⟨rfl, .inl ⟨by simp[g0L],rfl,rfl⟩⟩;rw[wC hii]at hi;rcases l0y hi with hg|⟨g1,g2⟩;subst hg;trivial;exact(h.ent i eni g1).keep hrep (by simp[g0L,hii]) (λbb cc nn hl hd=>⟨rfl,rfl⟩);rw[hget]at hi hj;by_cases hii:i=idx;subst hii;simp only[g0L,if_true]at hdi;cases hdi;rw[wC hii]at hi;simp only[g0L,wC hii]at hdi;by_cases hjj:j=idx;subst hjj;simp only[g0L,if_true]at hdj;cases hdj;rw[wC hjj]at hj;simp only[g0L,wC hjj]at hdj;rcases l0y hi with hg|⟨g1,_⟩;subst hg;cases hli;rcases l0y hj with hg|⟨g2,_⟩;subst hg;cases hlj;exact h.inj i j eni enj bb cc nn cc' nn' g1 g2 hli hlj hdi hdj
theorem modify(h:HInv w K D H) {en en':Ent} {c:Nat} (hi:H[i]?=qB en)(hl:h0p en=yB)(hl':h0p en'=yB)(hd:D i=qB (.at b c m))
    (h1:w'.os=w.os) (h2:w'.tape=w.tape) (h3:w'.output=w.output) (h4:w'.heap.size=w.heap.size) (h5: ∀b',b'≠b->w'.heap[b']?=w.heap[b']?)
    (hen:(∀v s,Rep w K D v s->Rep w' K D v s)->EntOk w' K D i en'):
    Grow w K D H w' K D (H.set i en')/\HInv w' K D (H.set i en'):=by
  have hil:i<H.length:=(ab.1 hi).1;obtain⟨hblt,hbK⟩:=k0I h ⟨i,en,c,m,hi,hl,hd⟩
  have hcells: ∀b' j,j<K b'->w'.cell? ⟨b',j,none⟩=w.cell? ⟨b',j,none⟩:=by
    intro b' j hj;have hne:b'≠b:=λe=>by subst e;omega
    exact World.cell?_of_block (w:=w) (a:=⟨b',j,none⟩) (h5 b' hne)
  have hrep: ∀v s,Rep w K D v s->Rep w' K D v s:=λv s hr=>hr.mono hcells (λ_=>aj _) (λ_ _ e=>e)
  have hget: ∀j,(H.set i en')[j]?=if j=i then qB en' else H[j]?:=by
    intro j;rw[aN];by_cases hj:i=j;subst hj;simp[hil];rw[wC hj,wC (Ne.symm hj)]
  have hmem: ∀b',Mem D (H.set i en') b'->Mem D H b':=by
    rintro b' ⟨j,enj,cj,nj,e1,e2,e3⟩;rw[hget]at e1;by_cases hj:j=i;subst hj;exact⟨j,en,cj,nj,hi,hl,e3⟩;rw[wC hj]at e1;exact⟨j,enj,cj,nj,e1,e2,e3⟩
  refine⟨⟨h1,h2,h3,cV,λb' hb' hm=>h5 b' (λe=>hm (e▸⟨i,en,c,m,hi,hl,hd⟩)),hcells,λ_=>aj _,λ_ _ _=>rfl,λ_ _ e=>e,λb' hm=> .inl (hmem b' hm)⟩,
    ⟨λj hj=>h.dom j (by simpa using hj),λj enj hj=> ?_,λj j' enj enj' bb cc nn cc' nn' hj hj' hlj hlj' hdj hdj'=> ?_,λb' hb'=>by rw[h4];exact h.kw b' hb'⟩⟩
  rw[hget]at hj;by_cases hji:j=i;subst hji;rw[qC rfl]at hj;cases hj;exact hen hrep;rw[wC hji]at hj;refine(h.ent j enj hj).keep hrep rfl (λbb cc nn hl2 hd2=>⟨h5 bb (λe=> ?_),rfl⟩);subst e;exact hji (h.inj j i enj en bb cc nn c m hj hi hl2 hl hd2 hd)
  have back: ∀(j:Nat) (enj:Ent),(H.set i en')[j]?=qB enj->h0p enj=yB-> ∃en2,H[j]?=qB en2/\h0p en2=true:=by
    intro j enj hj hlj;rw[hget]at hj;by_cases hji:j=i;subst hji;exact⟨en,hi,hl⟩;rw[wC hji]at hj;exact⟨enj,hj,hlj⟩
  obtain⟨e1,q1,q2⟩:=back j enj hj hlj;obtain⟨e2,q3,q4⟩:=back j' enj' hj' hlj';exact h.inj j j' e1 e2 bb cc nn cc' nn' q1 q3 q2 q4 hdj hdj'
def q0T(P:Program)(w:World)(K:Nat->Nat)(D:DM)(H:a0e)(o:Oper)(a:Act)(s:SV)(H':a0e):Prop:=
  ∃r w',((execOp a.eval o).run P w= .ok (.value r) w'\/((execOp a.eval o).run P w= .ok .skip w'/\r=undef))/\Good w K D H r w' s H'
theorem h0h(H:a0e):i0o H none=H:=rfl
theorem D0l(h:HInv w K D H) {idx:Nat} (hidx:CanNew H idx) {cs:List SV} (hcr:CR w K D vs cs)(e:TypeId):
    Good w K D H (.pointer (qB ⟨w.heap.size,0,none⟩)) (w.alloc (.cells vs.toArray e)) (.ptr idx 0) (i0h H idx (.box cs)):=by
  have hold: ∀b,b<w.heap.size->(w.alloc (.cells vs.toArray e)).heap[b]?=w.heap[b]?:=λb hb=>by show(w.heap.push _)[b]?=_;rw[bI,wC cV]
  have hK0:K w.heap.size=0:=by
    rcases br (K w.heap.size)with h0|h0;exact h0;have:=h.kw w.heap.size cV;omega
  obtain⟨g,hi⟩:=place (w':=w.alloc (.cells vs.toArray e)) (en:= .box cs) (b:=w.heap.size) (c:=0) (m:=0) h hidx (x:=none) dB (.inl (aj _)) rfl rfl rfl dB (λb' _ hlt=>hold b' hlt)
    (λhr=>⟨_,vs,e,by simp[g0L],hK0,(by show(w.heap.push _)[w.heap.size]?=_;simp),hcr.mono hr⟩)
  rw[h0h]at g hi;exact⟨K,_,g,hi, .ptr idx 0 w.heap.size 0 0 (by simp[g0L])⟩
theorem y0K(h:HInv w K D H) {idx:Nat} (hidx:CanNew H idx)(x:Option Nat)(hx:x≠qB idx) {rest:List Value} {cs:List SV} {e:Nat} {L:Array Value}
    (hcr:CR w K D vs cs) (hpl:a0Q cs=yB) (hL:L=(vs++rest).toArray) (hh:w'.heap=w.heap.push (.cells L e)) (h1:w'.os=w.os) (h2:w'.tape=w.tape) (h3:w'.output=w.output)
    (hk:0<k) (hl:vs.length=len*k) (hcap:len<=cap) (hLl:(vs++rest).length=cap*k) (hm:cap<=maxLen):
    Good w K D H (.slice (qB ⟨w.heap.size,0,none⟩) len cap) w' (.vc idx) (i0h (i0o H x) idx (.vec len k e cs)):=by
  subst hL;have hold: ∀b,b<w.heap.size->w'.heap[b]?=w.heap[b]?:=λb hb=>by rw[hh,bI,wC cV]
  have hK0:K w.heap.size=0:=by
    rcases br (K w.heap.size)with h0|h0;exact h0;have:=h.kw w.heap.size cV;omega
  obtain⟨g,hi⟩:=place (w':=w') (en:= .vec len k e cs) (b:=w.heap.size) (c:=cap) (m:=len) h hidx hx (.inl (aj _)) h1 h2 h3 (by rw[hh];simp) (λb' _ hlt=>hold b' hlt)
    (λhr=>⟨hpl, .inr ⟨_,cap,vs,rest,by simp[g0L],hK0,hk,hcap,hm,by rw[hh];simp,hl,hLl,hcr.mono hr⟩⟩)
  exact⟨K,_,g,hi, .vc idx w.heap.size cap len (by simp[g0L])⟩
def b0S:Ent->Option (List SV)
  | .box cs=>qB cs
  | .vec _ _ _ cs=>qB cs
  |_=>none
def x0N(en:Ent)(cs:List SV):Ent:=match en with
  | .box _=> .box cs
  | .vec n k e _=> .vec n k e cs
  |en=>en
def I0K:Ent->Bool
  | .vec _ _ _ _=>yB
  |_=>vB
theorem v0P(h:HInv w K D H) {c:Nat} {en:Ent} {cs:List SV} (hi:H[i]?=qB en)(hd:D i=qB (.at b c m))(hc:b0S en=qB cs):
    ∃vs rest e,w.heap[b]?=qB (.cells (vs++rest).toArray e (0,0))/\CR w K D vs cs/\h0p en=yB/\K b=0:=by
  have he:=h.ent i en hi
  cases en with
  |res=>cases hc
  |gone=>cases hc
  |box cs'=>
    cases hc;obtain⟨b',vs,e,h1,h2,h3,h4⟩:=he;rw[h1]at hd;cases hd;exact⟨vs,[],e,by simpa using h3,h4,rfl,h2⟩
  |vec n k e cs'=>
    cases hc;rcases he.2 with⟨h1,_⟩|⟨b',c',vs,rest,h1,h2,_,_,_,h6,_,_,h9⟩;rw[h1]at hd;cases hd;rw[h1]at hd;cases hd;exact⟨vs,rest,e,h6,h9,rfl,h2⟩
  |map es=>cases hc
  |itr m n s=>cases hc
  |lop tm ps as bd st pd=>cases hc
  |dfr=>cases hc
  |pmap es=>cases hc
theorem g0G {rest:List Value} {cs:List SV} (hheap:w.heap[b]?=qB (.cells (vs++rest).toArray e (0,0)))(h:CR w K D vs cs):RowAt w K D b 0 vs cs:=by
  refine⟨h.len,λj v hj=> ?_,h.one,h.rep⟩;rw[cell_of_row w b _ _ _ _ hheap];simp only[aY,List.getElem?_toArray];rw[bC (ab.1 hj).1];exact hj
theorem r0f (h:Rep w K D v (.ptr i off)): ∃b c m,v= .pointer (qB ⟨b,off,none⟩)/\D i=qB (.at b c m):=by
  cases h with
  |ptr _ _ b c m hd=>exact⟨b,c,m,rfl,hd⟩
theorem l0I(h:HInv w K D H) {c:Nat} {en:Ent} {cs ps:List SV} (hi:H[i]?=qB en)(hd:D i=qB (.at b c m))(hc:b0S en=qB cs)
    (hle:off+ps.length<=cs.length) (hcx:CR w K D us ps) (hpl:I0K en=yB->a0Q ps=yB):
    ∃w',(storeCells ⟨b,off,none⟩ us).run P w= .ok () w'/\Grow w K D H w' K D (H.set i (x0N en (splice cs off ps)))/\HInv w' K D (H.set i (x0N en (splice cs off ps))):=by
  obtain⟨vs,rest,e,hheap,hcr,hlive,hK0⟩:=v0P h hi hd hc;have hul:us.length=ps.length:=hcx.len.symm;have hvl:vs.length=cs.length:=hcr.len.symm;have hst:=run_storeCells_at P b off e us 0 (vs++rest).toArray w hheap dA hcx.one;simp only[cq]at hst;have hnew:=setRow_heap w b (vs++rest).toArray ((vs++rest).toArray.toList.take off++us++(vs++rest).toArray.toList.drop (off+us.length)).toArray e _ hheap
  have hrow:((vs++rest).toArray.toList.take off++us++(vs++rest).toArray.toList.drop (off+us.length)).toArray=((vs.take off++(us++vs.drop (off+us.length)))++rest).toArray:=by
    congr 1;simp only[aO];rw[List.take_append_of_le_length cV,List.drop_append_of_le_length cV]
  rw[hrow]at hst hnew;generalize hw':w.setRow b ((vs.take off++(us++vs.drop (off+us.length)))++rest).toArray=w' at hst hnew;have hother: ∀c,c≠b->w'.heap[c]?=w.heap[c]?:=λc hcb=>by rw[<-hw'];exact setRow_other w b c _ hcb
  have hsize:w'.heap.size=w.heap.size:=by rw[<-hw'];simp
  have hsp:=hcr.splice hcx off;have hsl:(splice cs off ps).length=cs.length:=by simp[Sy.splice];omega
  have hl':h0p (x0N en (splice cs off ps))=true:=by cases en<;>first|rfl|cases hlive
  refine⟨w',hst,modify h hi hlive hl' hd (by rw[<-hw'];rfl) (by rw[<-hw'];rfl) (by rw[<-hw'];rfl) hsize hother (λhr=> ?_)⟩;have he:=h.ent i en hi
  cases en with
  |res=>cases hc
  |gone=>cases hc
  |box cs'=>
    cases hc;obtain⟨b',vs',e',h1,h2,h3,h4⟩:=he;rw[h1]at hd;cases hd;rw[hheap]at h3;injection h3 with h3;injection h3 with h3 h3e;have hv3:vs++rest=vs':=by simpa using h3
    have hr0:rest=[]:=by
      have:=congrArg List.length hv3;rw[aA,hvl,h4.len.symm]at this;exact av cV
    subst hr0;exact⟨b,_,e,h1,h2,by simpa using hnew,hsp.mono hr⟩
  |vec n k e' cs'=>
    cases hc;obtain⟨hp,he⟩:=he;refine⟨?_, ?_⟩;have hpp:=hpl rfl;simp only[a0Q,Sy.splice,bX,aa];exact⟨f0M hp _,hpp,i0k hp _⟩;rcases he with⟨h1,_⟩|⟨b',c',vs',rest',h1,h2,h3,h4,h5,h6,h7,h8,h9⟩;rw[h1]at hd;cases hd;rw[h1]at hd;cases hd;rw[hheap]at h6;injection h6 with h6;injection h6 with h6 h6e;subst h6e;have hv6:vs++rest=vs'++rest':=by simpa using h6
    have hvs:vs=vs':=(List.append_inj hv6 (by rw[hvl,h9.len])).1;have hrs:rest=rest':=(List.append_inj hv6 (by rw[hvl,h9.len])).2;subst hvs;subst hrs;refine .inr ⟨b,c,_,rest,h1,h2,h3,h4,h5,hnew, ?_, ?_,hsp.mono hr⟩;simp only[aA,aB,aV];omega;simp only[aA,aB,aV]at h8⊢;omega
  |map es=>cases hc
  |itr m n s=>cases hc
  |lop tm ps as bd st pd=>cases hc
  |dfr=>cases hc
  |pmap es=>cases hc
end
end
section
variable [Inhabited GT]
structure Eff where
  v:SV
  rd:List Nat
  wr:List (Nat×Ent)
def b0e(H:a0e):List (Nat×Ent)->a0e
  | []=>H
  |(i,en)::r=>b0e (i0h H i en) r
def i0U(P:Program)(e k:Nat):Bool:=
  match P.info? e with
  |some i=>(i.size==k)&&wB (0<k)&&wB (i.bytes<=4096)&&(match i.zero with
    |some z=>z.cells.size==i.size
    |none=>vB)
  |none=>vB
def l0C(b:UInt8):SV:= .int .u8 b.toNat
def w0l(k:Nat)(s:SV)(H:a0e):Option (Nat×List SV×List Nat):=
  match s with
  | .lst n k' cs=>if k'=k\/n=0 then qB (n,cs,[])else none
  | .nl=>qB (0,[],[])
  | .str bs=>if k=1 then qB (bs.length,bs.map l0C,[])else none
  | .vc j=>match H[j]? with
    |some (.vec n k' _ cs)=>if k'=k\/n=0 then qB (n,cs,[j])else none
    |_=>none
  | .sl j off n k'=>match H[j]? with
    |some (.box cs)=>if k'=k/\off+n*k<=cs.length/\a0Q ((cs.drop off).take (n*k))=yB then qB (n,(cs.drop off).take (n*k),[j])else none
    |_=>none
  |_=>none
def j0s(P:Program)(tx:TypeId)(s:SV):Bool:=
  match s,P.underlying tx with
  | .str _,qB .string=>yB
  | .str _,_=>vB
  |_,qB (.slice _)=>yB
  |_,_=>vB
def o0x(P:Program)(e:TypeId):Bool:=
  match P.info? e with
  |some i=>i.bytes==1
  |none=>vB
def RoomE(P:Program)(e:TypeId)(n:Nat):Prop:=B0Q n\/(o0x P e=yB/\n<=140737488400000)
instance {P:Program} {e n:Nat} :Decidable (RoomE P e n):=inferInstanceAs (Decidable (B0Q n\/(o0x P e=yB/\n<=140737488400000)))
def A0J(P:Program)(e k:Nat)(tx:TypeId)(sy:SV)(H:a0e):Option (Nat×List SV×List Nat):=
  match sy with
  | .int _ l=>match P.underlying tx,r0P P e with
    |some (.int _),qB zs=>if a0Q zs=yB/\P.cellsOf e=k then qB (l.toNat,(zD l.toNat zs).flatten,[])else none
    |_,_=>none
  |_=>if j0s P tx sy=yB then w0l k sy H else none
def K0v(sy:SV):Bool:=
  match sy with
  | .int _ l=>wB (0<=l)
  |_=>yB
def o0g(P:Program)(c:Call)(ρ:Env)(H:a0e)(idx:Nat):Option Eff:=
  match c.args.toList,c.argTypes.toList with
  | [x,y],[t,tx]=>match P.underlying t,a0G ρ x,a0G ρ y with
    |some (.slice e),qB .nl,qB sy=>match A0J P e (P.cellsOf e) tx sy H with
      |some (m,cs2,rd)=>if i0U P e (P.cellsOf e)=yB/\K0v sy=yB/\RoomE P e m then qB ⟨.vc idx,rd,[(idx, .vec m (P.cellsOf e) e cs2)]⟩else none
      |none=>none
    |some (.slice e),qB (.vc i),qB sy=>match H[i]? with
      |some (.vec n k e' cs)=>match A0J P e k tx sy H with
        |some (m,cs2,rd)=>if e=e'/\i0U P e k=yB/\K0v sy=yB/\RoomE P e (n+m)then qB ⟨.vc idx,i::rd,[(i, .gone),(idx, .vec (n+m) k e (cs++cs2))]⟩else none
        |none=>none
      |_=>none
    |_,_,_=>none
  |_,_=>none
def E0u(P:Program)(c:Call)(ρ:Env)(H:a0e):Option Eff:=
  match c.args.toList,c.argTypes.toList with
  | [x,y],[t,tx]=>match P.underlying t,a0G ρ x,a0G ρ y with
    |some (.slice e),qB (.vc i),qB sy=>match H[i]? with
      |some (.vec n k e' cs)=>match w0l k sy H with
        |some (m,cs2,rd)=>if k=P.cellsOf e/\i0U P e k=yB/\j0s P tx sy=yB then qB ⟨.int .i64 ((min m n:Nat):Int),i::rd,[(i, .vec n k e' (splice cs 0 (cs2.take (min m n*k))))]⟩else none
        |none=>none
      |_=>none
    |some (.slice e),qB (.sl i off n k),qB sy=>match H[i]? with
      |some (.box cs)=>match w0l k sy H with
        |some (m,cs2,rd)=>if k=P.cellsOf e/\i0U P e k=yB/\j0s P tx sy=yB/\off+n*k<=cs.length then qB ⟨.int .i64 ((min m n:Nat):Int),i::rd,[(i, .box (splice cs off (cs2.take (min m n*k))))]⟩else none
        |none=>none
      |_=>none
    |_,_,_=>none
  |_,_=>none
section
variable {P : Program} {n : Nat} {w : World} {K : Nat -> Nat} {D : DM} {H : a0e} {ρ : Env} {a : Act} {o : Oper}
theorem h0a {e:Nat} (h:i0U P e k=yB): ∃i z,P.info? e=qB i/\i.zero=qB z/\z.cells.size=i.size/\i.size=k/\0<k/\i.bytes<=4096:=by
  unfold i0U at h;split at h;rename_i i hi;simp only[aa,beq_iff_eq,decide_eq_true_eq]at h;obtain⟨⟨⟨h1,h2⟩,h3⟩,h4⟩:=h;split at h4;rename_i z hz;exact⟨i,z,hi,hz,by simpa using h4,h1,h2,h3⟩;cases h4;cases h
theorem C0t {bs:List UInt8} (h:j0s P tx (.str bs)=yB):P.underlying tx=qB .string:=by
  cases hu:P.underlying tx with
  |none=>simp[j0s,hu]at h
  |some d=>cases d<;>first|rfl|simp[j0s,hu]at h
theorem p0V {s:SV} (hs: ∀bs,s≠ .str bs)(h:j0s P tx s=yB): ∃e,P.underlying tx=qB (.slice e):=by
  cases hu:P.underlying tx with
  |none=>cases s<;>simp[j0s,hu]at h
  |some d=>
    cases d<;>first|exact⟨_,rfl⟩|(cases s<;>first|exact absurd rfl (hs _)|simp[j0s,hu]at h)
structure SrcAt (P:Program) (w:World) (K:Nat->Nat) (D:DM) (k:Nat) (tx:TypeId) (x:Value) (m:Nat) (news:List Value) (cs:List SV):Prop where
  src:Src P k tx x m news w
  cr:CR w K D news cs
  plain:a0Q cs=yB
  first: ∀q,q<=m->(Builtin.firstCells k q x).run P w= .ok (news.take (q*k)).toArray w
theorem p0W {cs:List SV} (he:P.underlying tx=qB (.slice e))(hrow:RowAt w K D b off vs cs)(hl:vs.length=len*k)(hp:a0Q cs=yB):
    SrcAt P w K D k tx (.slice (qB ⟨b,off,none⟩) len cap) len vs cs:=
  ⟨Src.ofSlice w he ⟨b,off,none⟩ len cap vs hl (λj u hu=>by rw[add_lit];exact hrow.mem j u hu) hrow.one,⟨hrow.len,hrow.one,hrow.rep⟩,hp,λq hq=>by
    have hle:q*k<=len*k:=aJ _ hq
    exact run_firstCells_some w k q ⟨b,off,none⟩ len cap (vs.take (q*k)) (by rw[aB];omega) (λj u hu=>by rw[add_lit];exact(hrow.take _).mem j u hu)⟩
theorem n0Z {ad:Option Addr} (he:P.underlying tx=qB (.slice e)):SrcAt P w K D k tx (.slice ad 0 cap) 0 [] []:=by
  refine⟨?_,CR.nil,rfl,λq hq=> ?_⟩
  cases ad with
  |none=>exact Src.ofNil w he cap
  |some ea=>exact Src.ofSlice w he ea 0 cap [] dB (λj u hu=>by simp at hu) (λu hu=>(by cases hu))
  have:q=0:=by omega
  subst this
  cases ad with
  |none=>simpa using run_firstCells_none w k 0 0 cap
  |some ea=>simpa using run_firstCells_some w k 0 ea 0 cap [] dB (λj u hu=>by simp at hu)
theorem x0G(sb:ByteArray)(q:Nat)(hq:q<=sb.size):(Builtin.firstCells 1 q (.string sb)).run P w= .ok ((byteCells sb).take (q*1)).toArray w:=by
  simp only[Builtin.firstCells,vE,Nat.mul_one];congr 1;apply yJ;simp[byteCells,ByteArray.data_extract,bZ,List.map_take]
theorem w0z(hi:HInv w K D H) {x:Value} {s:SV} {cs:List SV} (hk:0<k)(hr:Rep w K D x s)
    (hs:w0l k s H=qB (m,cs,rd)) (hty:j0s P tx s=yB): ∃news,SrcAt P w K D k tx x m news cs:=by
  unfold w0l at hs
  split at hs
  · rename_i n k' cs'
    obtain⟨e,he⟩:=p0V (λbs=>dB) hty;split at hs<;>cases hs
    rename_i hc;rcases l0S hr with⟨ea,ecap,hv,hcs,hn0⟩|⟨b,off,cap,vs,hv,hrow,hK,hk0,hl,hcap,hp⟩;subst hcs;subst hv;subst hn0;exact⟨[],n0Z he⟩;subst hv;rcases hc with hc|hc;subst hc;exact⟨vs,p0W he hrow hl hp⟩;subst hc;have hv0:vs=[]:=av (by simpa using hl);subst hv0;have hc0:cs=[]:=av hrow.len;subst hc0;exact⟨[],n0Z he⟩
  cases hs;obtain⟨e,he⟩:=p0V (λbs=>dB) hty;cases hr;exact⟨[],n0Z he⟩
  · rename_i bs
    split at hs<;>cases hs
    rename_i e1;subst e1
    cases hr with
    |str sb=>
      have hu:=C0t hty;have hsrc:=Src.ofString (P:=P) w hu sb;have hlen:sb.data.toList.length=sb.size:=by simp
      rw[<-hlen]at hsrc;refine⟨byteCells sb,hsrc,⟨by simp[byteCells],hsrc.one,λj v c hv hc=> ?_⟩, ?_, ?_⟩;unfold byteCells at hv;rw[aq]at hv hc
      cases hb:sb.data.toList[j]? with
      |none=>rw[hb]at hv;cases hv
      |some y=>rw[hb]at hv hc;cases hv;cases hc;exact .int _ _
      simp only[a0Q,List.all_map,vD];intro b _;rfl;intro q hq;exact x0G sb q (by rw[hlen]at hq;exact hq)
  · rename_i j
    obtain⟨e,he⟩:=p0V (λbs=>dB) hty
    split at hs
    · rename_i n k' e' cs' hj
      split at hs<;>cases hs
      rename_i hc;obtain⟨hp,hent⟩:=hi.ent j _ hj;rcases hent with⟨h1,h2,h3⟩|⟨b,c,vs,rest,h1,h2,h3,h4,h5,h6,h7,h8,h9⟩;subst h2;subst h3
      cases hr with
      |vcn _ ad hd=>exact⟨[],n0Z he⟩
      |vc _ b c n hd=>rw[h1]at hd;cases hd
      cases hr with
      |vcn _ ad hd=>rw[h1]at hd;cases hd
      |vc _ b' c' n' hd=>
        rw[h1]at hd;cases hd;have hrow:=g0G h6 h9;rcases hc with hc|hc;subst hc;exact⟨vs,p0W he hrow h7 hp⟩;subst hc;have hv0:vs=[]:=av (by simpa using h7);subst hv0;have hc0:cs=[]:=av h9.len;subst hc0;exact⟨[],n0Z he⟩
    cases hs
  · rename_i j off n k'
    obtain⟨e,he⟩:=p0V (λbs=>dB) hty
    split at hs
    · rename_i cs' hj
      split at hs<;>cases hs
      rename_i hc;obtain⟨hk',hle,hp⟩:=hc;subst hk';obtain⟨b,vs,e',h1,h2,h3,h4⟩:=hi.ent j _ hj
      cases hr with
      |sl _ _ _ _ b' c' m' cap hd hcap=>
        rw[h1]at hd;cases hd
        have hrow:=(g0G (rest:=[]) (by simpa using h3) h4)
        have hrow':=(hrow.drop off).take (m*k');rw[aY]at hrow';have hvl:=h4.len;exact⟨_,p0W he hrow' (by simp only[aB,aV];omega) hp⟩
    cases hs
  cases hs
theorem r0b(t tx ty e:TypeId)(i:TypeInfo)(ht:P.underlying t=qB (.slice e))(hi:P.info? e=qB i)
    (g sLen sCap:Nat) (cur:Array Value) (e':TypeId) (hg:w.heap[g]?=qB (.cells cur e' (0,0))) (x:Value) (m:Nat) (news:List Value) (hs:Src P i.size tx x m news w)
    (hroom:sLen+m<=sCap) (hfit:sLen*i.size+news.length<=cur.size):
    (Builtin.append_ #[t,tx] ty #[.slice (qB ⟨g,0,none⟩) sLen sCap,x]).run P w=
      .ok (.slice (qB ⟨g,0,none⟩) (sLen+m) sCap) (w.setRow g (cur.toList.take (sLen*i.size)++news++cur.toList.drop (sLen*i.size+news.length)).toArray):=by
  have hst:=run_storeCells_at P g (sLen*i.size) e' news 0 cur w hg (by simpa using hfit) hs.one;simp only[cq]at hst;rcases hs.kind with⟨e2,hk⟩|hk<;>simp[Builtin.append_,run_underlying ht,run_underlying hk,sizeOf,typeInfo,hi,hs.len,hroom,hs.cells,Addr.add_lit,hst]
theorem y0Z {α:Type} (zs:List α): ∀(n j:Nat),j<n*zs.length->(zD n zs).flatten[j]?=zs[j%zs.length]?:=by
  intro n
  induction n with
  |zero=>intro j hj;omega
  |succ n ih=>
    intro j hj;rw[List.replicate_succ,List.flatten_cons,aL];split;rename_i hlt;rw[cN hlt]
    · rename_i hge
      rw[ih (j-zs.length) (by rw[bK]at hj;omega)]
      conv=>rhs;rw[Nat.mod_eq_sub_mod (show j≥zs.length by omega)]
theorem y0Y {α:Type} (zs:List α)(n:Nat):(zD n zs).flatten.length=n*zs.length:=by
  simp
theorem s0C {zs:List SV} (h:a0Q zs=yB)(m:Nat):a0Q (zD m zs).flatten=true:=by
  refine List.all_eq_true.2 λc hc=> ?_
  obtain⟨l,hl,hcl⟩:=List.mem_flatten.1 hc;obtain⟨_,rfl⟩:=List.mem_replicate.1 hl;exact List.all_eq_true.1 h c hcl
theorem u0S {z:Array Value} {zs:List SV} (hcr:CR w K D z.toList zs)(hk:0<zs.length)(m:Nat):
    CR w K D ((wK (m*zs.length)).map (z[· %z.size]!)).toList (zD m zs).flatten:=by
  have hzl:z.size=zs.length:=by simpa using hcr.len.symm
  have hget: ∀j v,((wK (m*zs.length)).map (z[· %z.size]!)).toList[j]?=qB v->j<m*zs.length/\z.toList[j%z.size]?=qB v:=by
    intro j v hv;rw[cv,Array.getElem?_map,Array.getElem?_range]at hv;split at hv;rename_i hj;cases hv;have hmz:j%z.size<z.size:=by rw[hzl];exact Nat.mod_lt _ hk
    exact⟨hj,by rw[cv,aM hmz];exact congrArg qB (getElem!_pos z _ hmz).symm⟩;cases hv
  refine⟨dB,λv hv=> ?_,λj v c hv hc=> ?_⟩;obtain⟨j,hj⟩:=bq.1 hv;exact hcr.one v (aI (hget j v hj).2);obtain⟨h1,h2⟩:=hget j v hv;rw[y0Z zs m j h1,<-hzl]at hc;exact hcr.rep _ v c h2 hc
theorem r0a(t tx ty e:TypeId)(i:TypeInfo)(z:Value)(ik:IntKind)(ht:P.underlying t=qB (.slice e))(hi:P.info? e=qB i)(hz:i.zero=qB z)(hk:P.underlying tx=qB (.int ik))(hs0:0<i.size)
    (g sLen sCap:Nat) (cur:Array Value) (e':TypeId) (hg:w.heap[g]?=qB (.cells cur e' (0,0))) (kk:IntKind) (m:Nat) (news:List Value) (hn:(Builtin.zeroCells z.cells m).toList=news) (h1: ∀u∈news,u.oneCell'=yB)
    (hw:IntKind.i64.wrap (m:Int)=m) (hby: ¬(281474976710656<(m:Int)*i.bytes))
    (hroom:sLen+m<=sCap) (hfit:sLen*i.size+news.length<=cur.size):
    (Builtin.append_ #[t,tx] ty #[.slice (qB ⟨g,0,none⟩) sLen sCap, .int kk m]).run P w=
      .ok (.slice (qB ⟨g,0,none⟩) (sLen+m) sCap) (w.setRow g (cur.toList.take (sLen*i.size)++news++cur.toList.drop (sLen*i.size+news.length)).toArray):=by
  have hst:=run_storeCells_at P g (sLen*i.size) e' news 0 cur w hg (by simpa using hfit) h1;simp only[cq]at hst;have hneg: ¬((m:Int)<0):=by omega
  by_cases hm:m=0;subst hm;have hn0:news=[]:=by rw[<-hn];apply av;simp[Builtin.zeroCells]
  subst hn0;have hw0:IntKind.i64.wrap 0=0:=by decide
  have hr0:sLen<=sCap:=hroom;simp[Builtin.append_,run_underlying ht,run_underlying hk,sizeOf,typeInfo,hi,asInt,asIntOf,hw0,hr0,storeCells,Addr.add_lit]at hst⊢;exact hst
  · have hmm: ¬(m*i.size=0):=by intro h0;rcases Nat.mul_eq_zero.1 h0 with h0|h0<;>omega
    have hm2: ¬(m=0\/i.size=0):=by omega
    simp[Builtin.append_,run_underlying ht,run_underlying hk,sizeOf,typeInfo,zeroValue,hi,hz,asInt,asIntOf,hw,hneg,hby,hroom,hmm,hn,Addr.add_lit,hst]
theorem r0c(t tx ty e:TypeId)(i:TypeInfo)(z:Value)(ik:IntKind)(ht:P.underlying t=qB (.slice e))(hi:P.info? e=qB i)(hz:i.zero=qB z)(hk:P.underlying tx=qB (.int ik))(hs0:0<i.size)(base:Option Addr)(sLen sCap:Nat)(olds:List Value)
    (hold:(Builtin.firstCells i.size sLen (.slice base sLen sCap)).run P w.drew= .ok olds.toArray w.drew) (kk:IntKind) (m:Nat) (news:List Value) (hn:(Builtin.zeroCells z.cells m).toList=news)
    (hw:IntKind.i64.wrap (m:Int)=m) (hby: ¬(281474976710656<(m:Int)*i.bytes))
    (hg:sCap<sLen+m) (h63:((sLen+m:Nat):Int)<=9223372036854775807) (hfit:Builtin.nextslicecap (sLen+m) sCap*i.bytes<=281474976710656):
    (Builtin.append_ #[t,tx] ty #[.slice base sLen sCap, .int kk m]).run P w=
      .ok (.slice (qB ⟨w.heap.size,0,none⟩) (sLen+m) (grownCap w (sLen+m) sCap e))
        (w.drew.alloc (.cells ((olds++news).toArray++Builtin.zeroCells z.cells (grownCap w (sLen+m) sCap e-(sLen+m))) e)):=by
  have hnr: ¬(sLen+m<=sCap):=by omega
  have h63': ¬(9223372036854775807<((sLen:Int)+(m:Int))):=by omega
  have h48': ¬(281474976710656<Builtin.nextslicecap (sLen+m) sCap*i.bytes):=by omega
  have hneg: ¬((m:Int)<0):=by omega
  by_cases hm:m=0;subst hm;have hn0:news=[]:=by rw[<-hn];apply av;simp[Builtin.zeroCells]
  subst hn0;have hw0:IntKind.i64.wrap 0=0:=by decide
  have hnr': ¬(sLen<=sCap):=hnr;have h63'': ¬(9223372036854775807<(sLen:Int)):=by omega
  simp[Builtin.append_,run_underlying ht,run_underlying hk,sizeOf,typeInfo,zeroValue,hi,hz,asInt,asIntOf,hw0,hnr',h63'',h48',Question.forced,hold,newRow,grownCap];intro hbad;exact absurd hbad h48'
  · have hmm: ¬(m*i.size=0):=by intro h0;rcases Nat.mul_eq_zero.1 h0 with h0|h0<;>omega
    have hm2: ¬(m=0\/i.size=0):=by omega
    simp[Builtin.append_,run_underlying ht,run_underlying hk,sizeOf,typeInfo,zeroValue,hi,hz,asInt,asIntOf,hw,hneg,hby,hnr,hmm,h63',h48',Question.forced,hold,newRow,grownCap];congr 2;apply yJ;simp[aO,hn]
theorem RoomE.le {e n:Nat} (h:RoomE P e n)(hm:m<=n):RoomE P e m:=by
  rcases h with h|⟨h1,h2⟩;exact .inl (by unfold B0Q at*;omega);exact .inr ⟨h1,cV⟩
structure G0I (P:Program) (w:World) (K:Nat->Nat) (D:DM) (t tx ty e:TypeId) (i:TypeInfo) (z:Value) (y:Value) (m:Nat) (news:List Value) (cs:List SV):Prop where
  newsLen:news.length=m*i.size
  cr:CR w K D news cs
  plain:a0Q cs=yB
  nil0:m=0-> ∀ad,(Builtin.append_ #[t,tx] ty #[.slice ad 0 0,y]).run P w= .ok (.slice ad 0 0) w
  room: ∀(g sLen sCap:Nat) (cur:Array Value) (e':TypeId),w.heap[g]?=qB (.cells cur e' (0,0))->sLen+m<=sCap->sLen*i.size+news.length<=cur.size->
    (Builtin.append_ #[t,tx] ty #[.slice (qB ⟨g,0,none⟩) sLen sCap,y]).run P w=
      .ok (.slice (qB ⟨g,0,none⟩) (sLen+m) sCap) (w.setRow g (cur.toList.take (sLen*i.size)++news++cur.toList.drop (sLen*i.size+news.length)).toArray)
  grow: ∀(base:Option Addr) (sLen sCap:Nat) (olds:List Value),(Builtin.firstCells i.size sLen (.slice base sLen sCap)).run P w.drew= .ok olds.toArray w.drew->sCap<sLen+m->
    ((sLen+m:Nat):Int)<=9223372036854775807->Builtin.nextslicecap (sLen+m) sCap*i.bytes<=281474976710656->
    (Builtin.append_ #[t,tx] ty #[.slice base sLen sCap,y]).run P w=
      .ok (.slice (qB ⟨w.heap.size,0,none⟩) (sLen+m) (grownCap w (sLen+m) sCap e))
        (w.drew.alloc (.cells ((olds++news).toArray++Builtin.zeroCells z.cells (grownCap w (sLen+m) sCap e-(sLen+m))) e))
theorem SrcAt.app {i:TypeInfo} {y:Value} {cs:List SV} (hs:SrcAt P w K D k tx y m news cs)(ht:P.underlying t=qB (.slice e))(hi:P.info? e=qB i)(hz:i.zero=qB z)(hk:i.size=k):
    G0I P w K D t tx ty e i z y m news cs:=by
  subst hk
  refine⟨hs.src.newsLen,hs.cr,hs.plain,λhm ad=> ?_,λg sLen sCap cur e' hg hr hf=>r0b t tx ty e i ht hi g sLen sCap cur e' hg y m news hs.src hr hf,
    λbase sLen sCap olds hold hg h63 hfit=>run_append_grow_src w t tx ty e i z ht hi hz base sLen sCap olds hold y m news hs.src hg h63 hfit⟩
  subst hm;have hn:news=[]:=av (by have:=hs.src.newsLen;simpa using this);subst hn;have hc':=hs.src.cells
  cases ad<;>rcases hs.src.kind with⟨e2,hk2⟩|hk2<;>
    simp[Builtin.append_,run_underlying ht,run_underlying hk2,sizeOf,typeInfo,hi,hs.src.len,hc',storeCells]
theorem F0a (h:m<=140737488400000):IntKind.i64.wrap (m:Int)=m:=by
  unfold oA;simp only[wH,jI,ck,cw,aF,if_false,decide_eq_true_eq]
  first|omega|(split<;>rename_i hc<;>simp at hc<;>omega)
theorem I0O {i:TypeInfo} {ik kk:IntKind} {zs:List SV} (ht:P.underlying t=qB (.slice e))(hi:P.info? e=qB i)(hz:i.zero=qB z)(hx:P.underlying tx=qB (.int ik))(hk0:0<i.size)(hzs:z.cells.size=i.size)
    (hs:r0P P e=qB zs) (hp:a0Q zs=yB) (hrm:RoomE P e m) (hby:i.bytes<=4096):
    G0I P w K D t tx ty e i z (.int kk m) m (Builtin.zeroCells z.cells m).toList (zD m zs).flatten:=by
  obtain⟨i',z',hi',hz',hl,hc,_,hcr⟩:=o0k hs;rw[hi]at hi';cases hi';rw[hz]at hz';cases hz'
  have hm63:m<=140737488400000:=by
    rcases hrm with hr|hr;unfold B0Q at hr;omega;exact hr.2
  have hmb: ¬(281474976710656<(m:Int)*i.bytes):=by
    rcases hrm with hr|⟨hr,hr2⟩;unfold B0Q at hr;have:m*i.bytes<=4294967296*4096:=Nat.mul_le_mul hr hby;rw[<-Int.natCast_mul];omega;unfold o0x at hr;rw[hi]at hr;have hr:=eq_of_beq hr;rw[hr];omega
  have hw:=F0a hm63;have hcrm:=u0S (hcr w K D) cV m;have hzz:z.cells.size=zs.length:=by omega
  have hnews:(Builtin.zeroCells z.cells m).toList=((wK (m*zs.length)).map (z.cells[· %z.cells.size]!)).toList:=by
    unfold Builtin.zeroCells;rw[hzz]
  rw[<-hnews]at hcrm
  refine⟨by rw[cg,size_zeroCells,hzs],hcrm,s0C hp m,λhm ad=> ?_,λg sLen sCap cur e' hg hr hf=>r0a t tx ty e i z ik ht hi hz hx hk0 g sLen sCap cur e' hg kk m _ rfl hcrm.one hw hmb hr hf,
    λbase sLen sCap olds hold hg h63 hfit=>r0c t tx ty e i z ik ht hi hz hx hk0 base sLen sCap olds hold kk m _ rfl hw hmb hg h63 hfit⟩
  subst hm;have hw0:IntKind.i64.wrap 0=0:=by decide
  cases ad<;>simp[Builtin.append_,run_underlying ht,run_underlying hx,sizeOf,typeInfo,hi,asInt,asIntOf,hw0,storeCells]
theorem C0u(h:HInv w K D H) {i:TypeInfo} {y:Value} {sy:SV} {cs:List SV} (ht:P.underlying t=qB (.slice e))(hi:P.info? e=qB i)(hz:i.zero=qB z)(hzs:z.cells.size=i.size)(hk:i.size=k)(hk0:0<k)(hby:i.bytes<=4096)
    (hr:Rep w K D y sy) (hs:A0J P e k tx sy H=qB (m,cs,rd)) (hp:K0v sy=yB) (hrm:RoomE P e m): ∃news,G0I P w K D t tx ty e i z y m news cs:=by
  unfold A0J at hs
  split at hs
  · rename_i kk l
    split at hs
    · rename_i ik zs hx hzz
      split at hs<;>cases hs
      rename_i hc;cases hr;have hl:(0:Int)<=l:=jF hp;have hl2:l=(l.toNat:Int):=by omega
      rw[show vJ kk l=vJ kk (l.toNat:Int) by rw[<-hl2]];exact⟨_,I0O ht hi hz hx cV hzs hzz hc.1 hrm hby⟩
    cases hs
  split at hs;rename_i hst;obtain⟨news,hsrc⟩:=w0z (P:=P) (tx:=tx) h hk0 hr hs hst;exact⟨news,hsrc.app ht hi hz hk⟩;cases hs
theorem p0O(h:HInv w K D H) {idx:Nat} (hidx:CanNew H idx)(x:Option Nat)(hx:x≠qB idx) {e sLen sCap:Nat} {base:Option Addr} {y:Value} {olds:List Value} {cs cs2:List SV} {i:TypeInfo}
    (ht:P.underlying t=qB (.slice e)) (hi:P.info? e=qB i) (hz:i.zero=qB z) (hzs:z.cells.size=i.size) (hk:i.size=k) (hk0:0<k) (hby:i.bytes<=4096)
    (hold:(Builtin.firstCells i.size sLen (.slice base sLen sCap)).run P w.drew= .ok olds.toArray w.drew) (hol:olds.length=sLen*k) (hco:CR w K D olds cs) (hpo:a0Q cs=yB)
    (hsrc:G0I P w K D t tx ty e i z y m news cs2) (hrm:RoomE P e (sLen+m)) (hlt:sCap<sLen+m):
    ∃v' w',(Builtin.append_ #[t,tx] ty #[.slice base sLen sCap,y]).run P w= .ok v' w'/\Good w K D H v' w' (.vc idx) (i0h (i0o H x) idx (.vec (sLen+m) k e (cs++cs2))):=by
  subst hk;have hnl:news.length=m*i.size:=hsrc.newsLen
  have hsz:sLen+m<=140737488400000:=by
    rcases hrm with hr|hr;unfold B0Q at hr;omega;exact hr.2
  have hb:((sLen+m)+(sLen+m)/4+192)*i.bytes<=281474976710656:=by
    rcases hrm with hr|⟨hr,hr2⟩;unfold B0Q at hr;exact aG (Nat.mul_le_mul (show(sLen+m)+(sLen+m)/4+192<=5368709312 by omega) hby) dC;unfold o0x at hr;rw[hi]at hr;have hr:=eq_of_beq hr;rw[hr];omega
  have hrun:=hsrc.grow base sLen sCap olds hold hlt cV (growslice_fits_wide cV hb);have hge:=grownCap_ge w (sLen+m) sCap e;have hcm:=grownCap_le_maxLen w (sLen+m) sCap e (by unfold maxLen;omega)
  have hzl:(Builtin.zeroCells z.cells (grownCap w (sLen+m) sCap e-(sLen+m))).toList.length=(grownCap w (sLen+m) sCap e-(sLen+m))*i.size:=by
    rw[cg,size_zeroCells,hzs]
  have hpl:a0Q (cs++cs2)=true:=by simp only[a0Q,bX,aa];exact⟨hpo,hsrc.plain⟩
  refine⟨_,_,hrun,y0K (L:=(olds++news).toArray++Builtin.zeroCells z.cells (grownCap w (sLen+m) sCap e-(sLen+m))) (vs:=olds++news) (rest:=(Builtin.zeroCells z.cells (grownCap w (sLen+m) sCap e-(sLen+m))).toList) h hidx x hx (hco.append hsrc.cr) hpl
    (yJ dB) rfl rfl rfl rfl hk0 (by rw[aA,hol,hnl,bV]) hge ?_ hcm⟩
  rw[aA,aA,hzl,hol,hnl,<-bV,<-bV];congr 1;omega
theorem E0K(h:HInv w K D H)(hs:Slots n w K D ρ a.tmps) (ho:o.op= .call c)(hcal:c.callee= .builtin .append)(hb: ∀x∈c.args,Operand.inB n x=yB) {idx:Nat} (hidx:CanNew H idx) {ef:Eff}
    (he:o0g P c ρ H idx=qB ef):q0T P w K D H o a ef.v (b0e H ef.wr):=by
  unfold o0g at he
  split at he
  · rename_i x y t tx hargs htys
    have ha:c.args= #[x,y]:=by rw[<-aZ];exact hargs
    have hty:c.argTypes= #[t,tx]:=by rw[<-aZ];exact htys
    have hxb:=hb x (by rw[ha];simp);have hyb:=hb y (by rw[ha];simp)
    have hrun: ∀r w',(Builtin.append_ #[t,tx] o.type #[a.eval x,a.eval y]).run P w= .ok r w'->(execOp a.eval o).run P w= .ok (.value r) w':=λr w' hr=>by
      unfold execOp;simp only[ho,resolve,hcal,ha,hty,invoke,builtin,yD,vE,jD,bU,al,aE,hr]
    split at he
    · rename_i e sy hu hxe hye
      split at he
      · rename_i m cs2 rd hsc
        split at he<;>cases he
        rename_i hc;obtain⟨hok,hst,hrm⟩:=hc;obtain⟨i,z,hi,hz,hzs,hk,hk0,hby⟩:=h0a hok;obtain⟨news,hsrc⟩:=C0u (P:=P) (ty:=o.type) h hu hi hz hzs hk hk0 hby (a0i hs hyb hye) hsc hst (RoomE.le hrm cV);have hrx:=a0i hs hxb hxe;generalize hvx:a.eval x=vx at hrx
        cases hrx with
        |nl ad=>
          simp only[b0e];by_cases hm:m=0;subst hm;have hn:news=[]:=av (by have:=hsrc.newsLen;simpa using this);subst hn;have hc2:cs2=[]:=av hsrc.cr.len;subst hc2;obtain⟨g,hiv⟩:=t0i h hidx none dB (P.cellsOf e) e;rw[h0h]at g hiv;refine⟨.slice ad 0 0,w, .inl (hrun _ _ ?_),⟨K,_,g,hiv, ?_⟩⟩;rw[hvx];exact hsrc.nil0 rfl ad;exact .vcn idx ad (by simp[g0L])
          have hold:(Builtin.firstCells i.size 0 (.slice ad 0 0)).run P w.drew= .ok ([]:List Value).toArray w.drew:=by
            cases ad with
            |none=>exact run_firstCells_none w.drew i.size 0 0 0
            |some b=>exact run_firstCells_some w.drew i.size 0 b 0 0 [] dB (λj u hu=>by simp at hu)
          obtain⟨v',w',h1,h2⟩:=p0O (P:=P) (ty:=o.type) h hidx none dB hu hi hz hzs hk hk0 hby hold dB CR.nil rfl hsrc (by rw[aY];exact hrm) cV;rw[aY,bk,h0h]at h2;exact⟨v',w', .inl (hrun _ _ (by rw[hvx];exact h1)),h2⟩
      cases he
    · rename_i e i0 sy hu hxe hye
      split at he
      · rename_i nn k e' cs hH
        split at he
        · rename_i m cs2 rd hsc
          split at he<;>cases he
          rename_i hc;obtain⟨rfl,hok,hst,hrm⟩:=hc;obtain⟨i,z,hi,hz,hzs,hk,hk0,hby⟩:=h0a hok;obtain⟨news,hsrc⟩:=C0u (P:=P) (ty:=o.type) h hu hi hz hzs hk hk0 hby (a0i hs hyb hye) hsc hst (RoomE.le hrm cV);have hrx:=a0i hs hxb hxe;generalize hvx:a.eval x=vx at hrx
          have hne:i0≠idx:=by
            rintro rfl;rcases hidx with hq|hq;rw[hq,ay (aj _)]at hH;cases hH;rw[hq]at hH;cases hH
          have hil:i0<H.length:=(ab.1 hH).1
          have hkill:b0e H [(i0,Ent.gone),(idx, .vec (nn+m) k e (cs++cs2))]=i0h (i0o H (qB i0)) idx (.vec (nn+m) k e (cs++cs2)):=by
            simp only[b0e,i0o];rw[show i0h H i0 .gone=H.set i0 .gone from by unfold i0h;rw[qC hil]]
          simp only[hkill];obtain⟨hpo,hent⟩:=h.ent i0 _ hH;rcases hent with⟨h1,h2,h3⟩|⟨b,cp,vs,rest,h1,h2,h3,h4,h5,h6,h7,h8,h9⟩;subst h2;subst h3
          cases hrx with
          |vc _ b c n hd=>rw[h1]at hd;cases hd
          |vcn _ ad hd=>
            by_cases hm:m=0;subst hm;have hn:news=[]:=av (by have:=hsrc.newsLen;simpa using this);subst hn;have hc2:cs2=[]:=av hsrc.cr.len;subst hc2;obtain⟨g,hiv⟩:=t0i h hidx (qB i0) (by simpa using hne) k e;refine⟨.slice ad 0 0,w, .inl (hrun _ _ ?_),⟨K,_,g,hiv, .vcn idx ad (by simp[g0L])⟩⟩;rw[hvx];exact hsrc.nil0 rfl ad
            have hold:(Builtin.firstCells i.size 0 (.slice ad 0 0)).run P w.drew= .ok ([]:List Value).toArray w.drew:=by
              cases ad with
              |none=>exact run_firstCells_none w.drew i.size 0 0 0
              |some b=>exact run_firstCells_some w.drew i.size 0 b 0 0 [] dB (λj u hu=>by simp at hu)
            obtain⟨v',w',g1,g2⟩:=p0O (P:=P) (ty:=o.type) h hidx (qB i0) (by simpa using hne) hu hi hz hzs hk hk0 hby hold dB CR.nil rfl hsrc hrm cV;exact⟨v',w', .inl (hrun _ _ (by rw[hvx];exact g1)),g2⟩
          cases hrx with
          |vcn _ ad hd=>rw[h1]at hd;cases hd
          |vc _ b' c' n' hd=>
            rw[h1]at hd;cases hd;have hrow:=g0G h6 h9;by_cases hroom:nn+m<=cp;subst hk;have hnl:news.length=m*i.size:=hsrc.newsLen;have hnm:(nn+m)*i.size<=cp*i.size:=aJ _ hroom;rw[bV]at hnm;have hrl:rest.length=cp*i.size-nn*i.size:=by rw[<-h8,aA,h7];omega
            have hfit:nn*i.size+news.length<=(vs++rest).toArray.size:=by rw[hnl];simp only[List.size_toArray,h8];omega
            have hrun1:=hsrc.room b nn cp (vs++rest).toArray e h6 hroom hfit;have hnew:=setRow_heap w b (vs++rest).toArray ((vs++rest).toArray.toList.take (nn*i.size)++news++(vs++rest).toArray.toList.drop (nn*i.size+news.length)).toArray e _ h6
            have hrw:((vs++rest).toArray.toList.take (nn*i.size)++news++(vs++rest).toArray.toList.drop (nn*i.size+news.length)).toArray=((vs++news)++rest.drop news.length).toArray:=by
              congr 1;simp only[];rw[<-h7,List.take_left,cO,bg cV,bk];congr 2;omega
            rw[hrw]at hrun1 hnew;generalize hw':w.setRow b ((vs++news)++rest.drop news.length).toArray=w' at hrun1 hnew;have hother: ∀c,c≠b->w'.heap[c]?=w.heap[c]?:=λc hcb=>by rw[<-hw'];exact setRow_other w b c _ hcb
            obtain⟨g,hiv⟩:=place (w':=w') (en:= .vec (nn+m) i.size e (cs++cs2)) (b:=b) (c:=cp) (m:=nn+m) h hidx (x:=qB i0) (by simpa using hne) (.inr ⟨i0,_,cp,nn,rfl,hH,rfl,h1⟩)
              (by rw[<-hw'];rfl) (by rw[<-hw'];rfl) (by rw[<-hw'];rfl) (by rw[<-hw'];simp) (λb' hb' _=>hother b' hb')
              (λhr=>⟨by simp only[a0Q,bX,aa];exact⟨hpo,hsrc.plain⟩, .inr ⟨b,cp,vs++news,rest.drop news.length,by simp[g0L],h2,hk0,hroom,h5,hnew,
                by rw[aA,h7,hnl,bV],by simp only[aA,aV,h7,hnl,hrl];omega,(h9.append hsrc.cr).mono hr⟩⟩)
            exact⟨_,w', .inl (hrun _ _ (by rw[hvx];exact hrun1)),⟨K,_,g,hiv, .vc idx b cp (nn+m) (by simp[g0L])⟩⟩
            obtain⟨v',w',g1,g2⟩:=p0O (P:=P) (ty:=o.type) h hidx (qB i0) (by simpa using hne) hu hi hz hzs hk hk0 hby
              (run_firstCells_some w.drew i.size nn ⟨b,0,none⟩ nn cp vs (by rw[hk];exact h7) (λj u hu=>by rw[add_lit];exact hrow.mem j u hu)) h7 h9 hpo hsrc hrm cV
            exact⟨v',w', .inl (hrun _ _ (by rw[hvx];exact g1)),g2⟩
        cases he
      cases he
    cases he
  cases he
end
end
section
variable [Inhabited GT]
def byteOf:SV->UInt8
  | .int _ n=>oI n.toNat
  |_=>0
def p0f:SV->Bool
  | .int .u8 _=>yB
  |_=>vB
def p0D:SV->Bool
  | .int .i32 _=>yB
  |_=>vB
def w0J:SV->List UInt8
  | .int _ n=>(yI n).data.toList
  |_=> []
def D0o(big:Bool)(k:IntKind)(acc:Int)(ρ:Env):List Operand->Option SV
  | []=>qB (.int k acc)
  |y::r=>match a0G ρ y with
    |some (.int k' b)=>if k=k' then D0o big k (if big then(if acc<b then b else acc)else(if b<acc then b else acc)) ρ r else none
    |_=>none
/-! Structs and arrays that are compared. -/
def L0o(P:Program)(f:TypeId->SV->SV->Option Bool)(xs ys:List SV):List Field->Option Bool
  | []=>qB yB
  | fd :: r => if fd.name ≠ "_" then (match b0w P fd.type (xs.drop fd.offset), b0w P fd.type (ys.drop fd.offset) with
      |some a,qB b=>match f fd.type a b,L0o P f xs ys r with
        |some p,qB q=>qB (p&&q)
        |_,_=>none
      |_,_=>none)else L0o P f xs ys r
def L0Z(P:Program)(f:SV->SV->Option Bool)(e k:Nat)(xs ys:List SV):Nat->Nat->Option Bool
  |0,_=>qB yB
  |m+1,i=>match b0w P e (xs.drop (i*k)),b0w P e (ys.drop (i*k))with
    |some a,qB b=>match f a b,L0Z P f e k xs ys m (i+1)with
      |some p,qB q=>qB (p&&q)
      |_,_=>none
    |_,_=>none
def eqS(P:Program):Nat->TypeId->SV->SV->Option Bool
  |0,_,_,_=>none
  |d+1,t,a,b=>match P.underlying t,a,b with
    |some .bool, .bool x, .bool y=>qB (x==y)
    |some (.int _), .int k x, .int k' y=>if k=k' then qB (wB (x=y))else none
    |some .string, .str x, .str y=>qB (x==y)
    |some (.struct fs), .agg xs, .agg ys=>if P.stoodInHeld t=vB then L0o P (eqS P d) xs ys fs.toList else none
    |some (.array len e), .agg xs, .agg ys=>if 0<P.cellsOf e then L0Z P (eqS P d e) e (P.cellsOf e) xs ys len 0 else none
    |_,_,_=>none
def x0V(P:Program):Nat->TypeId->SV->Bool
  |0,_,_=>vB
  |d+1,t,a=>match P.underlying t,a with
    | some (.struct fs), .agg cs => fs.toList.all λf => (f.name == "_") || (match b0w P f.type (cs.drop f.offset) with
      |some b=>x0V P d f.type b
      |none=>vB)
    |some (.array len e), .agg cs=>(wB (0<P.cellsOf e))&&(jH 0 len).all λi=>(match b0w P e (cs.drop (i*P.cellsOf e))with
      |some b=>x0V P d e b
      |none=>vB)
    |some (.int _), .int _ _=>yB
    |some .string, .str _=>yB
    |some .bool, .bool _=>yB
    |_,_=>vB
def m0O(P:Program)(kt:TypeId)(k:SV):List (SV×SV)->Option (Option SV)
  | []=>qB none
  |e::r=>match eqS P 9 kt k e.1 with
    |some yB=>qB (qB e.2)
    |some vB=>m0O P kt k r
    |none=>none
/-! Maps. -/
def k0U:SV->SV->Option Bool
  | .int k a, .int k' b=>if k=k' then qB (a==b)else none
  | .str a, .str b=>qB (a==b)
  | .bool a, .bool b=>qB (a==b)
  |_,_=>none
def g0Y:List (SV×SV)->SV->Option (Option SV)
  | [],_=>qB none
  |e::r,k=>match k0U k e.1 with
    |some yB=>qB (qB e.2)
    |some vB=>g0Y r k
    |none=>none
def F0g:List (SV×SV)->SV->SV->List (SV×SV)
  | [],_,_=> []
  |e::r,k,v=>match k0U k e.1 with
    |some yB=>(e.1,v)::r
    |_=>e::F0g r k v
def t0y(P:Program)(kt:TypeId)(s:SV):Bool:=
  match P.underlying kt,s with
  |some (.int k), .int k' _=>wB (k=k')
  |some .string, .str _=>yB
  |some .bool, .bool _=>yB
  |_,_=>vB
def H0g(P:Program)(t:TypeId):Bool:=match P.underlying t with
  |some (.struct _)=>yB
  |some (.array _ _)=>yB
  |_=>vB
def t0z(P:Program)(kt:TypeId)(s:SV):Bool:=match s with
  | .agg cs=>H0g P kt&&x0V P 9 kt (.agg cs)
  |s=>t0y P kt s
def p0E(P:Program)(kt:TypeId)(es:List (SV×SV))(k:SV):Option (Option SV):=match k with
  | .agg cs=>m0O P kt (.agg cs) es
  |k=>g0Y es k
def A0A(P:Program)(t:TypeId):Option SV:=
  match P.info? t with
  |some i=>match i.zero with
    |some z=>qB (match p0K z with
      |some s=>s
      |none=>match z,o0w z with
        | .agg _,qB cs=> .agg cs
        |_,_=> .undef)
    |none=>none
  |none=>none
def m0v(ok:Bool)(v:SV)(b:Bool):SV:=if ok then .tup [v, .bool b]else v
def m0e(P:Program)(t:TypeId)(sm sk sv:Option SV)(H:a0e):Option Eff:=
  match P.underlying t,sm,sk,sv with
  |some (.map kt _),qB (.mp i),qB k,qB v=>match H[i]? with
    |some (.map es)=>if t0z P kt k=yB then(match p0E P kt es k with
      |some none=>qB ⟨.undef,[i],[(i, .map (es++ [(k,v)]))]⟩
      |some (qB _)=>(match k with
        | .int _ _=>qB ⟨.undef,[i],[(i, .map (F0g es k v))]⟩
        |_=>none)
      |none=>none)else none
    |_=>none
  |_,_,_,_=>none
def k0Y(P:Program)(t:TypeId)(sm sk:Option SV)(ok:Bool)(H:a0e):Option Eff:=
  match P.underlying t,sm,sk with
  |some (.map kt et),qB (.mp i),qB k=>match H[i]? with
    |some (.map es)=>if t0z P kt k=yB then(match p0E P kt es k,A0A P et with
      |some (qB v),_=>qB ⟨m0v ok v yB,[i],[]⟩
      |some none,qB z=>qB ⟨m0v ok z vB,[i],[]⟩
      |_,_=>none)else none
    |_=>none
  |_,_,_=>none
def eqE(P:Program)(op:BinOp)(t:TypeId)(sa sb:Option SV):Option Eff:=
  match op,sa,sb with
  | .eql,qB (.agg xs),qB (.agg ys)=>if P.eqGuardType P.depth t=vB then(eqS P 9 t (.agg xs) (.agg ys)).map λb=>⟨.bool b,[],[]⟩else none
  | .neq,qB (.agg xs),qB (.agg ys)=>if P.eqGuardType P.depth t=vB then(eqS P 9 t (.agg xs) (.agg ys)).map λb=>⟨.bool (!b),[],[]⟩else none
  |_,_,_=>none
def I0P:Value->Int
  | .int _ n=>n
  |_=>0
def g0A(s:List UInt8):List Int:=(wF ⟨s.toArray⟩ s.length 0 #[]).toList.map I0P
def w0I(n:Int):SV:= .int .i32 n
def a0q(P:Program)(o:Oper)(ρ:Env)(H:a0e)(idx:Nat):Option Eff:=
  match o.op with
  | .box _ x=>match(a0G ρ x).bind SV.cells? with
    |some cs=>qB ⟨.ptr idx 0,[],[(idx, .box cs)]⟩
    |none=>none
  | .alloc t=>match r0P P t with
    |some cs=>qB ⟨.ptr idx 0,[],[(idx, .box cs)]⟩
    |none=>none
  | .load t x=>match a0G ρ x with
    |some (.ptr i off)=>match(H[i]?).bind b0S with
      |some cs=>(b0w P t (cs.drop off)).map λv=>⟨v,[i],[]⟩
      |none=>none
    |_=>none
  | .store t x y=>match a0G ρ x,(a0G ρ y).bind SV.cells? with
    |some (.ptr i off),qB ps=>match H[i]? with
      |some en=>match b0S en with
        |some cs=>if ps.length=P.cellsOf t/\0<ps.length/\off+ps.length<=cs.length/\(I0K en=yB->a0Q ps=yB)then qB ⟨.undef,[i],[(i,x0N en (splice cs off ps))]⟩else none
        |none=>none
      |none=>none
    |_,_=>none
  | .indexAddr t x y=>match P.underlying t,a0G ρ x,a0G ρ y with
    |some (.slice e),qB (.vc i),qB (.int _ j)=>match H[i]? with
      |some (.vec n k _ _)=>if k=P.cellsOf e/\0<k/\0<=j/\j<n then qB ⟨.ptr i (j.toNat*k),[i],[]⟩else none
      |_=>none
    |_,_,_=>none
  | .slice t x lo hi mx=>match P.underlying t,a0G ρ x,lo,mx with
    |some (.array len e),qB (.ptr i off),none,none=>match i0Z ρ hi (len:Int)with
      |some h=>if 0<=h/\h<=len/\0<P.cellsOf e then qB ⟨.sl i off h.toNat (P.cellsOf e),[],[]⟩else none
      |none=>none
    |_,_,_,_=>none
  | .buildSlice t len parts=>match P.underlying t with
    |some (.slice e)=>match r0P P e with
      |some zs=>if i0U P e (P.cellsOf e)=yB/\len*P.cellsOf e<=16777216 then
          match q0G ρ (λi=>qB (i*P.cellsOf e,P.cellsOf e)) (zD len zs).flatten parts.toList with
          |some cs=>if len=0 then qB ⟨.nl,[],[]⟩else if a0Q cs=yB then qB ⟨.vc idx,[],[(idx, .vec len (P.cellsOf e) e cs)]⟩else none
          |none=>none
        else none
      |none=>none
    |_=>none
  | .binOp op t x y _=>eqE P op t (a0G ρ x) (a0G ρ y)
  | .makeMap t none=>match P.underlying t with
    |some (.map _ _)=>qB ⟨.mp idx,[],[(idx, .map [])]⟩
    |_=>none
  | .insert t m k v=>m0e P t (a0G ρ m) (a0G ρ k) (a0G ρ v) H
  | .mapUpdate t m k v=>m0e P t (a0G ρ m) (a0G ρ k) (a0G ρ v) H
  | .lookup t m k ok=>k0Y P t (a0G ρ m) (a0G ρ k) ok H
  | .makeSlice t x y=>match P.underlying t,a0G ρ x,a0G ρ y with
    |some (.slice e),qB (.int _ l),qB (.int _ c)=>match r0P P e with
      |some zs=>if i0U P e (P.cellsOf e)=yB/\0<=l/\l<=c/\c<=4294967296/\a0Q zs=yB then qB ⟨.vc idx,[],[(idx, .vec l.toNat (P.cellsOf e) e (zD l.toNat zs).flatten)]⟩else none
      |none=>none
    |_,_,_=>none
  | .convert src dst x=>match P.underlying src,P.underlying dst,a0G ρ x with
    |some .string,qB (.slice e),qB (.str s)=>match P.underlying e with
      |some (.int .u8)=>qB ⟨.lst s.length 1 (s.map l0C),[],[]⟩
      |some (.int .i32)=>qB ⟨.lst (g0A s).length 1 ((g0A s).map w0I),[],[]⟩
      |_=>none
    |some .string,qB .string,qB (.str s)=>qB ⟨.str s,[],[]⟩
    |some (.slice e),qB (.slice _),qB (.vc i)=>match P.underlying e,H[i]? with
      |some (.int .u8),qB (.vec n k _ cs)=>if src=dst/\0<n then qB ⟨.lst n k cs,[i],[(i, .gone)]⟩else none
      |_,_=>none
    |some (.slice e),qB .string,qB s=>match P.underlying e,w0l 1 s H with
      |some (.int .u8),qB (_,cs,rd)=>if j0s P src s=yB/\cs.all p0f=yB then qB ⟨.str (cs.map byteOf),rd,[]⟩else none
      |some (.int .i32),qB (_,cs,rd)=>if j0s P src s=yB/\cs.all p0D=yB then qB ⟨.str (cs.flatMap w0J),rd,[]⟩else none
      |_,_=>none
    |_,_,_=>none
  | .call c=>match c.callee with
    | .builtin .append=>o0g P c ρ H idx
    | .builtin .copy=>E0u P c ρ H
    | .builtin .len=>match c.args.toList,c.argTypes.toList with
      | [x],[t]=>match P.underlying t,a0G ρ x with
        |some (.slice _),qB (.vc i)=>match H[i]? with
          |some (.vec n _ _ _)=>qB ⟨.int .i64 n,[i],[]⟩
          |_=>none
        |_,_=>none
      |_,_=>none
    | .builtin .min=>match c.args.toList with
      |x::r=>match a0G ρ x with
        |some (.int k a)=>(D0o vB k a ρ r).map λv=>⟨v,[],[]⟩
        |_=>none
      |_=>none
    | .builtin .max=>match c.args.toList with
      |x::r=>match a0G ρ x with
        |some (.int k a)=>(D0o yB k a ρ r).map λv=>⟨v,[],[]⟩
        |_=>none
      |_=>none
    |_=>none
  |_=>none
def a0H(P:Program)(o:Oper)(ρ:Env)(H:a0e)(idx:Nat):Option Eff:=
  match a0k P o ρ with
  |some v=>qB ⟨v,[],[]⟩
  |none=>a0q P o ρ H idx
section
variable {P : Program} {n : Nat} {w : World} {K : Nat -> Nat} {D : DM} {H : a0e} {ρ : Env} {a : Act} {o : Oper} {idx : Nat}
theorem g0s(h:HInv w K D H) {s:SV} (hr:(execOp a.eval o).run P w= .ok (.value v) w)(h1:Rep w K D v s):q0T P w K D H o a s H:=
  ⟨v,w, .inl hr,Good.here h h1⟩
theorem L0y(h:HInv w K D H)(hs:Slots n w K D ρ a.tmps) (ho:o.op= .box e x)(hx:Operand.inB n x=yB)(hidx:CanNew H idx) {cs:List SV} (hc:(a0G ρ x).bind SV.cells?=qB cs):
    q0T P w K D H o a (.ptr idx 0) (i0h H idx (.box cs)):=by
  cases hxe:a0G ρ x with
  |none=>rw[hxe]at hc;cases hc
  |some sx=>
    rw[hxe]at hc;have hcr:=w0a (a0i hs hx hxe) hc;refine⟨_,_, .inl ?_,D0l h hidx hcr e⟩;unfold execOp;rw[ho];simp[Instr.box,newVar,newRow]
theorem G0E(h:HInv w K D H) (ho:o.op= .alloc t)(hidx:CanNew H idx) {cs:List SV} (hz:r0P P t=qB cs):
    q0T P w K D H o a (.ptr idx 0) (i0h H idx (.box cs)):=by
  obtain⟨i,z,hi,hz,hl,hc,_,hcr⟩:=o0k hz;refine⟨_,_, .inl ?_,D0l h hidx (hcr w K D) t⟩;unfold execOp;rw[ho];simp[Instr.alloc,zeroValue,typeInfo,hi,hz,newVar,newRow]
theorem G0a(h:HInv w K D H)(hs:Slots n w K D ρ a.tmps) (ho:o.op= .load t x)(hx:Operand.inB n x=yB) (hxe:a0G ρ x=qB (.ptr i off)) {cs:List SV}
    (hc:(H[i]?).bind b0S=qB cs) {v:SV} (hv:b0w P t (cs.drop off)=qB v):q0T P w K D H o a v H:=by
  have he:execOp a.eval o=(do pure (Next.value (<-Instr.loadAt t (a.eval x)))):=by unfold execOp;rw[ho]
  obtain⟨b,c,m,hvx,hd⟩:=r0f (a0i hs hx hxe)
  cases hH:H[i]? with
  |none=>rw[hH]at hc;cases hc
  |some en=>
    rw[hH]at hc;obtain⟨vs,rest,e,hheap,hcr,_,_⟩:=v0P h hH hd hc;have hrow:=(g0G hheap hcr).drop off;rw[aY]at hrow;obtain⟨r,hr,hrep⟩:=m0q (P:=P) hrow hv;exact g0s h (by rw[he];exact b0q (by rw[hvx];simp[Instr.loadAt,yH,hr])) hrep
theorem C0s(h:HInv w K D H)(hs:Slots n w K D ρ a.tmps) (ho:o.op= .store t x y)(hx:Operand.inB n x=yB)(hy:Operand.inB n y=yB) (hxe:a0G ρ x=qB (.ptr i off))
    {ps cs:List SV} (hye:(a0G ρ y).bind SV.cells?=qB ps) {en:Ent} (hH:H[i]?=qB en) (hc:b0S en=qB cs)
    (hl:ps.length=P.cellsOf t) (h0:0<ps.length) (hle:off+ps.length<=cs.length) (hpl:I0K en=yB->a0Q ps=yB):q0T P w K D H o a .undef (H.set i (x0N en (splice cs off ps))):=by
  cases hyv:a0G ρ y with
  |none=>rw[hyv]at hye;cases hye
  |some sy=>
    rw[hyv]at hye;have hcx:=w0a (a0i hs hy hyv) hye;obtain⟨b,c,m,hvx,hd⟩:=r0f (a0i hs hx hxe);obtain⟨w',hst,hg,hiv⟩:=l0I (P:=P) h hH hd hc hle hcx hpl;obtain⟨it,hit,hsz⟩:=r0M (P:=P) (t:=t) cV
    have hsv:(Instr.storeAt t (.pointer (qB ⟨b,off,none⟩)) (a.eval y)).run P w= .ok () w':=by
      have hce:(a.eval y).cells.size=it.size:=by have:=hcx.len;simp at this;omega
      simp[Instr.storeAt,yH,storeVar,sizeOf,typeInfo,hit,hce,hst]
    refine⟨undef,w', .inr ⟨?_,rfl⟩,⟨K,D,hg,hiv, .undef _⟩⟩;unfold execOp;rw[ho];show Sem.run P (do Instr.storeAt t (a.eval x) (a.eval y);pure Next.skip) w=_;rw[hvx];simp[hsv]
theorem s0E(h:HInv w K D H) {cs:List SV} (hr:Rep w K D v (.vc i))(hH:H[i]?=qB (.vec nn k e cs)):
    a0Q cs=yB/\((nn=0/\cs=[]/\ ∃ad,v= .slice ad 0 0)\/ ∃b c vs rest,v= .slice (qB ⟨b,0,none⟩) nn c/\D i=qB (.at b c nn)/\0<k/\nn<=c/\vs.length=nn*k/\CR w K D vs cs/\
      w.heap[b]?=qB (.cells (vs++rest).toArray e (0,0))):=by
  obtain⟨hp,hent⟩:=h.ent i _ hH;refine⟨hp, ?_⟩;rcases hent with⟨h1,h2,h3⟩|⟨b,c,vs,rest,h1,h2,h3,h4,h5,h6,h7,h8,h9⟩
  cases hr with
  |vcn _ ad hd=>exact .inl ⟨h2,h3,ad,rfl⟩
  |vc _ b c n hd=>rw[h1]at hd;cases hd
  cases hr with
  |vcn _ ad hd=>rw[h1]at hd;cases hd
  |vc _ b' c' n' hd=>rw[h1]at hd;cases hd;exact .inr ⟨b,c,vs,rest,rfl,h1,h3,h4,h7,h9,h6⟩
theorem y0R(h:HInv w K D H)(hs:Slots n w K D ρ a.tmps) (ho:o.op= .indexAddr t x y)(hx:Operand.inB n x=yB)(hy:Operand.inB n y=yB)(hu:P.underlying t=qB (.slice e))
 {cs:List SV} {kk:IntKind} {j:Int} (hxe:a0G ρ x=qB (.vc i)) (hye:a0G ρ y=qB (.int kk j)) (hH:H[i]?=qB (.vec nn k e' cs)) (hk:k=P.cellsOf e) (hk0:0<k) (h0:0<=j) (hj:j<nn):
    q0T P w K D H o a (.ptr i (j.toNat*k)) H:=by
  have he:execOp a.eval o=(do pure (Next.value (<-zJ t (a.eval x) (a.eval y)))):=by unfold execOp;rw[ho]
  have hrx:=a0i hs hx hxe;have hry:=a0i hs hy hye;generalize hvy:a.eval y=vy at hry;cases hry;rcases(s0E h hrx hH).2 with⟨hn0,_⟩|⟨b,c,vs,rest,hv,hd,_⟩;omega;subst hk;refine g0s h (v:= .pointer (qB ⟨b,j.toNat*P.cellsOf e,none⟩)) ?_ (.ptr _ _ _ _ _ hd);rw[he];refine b0q ?_;rw[hv,hvy];simp[zJ,asIntOf,run_underlying hu,b0Y hk0,h0,hj,add_lit]
theorem y0o(h:HInv w K D H)(hs:Slots n w K D ρ a.tmps) {hi:Option Operand} (ho:o.op= .slice t x none hi none)(hx:Operand.inB n x=yB)(hhi: ∀x,hi=qB x->Operand.inB n x=yB)
    (hu:P.underlying t=qB (.array len e)) (hxe:a0G ρ x=qB (.ptr i off)) {hh:Int} (hb:i0Z ρ hi (len:Int)=qB hh) (h0:0<=hh) (h1:hh<=len) (hk0:0<P.cellsOf e):
    q0T P w K D H o a (.sl i off hh.toNat (P.cellsOf e)) H:=by
  have he:execOp a.eval o=(do pure (Next.value (<-vG t (a.eval x) none (hi.map a.eval) none))):=by unfold execOp;rw[ho];rfl
  obtain⟨b,c,m,hvx,hd⟩:=r0f (a0i hs hx hxe)
  have hbd:(wE vB len len none (hi.map a.eval) none).run P w= .ok (0,hh.toNat,len) w:=by
    rcases q0L (P:=P) (w:=w) (code:= .sliceAlen) (y:=len) hs hhi hb h0 h1 with⟨rfl,e1⟩|⟨y1,rfl,e1⟩;subst e1;simp[wE];simp[wE,e1]
  refine g0s h (v:= .slice (qB ⟨b,off,none⟩) hh.toNat len) ?_ (.sl i off hh.toNat (P.cellsOf e) b c m len hd cV);rw[he];refine b0q ?_;rw[hvx];simp[vG,yH,run_underlying hu,hbd,b0Y hk0,Addr.add]
theorem D0F(h:HInv w K D H)(hs:Slots n w K D ρ a.tmps) (ho:o.op= .call c)(hcal:c.callee= .builtin .len) (ha:c.args.toList=[x])(ht:c.argTypes.toList=[t])(hx:Operand.inB n x=yB)
    (hu:P.underlying t=qB (.slice e)) {cs:List SV} (hxe:a0G ρ x=qB (.vc i)) (hH:H[i]?=qB (.vec nn k e' cs)):q0T P w K D H o a (.int .i64 nn) H:=by
  have ha':c.args= #[x]:=by rw[<-aZ];exact ha
  have ht':c.argTypes= #[t]:=by rw[<-aZ];exact ht
  have hv: ∃ad cap,a.eval x= .slice ad nn cap:=by
    rcases(s0E h (a0i hs hx hxe) hH).2 with⟨hn0,_,ad,hv⟩|⟨b,c,vs,rest,hv,_⟩;exact⟨_,_,by rw[hv,hn0]⟩;exact⟨_,_,hv⟩
  obtain⟨ad,cap,hv⟩:=hv;refine g0s h (v:= .int .i64 nn) ?_ (.int _ _);unfold execOp;simp only[ho,resolve,hcal,ha',ht',invoke,builtin,yD,vE,jD,bU,al,aE];rw[hv];simp[Builtin.len_,run_underlying hu,goInt]
theorem x0I {place:Nat->Option (Nat×Nat)} : ∀(ps:List (Nat×Operand)) (c0 c1:List SV),q0G ρ place c0 ps=qB c1->c1.length=c0.length:=by
  intro ps
  induction ps with
  |nil=>intro c0 c1 hh;cases hh;rfl
  |cons p ps ih=>
    intro c0 c1 hh;simp only[q0G]at hh;split at hh;rename_i off size qs hp hq;split at hh;rename_i hcc;rw[ih _ _ hh];simp[Sy.splice];omega;cases hh;cases hh
theorem w0c(h:HInv w K D H)(hs:Slots n w K D ρ a.tmps) {t e:Nat} {parts:Array (Nat×Operand)} (ho:o.op= .buildSlice t len parts)(hb: ∀p∈parts.toList,Operand.inB n p.2=yB)(hu:P.underlying t=qB (.slice e)) {zs cs:List SV}
    (hz:r0P P e=qB zs) (hok:i0U P e (P.cellsOf e)=yB) (hmax:len*P.cellsOf e<=16777216) (hf:q0G ρ (λi=>qB (i*P.cellsOf e,P.cellsOf e)) (zD len zs).flatten parts.toList=qB cs):
    ∃cells',(execOp a.eval o).run P w= .ok (.value (.slice (qB ⟨w.heap.size,0,none⟩) len len)) (w.alloc (.cells cells' e))/\CR w K D cells'.toList cs/\cells'.size=len*P.cellsOf e:=by
  obtain⟨i,z,hi,hzz,hl,hc,_,hcr⟩:=o0k hz;obtain⟨i',z',hi',hz',hzs,hk,hk0,hby⟩:=h0a hok;rw[hi]at hi';cases hi';rw[hzz]at hz';cases hz';rw[hc]at hk hk0 hmax hf hok⊢;have hzl:zs.length=z.cells.size:=by rw[hl,hzs]
  obtain⟨cells',h1,h2⟩:=z0b hs parts.toList _ _ cs hb (u0S (hcr w K D) cV len) hf
  have hcl:cells'.size=len*i.size:=by
    have e1:cs.length=cells'.size:=by simpa using h2.len
    rw[<-e1,x0I _ _ _ hf,y0Y,hl]
  refine⟨cells', ?_,h2,hcl⟩
  have hrun:(Instr.buildSlice t len (parts.map λp=>(p.1,a.eval p.2))).run P w= .ok (.slice (qB ⟨w.heap.size,0,none⟩) len len) (w.alloc (.cells cells' e)):=by
    have hzi:zs.length=i.size:=hl;rw[hzi]at h1;by_cases h0:len*i.size=0
    have hz0:len=0:=by
      rcases br len with h|h;exact h;have:=Nat.mul_pos h hk0;omega
    subst hz0;have hr0: ∀f:Nat->Value,(wK 0).map f= #[]:=λf=>by apply yJ;simp
    simp only[Nat.zero_mul,hr0]at h1;simp[Instr.buildSlice,run_underlying hu,sizeOf,typeInfo,hi,hr0,h1,newRow];simp[Instr.buildSlice,run_underlying hu,sizeOf,typeInfo,zeroValue,hi,hzz,h0,h1,newRow,Nat.not_lt.2 hmax]
  unfold execOp;rw[ho];exact b0q hrun
theorem HInv.push(h:HInv w K D H) {ob:Obj} (hh:w'.heap=w.heap.push ob)(h1:w'.os=w.os)(h2:w'.tape=w.tape)(h3:w'.output=w.output) (hK: ∀b,b≠w.heap.size->K' b=K b):
    Grow w K D H w' K' D H/\HInv w' K' D H:=by
  have hold: ∀b,b<w.heap.size->w'.heap[b]?=w.heap[b]?:=λb hb=>by rw[hh,bI,wC cV]
  have hK0:K w.heap.size=0:=by
    rcases br (K w.heap.size)with h0|h0;exact h0;have:=h.kw w.heap.size cV;omega
  have hcells: ∀b j,j<K b->w'.cell? ⟨b,j,none⟩=w.cell? ⟨b,j,none⟩:=λb j hj=>World.cell?_of_block (w:=w) (a:=⟨b,j,none⟩) (hold b (h.kw b cV))
  have hle: ∀b,K b<=K' b:=λb=>by
    by_cases hb:b=w.heap.size;subst hb;omega;rw[hK b hb];exact aj _
  have hrep: ∀v s,Rep w K D v s->Rep w' K' D v s:=λv s hr=>hr.mono hcells hle (λ_ _ e=>e)
  refine⟨⟨h1,h2,h3,by rw[hh];simp,λb hb _=>hold b hb,hcells,hle,λb hb _=>hK b cV,λ_ _ e=>e,λb hm=> .inl hm⟩,
    ⟨h.dom,λi en hi=>(h.ent i en hi).keep hrep rfl (λb c m hl hd=> ?_),h.inj,λb hb=> ?_⟩⟩
  have hlt:=(k0I h ⟨i,en,c,m,hi,hl,hd⟩).1;exact⟨hold b hlt,hK b cV⟩;rw[hh];simp only[Array.size_push];by_cases hbs:b=w.heap.size;omega;rw[hK b hbs]at hb;have:=h.kw b hb;omega
theorem x0p(h:HInv w K D H)(hs:Slots n w K D ρ a.tmps) {t e:Nat} (ho:o.op= .makeSlice t x y)(hx:Operand.inB n x=yB)(hy:Operand.inB n y=yB)(hu:P.underlying t=qB (.slice e)) {zs:List SV} {kl kc:IntKind} {l c:Int}
    (hidx:CanNew H idx) (hxe:a0G ρ x=qB (.int kl l)) (hye:a0G ρ y=qB (.int kc c))
    (hz:r0P P e=qB zs) (hok:i0U P e (P.cellsOf e)=yB) (h0:0<=l) (hlc:l<=c) (hcm:c<=4294967296) (hpz:a0Q zs=yB):
    q0T P w K D H o a (.vc idx) (i0h H idx (.vec l.toNat (P.cellsOf e) e (zD l.toNat zs).flatten)):=by
  obtain⟨i,z,hi,hzz,hl,hc,_,hcr⟩:=o0k hz;obtain⟨i',z',hi',hz',hzs,hk,hk0,hby⟩:=h0a hok;rw[hi]at hi';cases hi';rw[hzz]at hz';cases hz';rw[hc]at hk hk0 hok⊢;have hrx:=a0i hs hx hxe;have hry:=a0i hs hy hye;generalize hvx:a.eval x=vx at hrx;generalize hvy:a.eval y=vy at hry;cases hrx;cases hry
  have hbytes:(i.bytes:Int)*c<=281474976710656:=by
    have h1:(i.bytes:Int)*c<=4096*c:=Int.mul_le_mul_of_nonneg_right cV cV;omega
  have hrun:=run_make (P:=P) w t e i z hu hi hzz kl kc l c h0 hlc hbytes cV;have hzl:=u0S (hcr w K D) cV l.toNat;have hsz:z.cells.size=zs.length:=by rw[hl,hzs]
  have hvl:((wK (l.toNat*zs.length)).map (z.cells[· %z.cells.size]!)).toList.length=l.toNat*i.size:=by simp[hl]
  have hle:l.toNat*i.size<=c.toNat*i.size:=aJ _ cV
  have hLt:(madeCells z.cells (c.toNat*i.size)).toList.take (l.toNat*i.size)=((wK (l.toNat*zs.length)).map (z.cells[· %z.cells.size]!)).toList:=by
    apply bv;intro j;rw[aP];by_cases hj:j<l.toNat*i.size;rw[qC hj];simp[madeCells,hl,hj,ba hj hle];rw[wC hj,ay (by rw[hvl];omega)]
  have hg:=y0K (w':=w.alloc (.cells (madeCells z.cells (c.toNat*i.size)) e)) (L:=madeCells z.cells (c.toNat*i.size)) (vs:=((wK (l.toNat*zs.length)).map (z.cells[· %z.cells.size]!)).toList)
    (rest:=(madeCells z.cells (c.toNat*i.size)).toList.drop (l.toNat*i.size)) (cap:=c.toNat) (len:=l.toNat) (k:=i.size) (e:=e) h hidx none dB hzl (s0C hpz _) (by
      rw[<-hLt];apply yJ;simp) rfl rfl rfl rfl hk0 hvl cV (by
      rw[aA,hvl,aV,cg,size_madeCells];omega) (by unfold maxLen;omega)
  rw[h0h]at hg;refine⟨_,_, .inl ?_,hg⟩;unfold execOp;rw[ho];show Sem.run P (do pure (Next.value (<-Instr.makeSlice t (a.eval x) (a.eval y)))) w=_;rw[hvx,hvy];exact b0q hrun
end
end
section
variable [Inhabited GT]
section
variable {P : Program} {n : Nat} {w : World} {K : Nat -> Nat} {D : DM} {H : a0e} {ρ : Env} {a : Act} {o : Oper} {idx : Nat}
theorem x0y {x:Value} {cs:List SV} (h:SrcAt P w K D k tx x m news cs):(Builtin.lenOf x).run P w= .ok m w:=h.src.len w
theorem v0W {t tx e ty:Nat} {y:Value} {cs2:List SV} (hu:P.underlying t=qB (.slice e))(hk:k=P.cellsOf e)(hk0:0<k)(hsrc:SrcAt P w K D k tx y m news cs2)
    (hus:us=news.take (min m nn*k)) (hst:(storeCells ⟨b,off,none⟩ us).run P w= .ok () w'):
    (Builtin.copy_ #[t,tx] ty #[.slice (qB ⟨b,off,none⟩) nn cap,y]).run P w= .ok (.int .i64 ((min m nn:Nat):Int)) w':=by
  have hf:=hsrc.first (min m nn) (Nat.min_le_left _ _);have hsz:(sizeOf e).run P w= .ok k w:=by rw[hk];exact b0Y (by rw[<-hk];exact hk0)
  rw[<-hus]at hf;simp[Builtin.copy_,run_underlying hu,x0y hsrc,hsz,hf,hst,goInt]
theorem J0x(h:HInv w K D H)(hs:Slots n w K D ρ a.tmps) (ho:o.op= .call c)(hcal:c.callee= .builtin .copy)(hb: ∀x∈c.args,Operand.inB n x=yB) {ef:Eff}
    (he:E0u P c ρ H=qB ef):q0T P w K D H o a ef.v (b0e H ef.wr):=by
  unfold E0u at he
  split at he
  · rename_i x y t tx hargs htys
    have ha:c.args= #[x,y]:=by rw[<-aZ];exact hargs
    have hty:c.argTypes= #[t,tx]:=by rw[<-aZ];exact htys
    have hxb:=hb x (by rw[ha];simp);have hyb:=hb y (by rw[ha];simp)
    have hrun: ∀r w',(Builtin.copy_ #[t,tx] o.type #[a.eval x,a.eval y]).run P w= .ok r w'->(execOp a.eval o).run P w= .ok (.value r) w':=λr w' hr=>by
      unfold execOp;simp only[ho,resolve,hcal,ha,hty,invoke,builtin,yD,vE,jD,bU,al,aE,hr]
    split at he
    · rename_i e i0 sy hu hxe hye
      split at he
      · rename_i nn k e' cs hH
        split at he
        · rename_i m cs2 rd hsc
          split at he<;>cases he
          rename_i hc;obtain⟨hk,hok,hst⟩:=hc;obtain⟨i,z,hi,hz,hzs,hki,hk0,hby⟩:=h0a hok;obtain⟨news,hsrc⟩:=w0z (P:=P) (tx:=tx) h hk0 (a0i hs hyb hye) hsc hst;have hil:i0<H.length:=(ab.1 hH).1;have hset: ∀en,i0h H i0 en=H.set i0 en:=λen=>by unfold i0h;rw[qC hil]
          simp only[b0e,hset]
          rcases(s0E h (a0i hs hxb hxe) hH).2 with⟨h1,h2,ad,hv⟩|⟨b,cp,vs,rest,hv,hd,_,hcap,hvl,hcr,hheap⟩
          · subst h1;subst h2
            have hf:=hsrc.first 0 (bf _);have hsz:(sizeOf e).run P w= .ok k w:=by rw[hk];exact b0Y (by rw[<-hk];exact hk0)
            have hsame:H.set i0 (.vec 0 k e' (splice [] 0 (cs2.take (min m 0*k))))=H:=by
              have:splice [] 0 (cs2.take (min m 0*k))=[]:=by simp[Sy.splice]
              rw[this];apply bv;intro j;rw[aN];by_cases hj:i0=j;subst hj;rw[qC rfl,qC hil,hH];rw[wC hj]
            rw[hsame];refine g0s h (v:= .int .i64 ((min m 0:Nat):Int)) (hrun _ _ ?_) (.int _ _);rw[hv];cases ad<;>simp[Builtin.copy_,run_underlying hu,x0y hsrc,hsz,hf,goInt,storeCells,<-hk]
          have hcx:CR w K D (news.take (min m nn*k)) (cs2.take (min m nn*k)):=hsrc.cr.take _;have hnl:cs2.length=m*k:=by rw[hsrc.cr.len,hsrc.src.newsLen]
          have hmk:min m nn*k<=m*k:=aJ _ (Nat.min_le_left _ _);have hmk2:min m nn*k<=nn*k:=aJ _ (Nat.min_le_right _ _);obtain⟨w',hst,hg,hiv⟩:=l0I (P:=P) (off:=0) h hH hd rfl (by rw[aB,hcr.len];omega) hcx (λ_=>f0M hsrc.plain _);exact⟨_,w', .inl (hrun _ _ (by rw[hv];exact v0W hu hk hk0 hsrc rfl hst)),⟨K,D,hg,hiv, .int _ _⟩⟩
        cases he
      cases he
    · rename_i e i0 off nn k sy hu hxe hye
      split at he
      · rename_i cs hH
        split at he
        · rename_i m cs2 rd hsc
          split at he<;>cases he
          rename_i hc;obtain⟨hk,hok,hst,hle⟩:=hc;obtain⟨i,z,hi,hz,hzs,hki,hk0,hby⟩:=h0a hok;obtain⟨news,hsrc⟩:=w0z (P:=P) (tx:=tx) h hk0 (a0i hs hyb hye) hsc hst;have hil:i0<H.length:=(ab.1 hH).1;have hset: ∀en,i0h H i0 en=H.set i0 en:=λen=>by unfold i0h;rw[qC hil]
          simp only[b0e,hset];have hrx:=a0i hs hxb hxe;generalize hvx:a.eval x=vx at hrx
          cases hrx with
          |sl _ _ _ _ b c m' cap hd hcap=>
            have hcx:CR w K D (news.take (min m nn*k)) (cs2.take (min m nn*k)):=hsrc.cr.take _;have hmk2:min m nn*k<=nn*k:=aJ _ (Nat.min_le_right _ _);obtain⟨w',hst,hg,hiv⟩:=l0I (P:=P) (off:=off) h hH hd rfl (by rw[aB];omega) hcx (λe=>by cases e);exact⟨_,w', .inl (hrun _ _ (by rw[hvx];exact v0W hu hk hk0 hsrc rfl hst)),⟨K,D,hg,hiv, .int _ _⟩⟩
        cases he
      cases he
    cases he
  cases he
theorem A0F(h:HInv w K D H)(hs:Slots n w K D ρ a.tmps) (ho:o.op= .convert src dst x)(hx:Operand.inB n x=yB)(hsrc:P.underlying src=qB .string)(hdst:P.underlying dst=qB (.slice e))
    (he:P.underlying e=qB (.int .u8)) {s:List UInt8} (hxe:a0G ρ x=qB (.str s)):q0T P w K D H o a (.lst s.length 1 (s.map l0C)) H:=by
  have hex:execOp a.eval o=(do pure (Next.value (<-convert src dst (a.eval x)))):=by unfold execOp;rw[ho]
  have hrx:=a0i hs hx hxe;generalize hvx:a.eval x=vx at hrx
  cases hrx with
  |str sb=>
    have hrun:=run_bytes_of_string (P:=P) w src dst e sb hsrc hdst he;generalize hcp:grownCap w sb.size 0 e=cap at hrun;have hcap:sb.size<=cap:=by rw[<-hcp];exact grownCap_ge w sb.size 0 e
    generalize hw':w.drew.alloc (.cells (bytesRow sb cap) e ((bytesRow sb cap).size,(bytesRow sb cap).size+1))=w' at hrun;have hheap:w'.heap=w.heap.push (.cells (bytesRow sb cap) e ((bytesRow sb cap).size,(bytesRow sb cap).size+1)):=by rw[<-hw'];rfl
    have hlen:sb.data.toList.length=sb.size:=by simp
    have hK0:K w.heap.size=0:=by
      rcases br (K w.heap.size)with h0|h0;exact h0;have:=h.kw w.heap.size cV;omega
    obtain⟨g,hiv⟩:=HInv.push (K':=λb=>if b=w.heap.size then sb.size else K b) h hheap (by rw[<-hw'];rfl) (by rw[<-hw'];rfl) (by rw[<-hw'];rfl) (λb hb=>wC hb);refine⟨_,w', .inl (by rw[hex];exact b0q (by rw[hvx];exact hrun)),⟨_,D,g,hiv, ?_⟩⟩;have hbl:(byteCells sb).length=sb.size:=byteCells_length sb;rw[hlen]
    refine .lst 1 w.heap.size 0 sb.size cap (byteCells sb) _ cV (by rw[hbl,Nat.mul_one]) (by simp[hbl]) hcap (λj v hj=> ?_) (by rw[hbl];simp) (λu hu=>by
        obtain⟨_,_,rfl⟩:=aX.1 hu;rfl) ?_ (λj v c hv hc=> ?_)
    have hjl:j<sb.size:=by rw[<-hbl];exact(ab.1 hj).1
    have hget:w'.heap[w.heap.size]?=qB (.cells (bytesRow sb cap) e ((bytesRow sb cap).size,(bytesRow sb cap).size+1)):=by rw[hheap];simp
    unfold World.cell?;simp only[aY,hget];unfold byteCells at hj;rw[aq]at hj;simp only[bytesRow,Option.isSome_none,aF,if_false];rw[bM (by simpa using hjl),Array.getElem?_map];simpa using hj;simp only[a0Q,List.all_map,vD];intro b _;rfl;unfold byteCells at hv;rw[aq]at hv hc
    cases hb:sb.data.toList[j]? with
    |none=>rw[hb]at hv;cases hv
    |some y=>rw[hb]at hv hc;cases hv;cases hc;exact .int _ _
theorem q0c(s:ByteArray): ∀(b i:Nat) (acc:Array Value),(∀v∈acc.toList,∃n:Int,v= .int .i32 n)-> ∀v∈(wF s b i acc).toList,∃n:Int,v= .int .i32 n
  |0,i,acc,h=>by simpa only[wF]using h
  |b+1,i,acc,h=>by
    simp only[wF];split
    exact q0c s b _ _ (λv hv=>by
      simp only[Array.toList_push,au,aR]at hv;rcases hv with hv|rfl;exact h v hv
      exact⟨_,rfl⟩)
    exact h
theorem p0q(w:World)(src dst e:TypeId)(s:ByteArray)(hs:P.underlying src=qB .string)(hd:P.underlying dst=qB (.slice e))(he:P.underlying e=qB (.int .i32)):
    (convert src dst (.string s)).run P w= .ok (.slice (qB ⟨w.heap.size,0,none⟩) (wF s s.size 0 #[]).size (grownCap w (wF s s.size 0 #[]).size 0 e))
      (w.drew.alloc (.cells (wF s s.size 0 #[]++jE (grownCap w (wF s s.size 0 #[]).size 0 e-(wF s s.size 0 #[]).size) (.int .i32 0)) e)):=by
  simp[convert,run_underlying hs,run_underlying hd,run_underlying he,Conv.stringToRunes,Question.forced,newRow,grownCap]
theorem A0E(h:HInv w K D H)(hs:Slots n w K D ρ a.tmps) (ho:o.op= .convert src dst x)(hx:Operand.inB n x=yB)(hsrc:P.underlying src=qB .string)(hdst:P.underlying dst=qB (.slice e))
    (he:P.underlying e=qB (.int .i32)) {s:List UInt8} (hxe:a0G ρ x=qB (.str s)):q0T P w K D H o a (.lst (g0A s).length 1 ((g0A s).map w0I)) H:=by
  have hex:execOp a.eval o=(do pure (Next.value (<-convert src dst (a.eval x)))):=by unfold execOp;rw[ho]
  have hrx:=a0i hs hx hxe;generalize hvx:a.eval x=vx at hrx
  cases hrx with
  |str sb=>
    have hrun:=p0q (P:=P) w src dst e sb hsrc hdst he
    have hrv:g0A sb.data.toList=(wF sb sb.size 0 #[]).toList.map I0P:=by
      unfold g0A;rw[show sb.data.toList.length=sb.size from by simp]
    rw[hrv];have hint:=q0c sb sb.size 0 #[] (λv hv=>by simp at hv);generalize wF sb sb.size 0 #[]=R at hrun hint⊢;generalize hcp:grownCap w R.size 0 e=cap at hrun;have hcap:R.size<=cap:=by rw[<-hcp];exact grownCap_ge w R.size 0 e
    generalize hw':w.drew.alloc (.cells (R++jE (cap-R.size) (.int .i32 0)) e)=w' at hrun;have hheap:w'.heap=w.heap.push (.cells (R++jE (cap-R.size) (.int .i32 0)) e):=by rw[<-hw'];rfl
    obtain⟨g,hiv⟩:=HInv.push (K':=λb=>if b=w.heap.size then R.size else K b) h hheap (by rw[<-hw'];rfl) (by rw[<-hw'];rfl) (by rw[<-hw'];rfl) (λb hb=>wC hb);refine⟨_,w', .inl (by rw[hex];exact b0q (by rw[hvx];exact hrun)),⟨_,D,g,hiv, ?_⟩⟩;have hlen:(R.toList.map I0P).length=R.size:=by simp
    rw[hlen]
    refine .lst 1 w.heap.size 0 R.size cap R.toList _ cV dB dB hcap (λj v hj=> ?_) dB (λu hu=>by
        obtain⟨n,rfl⟩:=hint u hu;rfl) ?_ (λj v c hv hc=> ?_)
    have hjl:j<R.size:=by simpa using (ab.1 hj).1
    have hget:w'.heap[w.heap.size]?=qB (.cells (R++jE (cap-R.size) (.int .i32 0)) e):=by rw[hheap];simp
    unfold World.cell?;simp only[aY,hget];simp only[Option.isSome_none,aF,if_false];rw[bM hjl];simpa using hj;simp only[a0Q,List.all_map,vD];intro b _;rfl;rw[bW,aq]at hc;rw[hv]at hc;cases hc;obtain⟨n,rfl⟩:=hint v (aI hv);exact .int _ _
theorem I0N {cs:List SV} (h:CR w K D news cs)(hb:cs.all p0f=yB): ∃ns:List Int,news=ns.map (vJ .u8)/\cs.map byteOf=ns.map λn=>oI n.toNat:=by
  have key: ∀(cs:List SV) (news:List Value),cs.length=news.length->(∀(j:Nat) (v:Value) (c:SV),news[j]?=qB v->cs[j]?=qB c->Rep w K D v c)->cs.all p0f=yB->
      ∃ns:List Int,news=ns.map (vJ .u8)/\cs.map byteOf=ns.map λn=>oI n.toNat:=by
    intro cs
    induction cs with
    |nil=>intro news hl _ _;cases news with
      |nil=>exact⟨[],rfl,rfl⟩
      |cons v vs=>simp at hl
    |cons c cs ih=>
      intro news hl hr hb
      cases news with
      |nil=>simp at hl
      |cons v vs=>
        simp only[aH,aa]at hb;obtain⟨ns,e1,e2⟩:=ih vs (by simpa using hl) (λj v c hv hc=>hr (j+1) v c (by simpa using hv) (by simpa using hc)) hb.2;have h0:=hr 0 v c rfl rfl;have hc:=hb.1;unfold p0f at hc;split at hc;rename_i z;cases h0;exact⟨z::ns,by rw[e1];rfl,by rw[al,e2];rfl⟩;cases hc
  exact key cs news h.len h.rep hb
theorem F0i(h:HInv w K D H)(hs:Slots n w K D ρ a.tmps) (ho:o.op= .convert src dst x)(hx:Operand.inB n x=yB)(hsrc:P.underlying src=qB (.slice e))(hdst:P.underlying dst=qB .string)
    (he:P.underlying e=qB (.int .u8)) {s:SV} (hxe:a0G ρ x=qB s) {cs:List SV} (hsc:w0l 1 s H=qB (m,cs,rd)) (hty:j0s P src s=yB) (hb:cs.all p0f=yB):q0T P w K D H o a (.str (cs.map byteOf)) H:=by
  have hex:execOp a.eval o=(do pure (Next.value (<-convert src dst (a.eval x)))):=by unfold execOp;rw[ho]
  obtain⟨news,hsa⟩:=w0z (P:=P) (tx:=src) h cV (a0i hs hx hxe) hsc hty;obtain⟨ns,e1,e2⟩:=I0N hsa.cr hb;have hcells:=hsa.src.cells;have hlen:=hsa.src.len w;generalize hvx:a.eval x=vx at hcells hlen
  have hsv: ∃r,(convert src dst vx).run P w= .ok (.string r) w/\cs.map byteOf=r.data.toList:=by
    cases vx with
    |slice ad len cap=>
      have hm:len=m:=by simp[Builtin.lenOf]at hlen;exact hlen
      subst hm;rw[run_convert_bytes_string w src dst e ad len cap hsrc he hdst]
      cases ad with
      |none=>
        have hn:news=[]:=by
          simp[Builtin.firstCells]at hcells;exact hcells
        rw[hn]at e1
        have:ns=[]:=by cases ns with
          |nil=>rfl
          |cons _ _=>cases e1
        subst this;exact⟨.empty,by simp[Conv.bytesToString],by rw[e2];rfl⟩
      |some ad=>
        have hl:(loadCells ad len).run P w= .ok (ns.map (vJ .u8)).toArray w:=by
          have:=hcells;simp only[Builtin.firstCells,Nat.mul_one]at this;rw[this,e1]
        refine⟨_,run_bytesToString w ad len cap ns hl, ?_⟩;rw[e2]
        have: ∀(ns:List Int) (r:ByteArray),(ns.foldl (λr n=>r.push (oI n.toNat)) r).data.toList=r.data.toList++ns.map λn=>oI n.toNat:=by
          intro ns
          induction ns with
          |nil=>intro r;simp
          |cons x ns ih=>intro r;simp only[List.foldl_cons];rw[ih];simp[ByteArray.push]
        rw[this];rfl
    |string sb=>
      exfalso;have hr:=a0i hs hx hxe;rw[hvx]at hr
      cases hr with
      |str _=>simp[j0s,hsrc]at hty
      |undef _=>simp[w0l]at hsc
    |_=>simp[Builtin.lenOf,stuck,Sem.run]at hlen
  obtain⟨r,h1,h2⟩:=hsv;refine g0s h (v:= .string r) (by rw[hex];exact b0q (by rw[hvx];exact h1)) ?_;rw[h2];exact .str r
theorem F0v {cs:List SV} (h:CR w K D news cs)(hb:cs.all p0D=yB): ∃ns:List Int,news=ns.map (vJ .i32)/\cs=ns.map (SV.int .i32):=by
  have key: ∀(cs:List SV) (news:List Value),cs.length=news.length->(∀(j:Nat) (v:Value) (c:SV),news[j]?=qB v->cs[j]?=qB c->Rep w K D v c)->cs.all p0D=yB->
      ∃ns:List Int,news=ns.map (vJ .i32)/\cs=ns.map (SV.int .i32):=by
    intro cs
    induction cs with
    |nil=>intro news hl _ _;cases news with
      |nil=>exact⟨[],rfl,rfl⟩
      |cons v vs=>simp at hl
    |cons c cs ih=>
      intro news hl hr hb
      cases news with
      |nil=>simp at hl
      |cons v vs=>
        simp only[aH,aa]at hb;obtain⟨ns,e1,e2⟩:=ih vs (by simpa using hl) (λj v c hv hc=>hr (j+1) v c (by simpa using hv) (by simpa using hc)) hb.2;have h0:=hr 0 v c rfl rfl;have hc:=hb.1;unfold p0D at hc;split at hc;rename_i z;cases h0;exact⟨z::ns,by rw[e1];rfl,by rw[al,e2]⟩;cases hc
  exact key cs news h.len h.rep hb
theorem s0Q(ns:List Int):(runesBytes ns).data.toList=ns.flatMap λn=>(yI n).data.toList:=by
  have: ∀(ns:List Int) (r:ByteArray),(ns.foldl (λr n=>r++yI n) r).data.toList=r.data.toList++ns.flatMap λn=>(yI n).data.toList:=by
    intro ns
    induction ns with
    |nil=>intro r;simp
    |cons x ns ih=>intro r;simp only[List.foldl_cons];rw[ih];simp[ByteArray.data_append]
  unfold runesBytes;rw[this];rfl
theorem C0e(h:HInv w K D H)(hs:Slots n w K D ρ a.tmps) (ho:o.op= .convert src dst x)(hx:Operand.inB n x=yB)(hsrc:P.underlying src=qB (.slice e))(hdst:P.underlying dst=qB .string)
    (he:P.underlying e=qB (.int .i32)) {s:SV} (hxe:a0G ρ x=qB s) {cs:List SV} (hsc:w0l 1 s H=qB (m,cs,rd)) (hty:j0s P src s=yB) (hb:cs.all p0D=yB):q0T P w K D H o a (.str (cs.flatMap w0J)) H:=by
  have hex:execOp a.eval o=(do pure (Next.value (<-convert src dst (a.eval x)))):=by unfold execOp;rw[ho]
  obtain⟨news,hsa⟩:=w0z (P:=P) (tx:=src) h cV (a0i hs hx hxe) hsc hty;obtain⟨ns,e1,e2⟩:=F0v hsa.cr hb;have hcells:=hsa.src.cells;have hlen:=hsa.src.len w
  have hfl:cs.flatMap w0J=ns.flatMap λn=>(yI n).data.toList:=by
    rw[e2,List.flatMap_map];rfl
  generalize hvx:a.eval x=vx at hcells hlen
  have hsv: ∃r,(convert src dst vx).run P w= .ok (.string r) w/\cs.flatMap w0J=r.data.toList:=by
    cases vx with
    |slice ad len cap=>
      have hm:len=m:=by simp[Builtin.lenOf]at hlen;exact hlen
      subst hm;rw[run_convert_runes_string w src dst e ad len cap hsrc he hdst]
      cases ad with
      |none=>
        have hn:news=[]:=by
          simp[Builtin.firstCells]at hcells;exact hcells
        rw[hn]at e1
        have:ns=[]:=by cases ns with
          |nil=>rfl
          |cons _ _=>cases e1
        subst this;exact⟨.empty,by simp[Conv.runesToString],by rw[hfl];rfl⟩
      |some ad=>
        have hl:(loadCells ad len).run P w= .ok (ns.map (vJ .i32)).toArray w:=by
          have:=hcells;simp only[Builtin.firstCells,Nat.mul_one]at this;rw[this,e1]
        exact⟨_,run_runesToString w ad len cap ns hl,by rw[hfl,s0Q]⟩
    |string sb=>
      exfalso;have hr:=a0i hs hx hxe;rw[hvx]at hr
      cases hr with
      |str _=>simp[j0s,hsrc]at hty
      |undef _=>simp[w0l]at hsc
    |_=>simp[Builtin.lenOf,stuck,Sem.run]at hlen
  obtain⟨r,h1,h2⟩:=hsv;refine g0s h (v:= .string r) (by rw[hex];exact b0q (by rw[hvx];exact h1)) ?_;rw[h2];exact .str r
theorem F0j(h:HInv w K D H)(hs:Slots n w K D ρ a.tmps) (ho:o.op= .convert src dst x)(hx:Operand.inB n x=yB)(hsrc:P.underlying src=qB .string)(hdst:P.underlying dst=qB .string)
    {s:List UInt8} (hxe:a0G ρ x=qB (.str s)):q0T P w K D H o a (.str s) H:=by
  have hex:execOp a.eval o=(do pure (Next.value (<-convert src dst (a.eval x)))):=by unfold execOp;rw[ho]
  have hrx:=a0i hs hx hxe;generalize hvx:a.eval x=vx at hrx
  cases hrx with
  |str sb=>
    exact g0s h (v:= .string sb) (by rw[hex];exact b0q (by rw[hvx];simp[convert,run_underlying hsrc,run_underlying hdst])) (.str sb)
theorem I0C(hs:Slots n w K D ρ a.tmps) {big:Bool} {k:IntKind} : ∀(l:List Operand) (acc:Int) (v:SV),(∀x∈l,Operand.inB n x=yB)->D0o big k acc ρ l=qB v->
    ∃r,v= .int k r/\((l.map a.eval).foldlM (if big then Builtin.max2 else Builtin.min2) (.int k acc)).run P w= .ok (.int k r) w:=by
  intro l
  induction l with
  |nil=>intro acc v _ hv;cases hv;exact⟨acc,rfl,dB⟩
  |cons y l ih=>
    intro acc v hb hv;simp only[D0o]at hv;split at hv;rename_i k' b hye;split at hv;rename_i hk;subst hk;obtain⟨r,e1,e2⟩:=ih _ v (λx hx=>hb x (ao _ hx)) hv;refine⟨r,e1, ?_⟩;have hry:=a0i hs (hb y (aw ..)) hye;generalize hvy:a.eval y=vy at hry;cases hry;simp only[al,List.foldlM_cons,hvy];cases big;simp only[aF,if_false]at e2⊢;simpa [Builtin.min2]using e2;simp only[if_true]at e2⊢;simpa [Builtin.max2]using e2;cases hv;cases hv
theorem x0j(h:HInv w K D H)(hs:Slots n w K D ρ a.tmps) (ho:o.op= .call c) {big:Bool} (hcal:c.callee= .builtin (if big then .max else .min)) {r:List Operand} (ha:c.args.toList=x::r)(hb: ∀x∈c.args,Operand.inB n x=yB)
    {k:IntKind} {ax:Int} (hxe:a0G ρ x=qB (.int k ax)) {v:SV} (hv:D0o big k ax ρ r=qB v):q0T P w K D H o a v H:=by
  have ha':c.args=(x::r).toArray:=by rw[<-ha]
  have hb': ∀y∈x::r,Operand.inB n y=true:=λy hy=>hb y (by rw[ha'];simpa using hy)
  obtain⟨z,e1,e2⟩:=I0C (P:=P) hs r ax v (λy hy=>hb' y (ao _ hy)) hv;subst e1;have hrx:=a0i hs (hb' x (aw ..)) hxe;generalize hvx:a.eval x=vx at hrx;cases hrx;refine g0s h (v:= .int k z) ?_ (.int _ _);unfold execOp;cases big;simp only[aF,if_false]at e2 hcal;simp only[ho,resolve,hcal,ha',invoke,builtin,yD,vE,jD,bU,al,Builtin.min_,hvx,e2];simp only[if_true]at e2 hcal;simp only[ho,resolve,hcal,ha',invoke,builtin,yD,vE,jD,bU,al,Builtin.max_,hvx,e2]
end
end
section
variable [Inhabited GT]
variable {P : Program} {w : World} {K : Nat -> Nat} {D : DM} {H : a0e} {n : Nat} {ρ : Env} {a : Act} {o : Oper} {idx : Nat}
def r0w(d:Nat)(e:TypeId)(n:Nat)(xs ys:Array Value):List Nat->Sem Bool
  | []=>pure yB
  |i::l=>do
    let a<-part e xs (i*n)
    let b<-part e ys (i*n)
    let r<-qI d e a b
    if(!r)=yB then pure vB else r0w d e n xs ys l
theorem q0Z(d:Nat)(t e:TypeId)(len:Nat)(xs ys:Array Value)(ht:P.underlying t=qB (.array len e))(hk:0<P.cellsOf e):
    (qI (d+1) t (.agg xs) (.agg ys)).run P w=(r0w d e (P.cellsOf e) xs ys (jH 0 len)).run P w:=by
  simp only[qI,yD,run_underlying ht,jD,b0Y hk];rw[Std.Legacy.Range.forIn_eq_forIn_range'];simp only[Std.Legacy.Range.size,bD,Nat.add_sub_cancel,Nat.div_one];generalize jH 0 len=l
  induction l generalizing w with
  |nil=>simp[r0w]
  |cons i l ih=>
    simp only[List.forIn_cons,r0w,yD,Sem.run_ite];generalize(part e xs (i*P.cellsOf e)).run P w=r1
    cases r1 with
    |ok a w1=>
      simp only[jD];generalize(part e ys (i*P.cellsOf e)).run P w1=r2
      cases r2 with
      |ok b w2=>
        simp only[jD];generalize(qI d e a b).run P w2=r3
        cases r3 with
        |ok r w3=>
          cases r;simp only[jD,Bool.not_false,if_true,vE];simp only[jD,Bool.not_true,aF,if_false,vE];exact ih
        |halt x w3=>simp[oE]
      |halt x w2=>simp[oE]
    |halt x w1=>simp[oE]
theorem J0b {d':Nat} {f:TypeId->SV->SV->Option Bool} (hf: ∀t a b r,f t a b=qB r-> ∀u v,Rep w K D u a->Rep w K D v b->(qI d' t u v).run P w= .ok r w)
 {xs ys:List SV} (hl:xs.length=us.length) (hl':ys.length=vs.length) (h1: ∀v∈us,v.oneCell'=yB) (h1': ∀v∈vs,v.oneCell'=yB)
    (hr: ∀(j:Nat) (v:Value) (c:SV),us[j]?=qB v->xs[j]?=qB c->Rep w K D v c) (hr': ∀(j:Nat) (v:Value) (c:SV),vs[j]?=qB v->ys[j]?=qB c->Rep w K D v c):
    ∀(fs:List Field) (r:Bool),L0o P f xs ys fs=qB r->(Op.eqFields d' us.toArray vs.toArray fs).run P w= .ok r w:=by
  intro fs
  induction fs with
  |nil=>intro r h;cases h;rfl
  |cons fd fs ih=>
    intro r h;unfold L0o at h;unfold Op.eqFields;split at h;rename_i hn;rw[qC hn];split at h;rename_i a b ha hb;split at h;rename_i p q hp hq;cases h;obtain⟨u,hu,hur⟩:=e0t (P:=P) hl h1 hr ha;obtain⟨v,hv,hvr⟩:=e0t (P:=P) hl' h1' hr' hb;simp only[yD,hu,jD,hv,hf _ _ _ _ hp u v hur hvr,Sem.run_ite]
    cases p with
    |false=>simp
    |true=>simp[ih q hq]
    cases h;cases h;rename_i hn;rw[wC hn];exact ih r h
theorem J0c {d' e:Nat} {f:SV->SV->Option Bool} (hf: ∀a b r,f a b=qB r-> ∀u v,Rep w K D u a->Rep w K D v b->(qI d' e u v).run P w= .ok r w)
 {xs ys:List SV} (hl:xs.length=us.length) (hl':ys.length=vs.length) (h1: ∀v∈us,v.oneCell'=yB) (h1': ∀v∈vs,v.oneCell'=yB)
    (hr: ∀(j:Nat) (v:Value) (c:SV),us[j]?=qB v->xs[j]?=qB c->Rep w K D v c) (hr': ∀(j:Nat) (v:Value) (c:SV),vs[j]?=qB v->ys[j]?=qB c->Rep w K D v c):
    ∀(m i:Nat) (r:Bool),L0Z P f e (P.cellsOf e) xs ys m i=qB r->(r0w d' e (P.cellsOf e) us.toArray vs.toArray (jH i m)).run P w= .ok r w:=by
  intro m
  induction m with
  |zero=>intro i r h;cases h;rfl
  |succ m ih=>
    intro i r h;unfold L0Z at h;rw[List.range'_succ];unfold r0w;split at h;rename_i a b ha hb;split at h;rename_i p q hp hq;cases h;obtain⟨u,hu,hur⟩:=e0t (P:=P) hl h1 hr ha;obtain⟨v,hv,hvr⟩:=e0t (P:=P) hl' h1' hr' hb;simp only[yD,hu,jD,hv,hf _ _ _ hp u v hur hvr,Sem.run_ite]
    cases p with
    |false=>simp
    |true=>simp[ih (i+1) q hq]
    cases h;cases h
theorem E0l: ∀(d:Nat) (t:TypeId) (a b:SV) (r:Bool),eqS P d t a b=qB r-> ∀u v,Rep w K D u a->Rep w K D v b-> ∀d',d<=d'->(qI d' t u v).run P w= .ok r w:=by
  intro d
  induction d with
  |zero=>intro t a b r h;cases h
  |succ d ih=>
    intro t a b r h u v hu hv d' hd
    obtain⟨d',rfl⟩: ∃q,d'=q+1:=⟨d'-1,cV⟩
    unfold eqS at h;split at h;rename_i x y ht;cases hu;cases hv;cases h;exact run_equalIn_bool w d' t x y ht
    · rename_i kk k x k' y ht
      split at h<;>cases h
      cases hu;cases hv;rename_i hk;subst hk;rw[run_equalIn_int w d' t k kk x y ht];congr 1
    rename_i x y ht;cases h;cases hu;cases hv;rw[run_equalIn_string w d' t _ _ ht];simp[m0n];rename_i fs xs ys ht;split at h;rename_i hp
    cases hu with
    |agg us _ hl h1 hr=>
      cases hv with
      |agg vs _ hl' h1' hr'=>
        have hfo:P.fieldsOf t=fs:=by unfold Program.fieldsOf;rw[ht]
        rw[run_equalIn_struct w d' t _ _ (by rw[hfo];exact ht) hp,hfo];exact J0b (λt a b r hh u v hu hv=>ih t a b r hh u v hu hv d' cV) hl hl' h1 h1' hr hr' fs.toList r h
    cases h;rename_i len e xs ys ht;split at h;rename_i hk
    cases hu with
    |agg us _ hl h1 hr=>
      cases hv with
      |agg vs _ hl' h1' hr'=>
        rw[q0Z d' t e len _ _ ht hk];exact J0c (λa b r hh u v hu hv=>ih e a b r hh u v hu hv d' cV) hl hl' h1 h1' hr hr' len 0 r h
    cases h;cases h
theorem L0p(h:HInv w K D H)(hs:Slots n w K D ρ a.tmps) (ho:o.op= .binOp op t x y ty)(hx:Operand.inB n x=yB)(hy:Operand.inB n y=yB) {ef:Eff}
    (he:eqE P op t (a0G ρ x) (a0G ρ y)=qB ef):q0T P w K D H o a ef.v (b0e H ef.wr):=by
  have hex:execOp a.eval o=(do pure (Next.value (<-(do eqGuard op t x y (a.eval x) (a.eval y);binOp op t (a.eval x) (a.eval y):Sem Value)))):=by unfold execOp;rw[ho]
  unfold eqE at he;split at he;rename_i xs ys hxe hye;have hrx:=a0i hs hx hxe;have hry:=a0i hs hy hye;split at he;rename_i hg
  cases hq:eqS P 9 t (.agg xs) (.agg ys)with
  |none=>rw[hq]at he;cases he
  |some b=>
    rw[hq]at he;cases he;have hrun:=E0l 9 t _ _ b hq _ _ hrx hry 10000 cV;generalize hvx:a.eval x=vx at hrx hrun;generalize hvy:a.eval y=vy at hry hrun
    cases hrx with
    |agg us _ hl h1 hr=>
      cases hry with
      |agg vs _ hl' h1' hr'=>
        refine g0s h (v:= .bool b) ?_ (.bool b);rw[hex,hvx,hvy];refine b0q ?_;simp only[yD,run_eqGuard_agg w .eql t x y _ _ hg,jD,run_eql_struct,hrun,vE]
  cases he;rename_i xs ys hxe hye;have hrx:=a0i hs hx hxe;have hry:=a0i hs hy hye;split at he;rename_i hg
  cases hq:eqS P 9 t (.agg xs) (.agg ys)with
  |none=>rw[hq]at he;cases he
  |some b=>
    rw[hq]at he;cases he;have hrun:=E0l 9 t _ _ b hq _ _ hrx hry 10000 cV;generalize hvx:a.eval x=vx at hrx hrun;generalize hvy:a.eval y=vy at hry hrun
    cases hrx with
    |agg us _ hl h1 hr=>
      cases hry with
      |agg vs _ hl' h1' hr'=>
        refine g0s h (v:= .bool (!b)) ?_ (.bool (!b));rw[hex,hvx,hvy];refine b0q ?_;simp only[yD,run_eqGuard_agg w .neq t x y _ _ hg,jD,run_neq_struct,hrun,vE]
  cases he;cases he
theorem x0F(w:World)(b off c:Nat)(h:c≠b):(w.freeze ⟨b,off,none⟩ 1).heap[c]?=w.heap[c]?:=by
  unfold zK;rw[wC dC];simp only[cx];rw[wC (Ne.symm h)]
theorem D0Z(w:World)(b off:Nat) {arr:Array Value} (h:w.heap[b]?=qB (.cells arr e (0,0))):(w.freeze ⟨b,off,none⟩ 1).heap[b]?=qB (.cells arr e (off,off+1)):=by
  unfold zK;rw[wC dC];simp only[cx,qC,h];rfl
theorem y0W(w:World)(b off:Nat):(w.freeze ⟨b,off,none⟩ 1).heap.size=w.heap.size:=by
  unfold zK;rw[wC dC];simp
theorem z0i(h:HInv w K D H)(hs:Slots n w K D ρ a.tmps) (ho:o.op= .convert src dst x)(hx:Operand.inB n x=yB)(hsd:src=dst)(hu:P.underlying src=qB (.slice e))
    (he:P.underlying e=qB (.int .u8)) {cs:List SV} (hxe:a0G ρ x=qB (.vc i)) (hH:H[i]?=qB (.vec nn k e' cs)) (hn:0<nn):q0T P w K D H o a (.lst nn k cs) (H.set i .gone):=by
  subst hsd;have hex:execOp a.eval o=(do pure (Next.value (<-convert src src (a.eval x)))):=by unfold execOp;rw[ho]
  have hrx:=a0i hs hx hxe;generalize hvx:a.eval x=vx at hrx;have hil:i<H.length:=(ab.1 hH).1;obtain⟨hp,hent⟩:=h.ent i _ hH;rcases hent with⟨h1,h2,h3⟩|⟨b,c,vs,rest,h1,h2,h3,h4,h5,h6,h7,h8,h9⟩;omega
  have hvv:vx= .slice (qB ⟨b,0,none⟩) nn c:=by
    cases hrx with
    |vcn _ ad hd=>rw[h1]at hd;cases hd
    |vc _ b' c' n' hd=>rw[h1]at hd;cases hd;rfl
  subst hvv
  have hrun:(convert src src (.slice (qB ⟨b,0,none⟩) nn c)).run P w= .ok (.slice (qB ⟨b,0,none⟩) nn c) (w.freeze ⟨b,(vs++rest).toArray.size,none⟩ 1):=by
    have hsh:w.shape? b=qB (e',(vs++rest).toArray.size):=by unfold World.shape?;rw[h6]
    simp[convert,run_underlying hu,run_underlying he,markStringish,hsh]
  generalize hw':w.freeze ⟨b,(vs++rest).toArray.size,none⟩ 1=w' at hrun;have hb':w'.heap[b]?=qB (.cells (vs++rest).toArray e' ((vs++rest).toArray.size,(vs++rest).toArray.size+1)):=by rw[<-hw'];exact D0Z w b _ h6
  have hoth: ∀c,c≠b->w'.heap[c]?=w.heap[c]?:=λc hc=>by rw[<-hw'];exact x0F w b _ c hc
  have hsz:w'.heap.size=w.heap.size:=by rw[<-hw'];exact y0W w b _
  have hos:w'.os=w.os:=by rw[<-hw'];unfold zK;rw[wC dC]
  have htp:w'.tape=w.tape:=by rw[<-hw'];unfold zK;rw[wC dC]
  have hot:w'.output=w.output:=by rw[<-hw'];unfold zK;rw[wC dC]
  have hcell: ∀b' j,w'.cell? ⟨b',j,none⟩=w.cell? ⟨b',j,none⟩:=λb' j=>by
    unfold World.cell?;by_cases hbb:b'=b;subst hbb;simp only[hb',h6];simp only[hoth b' hbb]
  have hmono: ∀b',K b'<=(if b'=b then nn*k else K b'):=λb'=>by
    split;rename_i e1;subst e1;omega;exact aj _
  have hm: ∀v s,Rep w K D v s->Rep w' (λb'=>if b'=b then nn*k else K b') D v s:=λv s hr=>hr.mono (λ_ _ _=>hcell _ _) hmono (λ_ _ e=>e)
  have hmemi:Mem D H b:=⟨i,_,c,nn,hH,rfl,h1⟩
  have hget: ∀j en,(H.set i .gone)[j]?=qB en->(j=i/\en= .gone)\/(j≠i/\H[j]?=qB en):=by
    intro j en hj;by_cases hji:i=j;subst hji;rw[co hil]at hj;cases hj;exact .inl ⟨rfl,rfl⟩;rw[cf hji]at hj;exact .inr ⟨Ne.symm hji,hj⟩
  have hmem: ∀b,Mem D (H.set i .gone) b->Mem D H b:=by
    rintro b ⟨j,en,c,n',q1,q2,q3⟩;rcases hget j en q1 with⟨_,rfl⟩|⟨_,g1⟩;cases q2;exact⟨j,en,c,n',g1,q2,q3⟩
  have hrow:=g0G h6 h9;refine⟨_,w', .inl (by rw[hex];exact b0q (by rw[hvx];exact hrun)),λb'=>if b'=b then nn*k else K b',D, ?_, ?_, ?_⟩;refine⟨hos,htp,hot,cV,λb' hb1 hb2=>hoth b' (fun(e1:b'=b)=>hb2 (e1▸hmemi)),λ_ _ _=>hcell _ _,hmono,λb' hb1 hb2=>wC (fun(e1:b'=b)=>hb2 (e1▸hmemi)),λ_ _ e=>e,λb' hb1=> .inl (hmem b' hb1)⟩;refine⟨λj hj=>h.dom j (by simpa using hj),λj en hj=> ?_,λj j' en en' b1 c1 n1 c2 n2 hj hj' hl hl' hdj hdj'=> ?_,λb1 hb1=> ?_⟩;rcases hget j en hj with⟨_,rfl⟩|⟨hne,g1⟩;trivial;refine(h.ent j en g1).keep hm rfl (λb1 c1 n1 hl hdj=> ?_)
  have hbn:b1≠b:=λe1=>by
    subst e1;exact hne (h.inj j i en _ b1 c1 n1 c nn g1 hH hl rfl hdj h1)
  exact⟨hoth b1 hbn,wC hbn⟩;rcases hget j en hj with⟨_,rfl⟩|⟨_,g1⟩;cases hl;rcases hget j' en' hj' with⟨_,rfl⟩|⟨_,g1'⟩;cases hl';exact h.inj j j' en en' b1 c1 n1 c2 n2 g1 g1' hl hl' hdj hdj';rw[hsz];by_cases hbb:b1=b;subst hbb;exact(ak.1 h6).1;rw[wC hbb]at hb1;exact h.kw b1 hb1;exact .lst k b 0 nn c vs cs h3 h7 h9.len h4 (λj v hj=>(hcell _ _).trans (hrow.mem j v hj)) (by simp[h7]) h9.one hp (λj v c hv hc=>hm _ _ (h9.rep j v c hv hc))
end
section
variable [Inhabited GT]
section
variable {P : Program} {n : Nat} {w : World} {K : Nat -> Nat} {D : DM} {H : a0e} {ρ : Env} {a : Act} {o : Oper} {idx : Nat}
theorem t0x {k:SV} (h:t0y P kt k=yB)(hr:Rep w K D v k): ∃d,P.underlying kt=qB d/\MapKept.IsKey d v/\ ∀(e:Value) (c:SV),Rep w K D e c-> ∀b,k0U k c=qB b->wI d v e=qB b:=by
  unfold t0y at h
  split at h
  · rename_i q q' x hu
    simp only[decide_eq_true_eq]at h;subst h;cases hr;refine⟨_,hu,rfl,λe c hc b hb=> ?_⟩;cases hc<;>simp only[k0U]at hb<;>first|(cases hb;done)|skip
    rename_i q2 y;by_cases hq:q=q2;subst hq;rw[qC rfl]at hb;simpa [wI]using hb;rw[wC hq]at hb;cases hb
  · rename_i x hu
    cases hr with
    |str sb=>
      refine⟨_,hu,trivial,λe c hc b hb=> ?_⟩;cases hc<;>simp only[k0U]at hb<;>first|(cases hb;done)|skip
      rename_i sb2;simp only[ah]at hb;subst hb;simp only[wI,ah];rw[Bool.eq_iff_iff,MapKept.bytes_beq];simp only[beq_iff_eq];constructor;intro e;rw[e];intro e;exact ByteArray.ext (aZ.1 e)
  · rename_i x hu
    cases hr;refine⟨_,hu,trivial,λe c hc b hb=> ?_⟩;cases hc<;>simp only[k0U]at hb<;>first|(cases hb;done)|skip
    simpa [wI]using hb
  cases h
theorem E0b {d:TypeDesc} {v:Value} {k:SV} (hs: ∀(e:Value) (c:SV),Rep w K D e c-> ∀b,k0U k c=qB b->wI d v e=qB b): ∀(mes:List MapEntry) (es:List (SV×SV)) (q:Nat),es.length=mes.length->
    (∀(j:Nat) (me:MapEntry) (kv:SV×SV),mes[j]?=qB me->es[j]?=qB kv->Rep w K D me.key kv.1/\Rep w K D me.val kv.2)->
    (g0Y es k=qB none->oF d v mes q=qB none)/\ ∀s,g0Y es k=qB (qB s)-> ∃i x,oF d v mes q=qB (qB (i,x))/\Rep w K D x s
  | [],[],q,_,_=>⟨λ_=>rfl,λs h=>by cases h⟩
  | [],_::_,q,h,_=>by simp at h
  |_::_,[],q,h,_=>by simp at h
  |me::mes,kv::es,q,hl,hr=>by
    obtain⟨r1,r2⟩:=hr 0 me kv rfl rfl;obtain⟨i1,i2⟩:=E0b hs mes es (q+1) (by simpa using hl) (λj me kv h1 h2=>hr (j+1) me kv (by simpa using h1) (by simpa using h2))
    cases hb:k0U k kv.1 with
    |none=>exact⟨λh=>(by simp[g0Y,hb]at h),λs h=>(by simp[g0Y,hb]at h)⟩
    |some b=>
      have hsn:=hs _ _ r1 b hb
      cases b with
      |true=>
        refine⟨λh=>(by simp[g0Y,hb]at h),λs h=> ?_⟩;simp only[g0Y,hb,ah]at h;subst h;exact⟨q,me.val,by simp[oF,hsn],r2⟩
      |false=>
        refine⟨λh=> ?_,λs h=> ?_⟩;simp only[g0Y,hb]at h;simp only[oF,hsn];exact i1 h;simp only[g0Y,hb]at h;simp only[oF,hsn];exact i2 s h
theorem E0d {d:TypeDesc} {v:Value} {k:SV} (y:SV)(hs: ∀(e:Value) (c:SV),Rep w K D e c-> ∀b,k0U k c=qB b->wI d v e=qB b): ∀(mes:List MapEntry) (es:List (SV×SV)) (q:Nat),es.length=mes.length->
    (∀(j:Nat) (me:MapEntry) (kv:SV×SV),mes[j]?=qB me->es[j]?=qB kv->Rep w K D me.key kv.1/\Rep w K D me.val kv.2)->
    ∀s,g0Y es k=qB (qB s)-> ∃j me kv,mes[j]?=qB me/\es[j]?=qB kv/\k0U k kv.1=qB yB/\oF d v mes q=qB (qB (q+j,me.val))/\F0g es k y=es.set j (kv.1,y)
  | [],[],q,_,_,s,h=>by cases h
  | [],_::_,q,h,_,_,_=>by simp at h
  |_::_,[],q,h,_,_,_=>by simp at h
  |me::mes,kv::es,q,hl,hr,s,h=>by
    obtain⟨r1,r2⟩:=hr 0 me kv rfl rfl
    cases hb:k0U k kv.1 with
    |none=>simp[g0Y,hb]at h
    |some b=>
      have hsn:=hs _ _ r1 b hb
      cases b with
      |true=>exact⟨0,me,kv,rfl,rfl,hb,by simp[oF,hsn],by simp[F0g,hb]⟩
      |false=>
        simp only[g0Y,hb]at h;obtain⟨j,me',kv',h1,h2,h3,h4,h5⟩:=E0d y hs mes es (q+1) (by simpa using hl) (λj me kv h1 h2=>hr (j+1) me kv (by simpa using h1) (by simpa using h2)) s h;refine⟨j+1,me',kv',by simpa using h1,by simpa using h2,h3, ?_, ?_⟩;simp only[oF,hsn,h4];congr 3;omega;simp only[F0g,hb,h5,cG]
theorem E0z: ∀(d:Nat) (t:TypeId) (a:SV),x0V P d t a=yB-> ∀v,Rep w K D v a-> ∀(e:Bool) (n:Nat),d<=n->(oH e n t v).run P w= .ok () w:=by
  intro d
  induction d with
  |zero=>intro t a h;cases h
  |succ d ih=>
    intro t a h v hv e n hn
    obtain⟨n,rfl⟩: ∃q,n=q+1:=⟨n-1,cV⟩
    unfold x0V at h;split at h;rename_i fs cs hu
    cases hv with
    |agg vs _ hl h1 hr=>
      unfold oH;simp only[yD,run_underlying hu,jD];rw[<-Array.forIn_toList];generalize fs.toList=l at h;clear hu
      induction l with
      |nil=>simp
      |cons f l ihl=>
        simp only[aH,aa,bH,beq_iff_eq]at h;simp only[List.forIn_cons,yD,Sem.run_ite]
        by_cases hf : f.name = "_"
        rw[wC (by simp[hf])];simp only[vE,jD];exact ihl h.2;rw[qC (by simpa using hf)];rcases h.1 with h0|h0;exact absurd h0 hf;split at h0;rename_i b hb;obtain⟨u,hu,hur⟩:=e0t (P:=P) hl h1 hr hb;simp only[hu,jD,ih _ _ h0 u hur e n cV,vE];exact ihl h.2;cases h0
    rename_i len el cs hu
    cases hv with
    |agg vs _ hl h1 hr=>
      simp only[aa,decide_eq_true_eq]at h;obtain⟨hk,h⟩:=h;unfold oH;simp only[yD,run_underlying hu,jD];rw[Std.Legacy.Range.forIn_eq_forIn_range'];simp only[Std.Legacy.Range.size,bD,Nat.add_sub_cancel,Nat.div_one];generalize jH 0 len=l at h;clear hu
      induction l with
      |nil=>simp
      |cons i l ihl=>
        simp only[aH,aa]at h;simp only[List.forIn_cons,yD,b0Y hk,jD];have h0:=h.1;split at h0;rename_i b hb;obtain⟨u,hu,hur⟩:=e0t (P:=P) hl h1 hr hb;simp only[hu,jD,ih _ _ h0 u hur e n cV,vE];exact ihl h.2;cases h0
    rename_i q q' x hu;cases hv;unfold oH;simp[run_underlying hu,oE];rename_i x hu;cases hv;unfold oH;simp[run_underlying hu,oE];rename_i x hu;cases hv;unfold oH;simp[run_underlying hu,oE];cases h
theorem A0m {kt:TypeId} {v:Value} {k:SV} (hk:Rep w K D v k): ∀(mes:List MapEntry) (es:List (SV×SV)) (q:Nat),es.length=mes.length->
    (∀(j:Nat) (me:MapEntry) (kv:SV×SV),mes[j]?=qB me->es[j]?=qB kv->Rep w K D me.key kv.1/\Rep w K D me.val kv.2)->
    (m0O P kt k es=qB none->(qH kt v mes q).run P w= .ok none w)/\ ∀s,m0O P kt k es=qB (qB s)-> ∃i x,(qH kt v mes q).run P w= .ok (qB (i,x)) w/\Rep w K D x s
  | [],[],q,_,_=>⟨λ_=>rfl,λs h=>by cases h⟩
  | [],_::_,q,h,_=>by simp at h
  |_::_,[],q,h,_=>by simp at h
  |me::mes,kv::es,q,hl,hr=>by
    obtain⟨r1,r2⟩:=hr 0 me kv rfl rfl;obtain⟨i1,i2⟩:=A0m hk mes es (q+1) (by simpa using hl) (λj me kv h1 h2=>hr (j+1) me kv (by simpa using h1) (by simpa using h2))
    cases hb:eqS P 9 kt k kv.1 with
    |none=>exact⟨λh=>(by simp[m0O,hb]at h),λs h=>(by simp[m0O,hb]at h)⟩
    |some b=>
      have hsn:(Op.equal kt v me.key).run P w= .ok b w:=E0l 9 kt _ _ b hb _ _ hk r1 10000 cV
      cases b with
      |true=>
        refine⟨λh=>(by simp[m0O,hb]at h),λs h=> ?_⟩;simp only[m0O,hb,ah]at h;subst h;exact⟨q,me.val,by simp[qH,hsn],r2⟩
      |false=>
        refine⟨λh=> ?_,λs h=> ?_⟩;simp only[m0O,hb]at h;have:=i1 h;simp[qH,hsn,this];simp only[m0O,hb]at h;obtain⟨i,x,h1,h2⟩:=i2 s h;exact⟨i,x,by simp[qH,hsn,h1],h2⟩
theorem f0j {k:SV} (h0:t0y P kt k=yB)(hr:Rep w K D v k)(hf: ∀es,p0E P kt es k=g0Y es k):(∀e,(oH e 10000 kt v).run P w= .ok () w)/\
    ∀(mes:List MapEntry) (es:List (SV×SV)),es.length=mes.length->(∀(j:Nat) (me:MapEntry) (kv:SV×SV),mes[j]?=qB me->es[j]?=qB kv->Rep w K D me.key kv.1/\Rep w K D me.val kv.2)->
      (p0E P kt es k=qB none->(vH kt v mes).run P w= .ok none w)/\ ∀s,p0E P kt es k=qB (qB s)-> ∃i x,(vH kt v mes).run P w= .ok (qB (i,x)) w/\Rep w K D x s:=by
  obtain⟨d,hdu,hik,hsm⟩:=t0x (P:=P) h0 hr;refine⟨λe=>MapKept.run_checkKey hdu hik e 9999,λmes es hl hre=> ?_⟩;obtain⟨f1,f2⟩:=E0b hsm mes es 0 hl hre;rw[hf es];refine⟨λhn=>MapKept.run_findKey hdu (f1 hn),λs hs=> ?_⟩;obtain⟨i,x,h1,h2⟩:=f2 s hs;exact⟨i,x,MapKept.run_findKey hdu h1,h2⟩
theorem D0K {k:SV} (h:t0z P kt k=yB)(hr:Rep w K D v k):(∀e,(oH e 10000 kt v).run P w= .ok () w)/\
    ∀(mes:List MapEntry) (es:List (SV×SV)),es.length=mes.length->(∀(j:Nat) (me:MapEntry) (kv:SV×SV),mes[j]?=qB me->es[j]?=qB kv->Rep w K D me.key kv.1/\Rep w K D me.val kv.2)->
      (p0E P kt es k=qB none->(vH kt v mes).run P w= .ok none w)/\ ∀s,p0E P kt es k=qB (qB s)-> ∃i x,(vH kt v mes).run P w= .ok (qB (i,x)) w/\Rep w K D x s:=by
  cases k with
  |agg cs=>
    simp only[t0z,aa]at h;obtain⟨hag,hck⟩:=h;refine⟨λe=>E0z 9 kt _ hck v hr e 10000 cV,λmes es hl hre=> ?_⟩;obtain⟨f1,f2⟩:=A0m (P:=P) (kt:=kt) hr mes es 0 hl hre
    have hfk:(vH kt v mes).run P w=(qH kt v mes 0).run P w:=by
      unfold H0g at hag;split at hag;rename_i fs hu
      cases mes with
      |nil=>simp[vH,run_underlying hu,oE,oF,qH]
      |cons me mes=>simp[vH,run_underlying hu,oE,oF,wI]
      rename_i ln el hu
      cases mes with
      |nil=>simp[vH,run_underlying hu,oE,oF,qH]
      |cons me mes=>simp[vH,run_underlying hu,oE,oF,wI]
      cases hag
    rw[hfk];exact⟨f1,f2⟩
  |undef=>exact f0j h hr (λ_=>rfl)
  |bool b=>exact f0j h hr (λ_=>rfl)
  |int q x=>exact f0j h hr (λ_=>rfl)
  |str x=>exact f0j h hr (λ_=>rfl)
  |nl=>exact f0j h hr (λ_=>rfl)
  |lst a b c=>exact f0j h hr (λ_=>rfl)
  |ep cs=>exact f0j h hr (λ_=>rfl)
  |tup cs=>exact f0j h hr (λ_=>rfl)
  |ptr a b=>exact f0j h hr (λ_=>rfl)
  |vc a=>exact f0j h hr (λ_=>rfl)
  |sl a b c d=>exact f0j h hr (λ_=>rfl)
  |mp a=>exact f0j h hr (λ_=>rfl)
  |fn f a b=>exact f0j h hr (λ_=>rfl)
  |nilp=>exact f0j h hr (λ_=>rfl)
  |yld a=>exact f0j h hr (λ_=>rfl)
theorem u0w (h:Rep w K D v (.mp i)): ∃r c m,v= .map (qB r)/\D i=qB (.at r c m):=by
  cases h with
  |mp _ r c m hd=>exact⟨r,c,m,rfl,hd⟩
theorem u0E(h:HInv w K D H) (ho:o.op= .makeMap t none)(hidx:CanNew H idx):q0T P w K D H o a (.mp idx) (i0h H idx (.map [])):=by
  have hold: ∀b,b<w.heap.size->(w.alloc (.map #[] 0)).heap[b]?=w.heap[b]?:=λb hb=>by show(w.heap.push _)[b]?=_;rw[bI,wC cV]
  have hK0:K w.heap.size=0:=by
    rcases br (K w.heap.size)with h0|h0;exact h0;have:=h.kw w.heap.size cV;omega
  obtain⟨g,hi⟩:=place (w':=w.alloc (.map #[] 0)) (en:= .map []) (b:=w.heap.size) (c:=0) (m:=0) h hidx (x:=none) dB (.inl (aj _)) rfl rfl rfl dB (λb' _ hlt=>hold b' hlt)
    (λhr=>⟨_, #[],0,by simp[g0L],hK0,(by show(w.heap.push _)[w.heap.size]?=_;simp),rfl,⟨rfl,λj me hm=>by simp at hm⟩,λj me kv hm _=>by simp at hm⟩)
  rw[h0h]at g hi;refine⟨.map (qB w.heap.size),w.alloc (.map #[] 0), .inl ?_,⟨K,_,g,hi, .mp idx w.heap.size 0 0 (by simp[g0L])⟩⟩;unfold execOp;rw[ho];rfl
theorem x0B(h:HInv w K D H)(hs:Slots n w K D ρ a.tmps) {z:Operand} (ho:o.op= .insert t x y z\/o.op= .mapUpdate t x y z)(hx:Operand.inB n x=yB)(hy:Operand.inB n y=yB)(hz:Operand.inB n z=yB)
    {ef:Eff} (he:m0e P t (a0G ρ x) (a0G ρ y) (a0G ρ z) H=qB ef):q0T P w K D H o a ef.v (b0e H ef.wr):=by
  unfold m0e at he
  split at he
  · rename_i kt et i k v hu hxe hye hze
    split at he
    · rename_i es hH
      split at he
      · rename_i hkey
        split at he
        case h_3=>cases he
        case h_2 hfn=>
          have hint: ∃kd x',k= .int kd x':=by cases k<;>first|(cases he;done)|exact⟨_,_,rfl⟩
          obtain⟨kd,x',rfl⟩:=hint;cases he;obtain⟨r,c,m,hvx,hd⟩:=u0w (a0i hs hx hxe);obtain⟨r',mes,clock,h1,h2,h3,h4,hB,h5⟩:=h.ent i _ hH;rw[h1]at hd;cases hd;have hky:=a0i hs hy hye;have hvz:=a0i hs hz hze;obtain⟨d,hdu,hik,hsm⟩:=t0x (P:=P) hkey hky;have hck:=MapKept.run_checkKey (w:=w) hdu hik vB 9999;obtain⟨j,me,kv,m1,m2,m3,m4,m5⟩:=E0d v hsm mes.toList es 0 (by simpa using h4) (λj me kv hm hk=>h5 j me kv (by simpa using hm) hk) _ hfn;have hkeep:=MapKept.run_keyThatStays (P:=P) (w:=w) hik;have hfind:=MapKept.run_findKey (w:=w) hdu m4;obtain⟨kv1,kv2⟩:=kv;obtain⟨e1,e2⟩:=h5 j me _ (by simpa using m1) m2;simp only at e1 e2 m3;have hlt:r<w.heap.size:=(ak.1 h3).1;generalize hkv:a.eval y=vk at hky hck hfind hkeep hik hsm m4;generalize hvv:a.eval z=vv at hvz
          have hkk: ∀mk,Rep w K D mk kv1->mk=vk/\kv1= .int kd x':=by
            intro mk e1;cases hky;cases e1<;>simp only[k0U]at m3<;>first|(cases m3;done)|skip
            rename_i q2 y2;by_cases hq:kd=q2;subst hq;rw[qC rfl]at m3;have:x'=y2:=by simpa using m3
            subst this;exact⟨rfl,rfl⟩;rw[wC hq]at m3;cases m3
          obtain⟨hk1,hk2⟩:=hkk _ e1;have hmj:mes[j]?=qB me:=by simpa using m1
          have hrun:(Instr.mapUpdate t (a.eval x) (a.eval y) (a.eval z)).run P w= .ok () { w with heap:=w.heap.setIfInBounds r (.map (mes.modify j λe=> { e with key:=vk,val:=vv }) clock) } :=by
            rw[hvx,hkv,hvv];simp[Instr.mapUpdate,run_underlying hu,MapKept.run_getObj_map h3,hck,hfind,hmj,hk1,hkeep,MapKept.run_setObj_map _ h3,oE]
          obtain⟨g,hiv⟩:=modify (w':= { w with heap:=w.heap.setIfInBounds r (.map (mes.modify j λe=> { e with key:=vk,val:=vv }) clock) }) (en':= .map (F0g es (.int kd x') v)) h hH rfl rfl h1 rfl rfl rfl dB
            (λb' hb'=>by simp[Ne.symm hb'])
            (λhr=>⟨r,mes.modify j (λe=> { e with key:=vk,val:=vv }),clock,h1,h2,by simp[hlt],by rw[m5];simpa using h4,⟨by simp[hB.1],λq me' hm=>by
              rw[cx]at hm;by_cases hj:j=q;subst hj;rw[qC rfl,hmj]at hm;simp only[aT,ah]at hm;subst hm;exact hB.2 _ me hmj;rw[wC hj]at hm
              exact hB.2 q me' hm⟩,λq me' kv' hm hk=>by
              rw[cx]at hm;rw[m5,aN]at hk;by_cases hj:j=q;subst hj;rw[qC rfl,hmj]at hm;simp only[aT,ah]at hm;subst hm;rw[qC rfl,qC (ab.1 m2).1]at hk;simp only[ah]at hk;subst hk;rw[hk2];exact⟨hr _ _ hky,hr _ _ hvz⟩;rw[wC hj]at hm hk
              exact⟨hr _ _ (h5 q me' kv' hm hk).1,hr _ _ (h5 q me' kv' hm hk).2⟩⟩)
          refine⟨undef, { w with heap:=w.heap.setIfInBounds r (.map (mes.modify j λe=> { e with key:=vk,val:=vv }) clock) }, .inr ⟨?_,rfl⟩, ?_⟩
          · unfold execOp
            rcases ho with ho|ho<;>rw[ho]<;>simp[hrun]
          simp only[b0e,i0h,qC (ab.1 hH).1];exact⟨K,D,g,hiv, .undef _⟩
        rename_i hfn;cases he;obtain⟨r,c,m,hvx,hd⟩:=u0w (a0i hs hx hxe);obtain⟨r',mes,clock,h1,h2,h3,h4,hB,h5⟩:=h.ent i _ hH;rw[h1]at hd;cases hd;have hky:=a0i hs hy hye;have hvz:=a0i hs hz hze;obtain⟨hck,hfd⟩:=D0K (P:=P) hkey hky;obtain⟨f1,_⟩:=hfd mes.toList es (by simpa using h4) (λj me kv hm hk=>h5 j me kv (by simpa using hm) hk);have hfind:=f1 hfn;have hlt:r<w.heap.size:=(ak.1 h3).1;generalize hkv:a.eval y=vk at hky hck hfind;generalize hvv:a.eval z=vv at hvz
        have hrun:(Instr.mapUpdate t (a.eval x) (a.eval y) (a.eval z)).run P w= .ok () { w with heap:=w.heap.setIfInBounds r (.map (mes.push { key:=vk,val:=vv,born:=clock }) (clock+1)) } :=by
          rw[hvx,hkv,hvv];simp[Instr.mapUpdate,run_underlying hu,MapKept.run_getObj_map h3,hck,hfind,MapKept.run_setObj_map _ h3,oE]
        obtain⟨g,hiv⟩:=modify (w':= { w with heap:=w.heap.setIfInBounds r (.map (mes.push { key:=vk,val:=vv,born:=clock }) (clock+1)) }) (en':= .map (es++ [(k,v)])) h hH rfl rfl h1 rfl rfl rfl dB
          (λb' hb'=>by simp[Ne.symm hb'])
          (λhr=>⟨r,mes.push { key:=vk,val:=vv,born:=clock },clock+1,h1,h2,by simp[hlt],by simp[h4],⟨by simp[hB.1],λj me hm=>by
            rw[bI]at hm;split at hm;rename_i hj;cases hm;rw[hB.1];exact hj.symm
            exact hB.2 j me hm⟩,λj me kv hm hk=>by
            rw[bI]at hm;rw[aL]at hk;by_cases hj:j<es.length;rw[qC hj]at hk;rw[wC cV]at hm;exact⟨hr _ _ (h5 j me kv hm hk).1,hr _ _ (h5 j me kv hm hk).2⟩;rw[wC hj]at hk
            have hj0:j-es.length=0:=by
              have:=(ab.1 hk).1;simp at this;omega
            rw[hj0]at hk;simp only[ci,ah]at hk;subst hk;rw[qC cV]at hm;simp only[ah]at hm;subst hm
            exact⟨hr _ _ hky,hr _ _ hvz⟩⟩)
        refine⟨undef, { w with heap:=w.heap.setIfInBounds r (.map (mes.push { key:=vk,val:=vv,born:=clock }) (clock+1)) }, .inr ⟨?_,rfl⟩, ?_⟩
        · unfold execOp
          rcases ho with ho|ho<;>rw[ho]<;>simp[hrun]
        simp only[b0e,i0h,qC (ab.1 hH).1];exact⟨K,D,g,hiv, .undef _⟩
      cases he
    cases he
  cases he
theorem q0D {sm sk sv:Option SV} {H':a0e} {ef:Eff} (he:m0e P t sm sk sv H=qB ef)(hr: ∀i∈ef.rd,H'[i]?=H[i]?):m0e P t sm sk sv H'=qB ef:=by
  unfold m0e at he⊢
  split at he
  · rename_i kt et i k v hu
    split at he
    · rename_i es hH
      split at he
      · rename_i hkey
        split at he
        case h_3=>cases he
        case h_2 hfn=>
          have hint: ∃kd x',k= .int kd x':=by cases k<;>first|(cases he;done)|exact⟨_,_,rfl⟩
          obtain⟨kd,x',rfl⟩:=hint;cases he;rw[hr i dB,hH];simp only;rw[qC hkey,hfn]
        rename_i hfn;cases he;rw[hr i dB,hH];simp only;rw[qC hkey,hfn]
      cases he
    cases he
  cases he
theorem v0C {sm sk:Option SV} {ok:Bool} {H':a0e} {ef:Eff} (he:k0Y P t sm sk ok H=qB ef)(hr: ∀i∈ef.rd,H'[i]?=H[i]?):k0Y P t sm sk ok H'=qB ef:=by
  unfold k0Y at he⊢
  split at he
  · rename_i kt et i k hu
    split at he
    · rename_i es hH
      split at he
      · rename_i hkey
        have hrd:ef.rd=[i]:=by
          split at he<;>first|(cases he;rfl)|cases he
        rw[hr i (by rw[hrd];simp),hH];simp only;rw[qC hkey];exact he
      cases he
    cases he
  cases he
theorem B0S {s:SV} (h:A0A P t=qB s): ∃z,(zeroValue t).run P w= .ok z w/\Rep w K D z s:=by
  unfold A0A at h;split at h;rename_i i hi;split at h;rename_i z hz;cases h;refine⟨z,by simp[zeroValue,typeInfo,hi,hz], ?_⟩;split;rename_i c hc;exact m0o hc;split;rename_i a cs _ hcs;have h1:=q0J (w:=w) (K:=K) (D:=D) hcs;have h2:(Value.agg a).cells=a:=rfl;rw[h2]at h1;have:=Rep.agg (w:=w) (K:=K) (D:=D) a.toList cs h1.len h1.one h1.rep
  rwa [Array.toArray_toList]at this
  exact .undef _;cases h;cases h
theorem u0Q {ok b:Bool} {s:SV} (h:Rep w K D v s):Rep w K D (if ok then .tuple #[v, .bool b]else v) (m0v ok s b):=by
  cases ok with
  |false=>exact h
  |true=>
    refine .tup [v, .bool b] [s, .bool b] rfl (λj x c hx hc=> ?_)
    match j with
    |0=>simp at hx hc;subst hx;subst hc;exact h
    |1=>simp at hx hc;subst hx;subst hc;exact .bool _
    |j+2=>simp at hx
theorem D0u(h:HInv w K D H)(hs:Slots n w K D ρ a.tmps) {ok:Bool} (ho:o.op= .lookup t x y ok)(hx:Operand.inB n x=yB)(hy:Operand.inB n y=yB)
    {ef:Eff} (he:k0Y P t (a0G ρ x) (a0G ρ y) ok H=qB ef):q0T P w K D H o a ef.v (b0e H ef.wr):=by
  unfold k0Y at he;split at he;rename_i kt et i k hu hxe hye;split at he;rename_i es hH;split at he;rename_i hkey;obtain⟨r,c,m,hvx,hd⟩:=u0w (a0i hs hx hxe);obtain⟨r',mes,clock,h1,h2,h3,h4,hB,h5⟩:=h.ent i _ hH;rw[h1]at hd;cases hd;have hky:=a0i hs hy hye;obtain⟨hck,hfd⟩:=D0K (P:=P) hkey hky;obtain⟨f1,f2⟩:=hfd mes.toList es (by simpa using h4) (λj me kv hm hk=>h5 j me kv (by simpa using hm) hk);generalize hkv:a.eval y=vk at hky hck f1 f2;have hex:execOp a.eval o=(do pure (Next.value (<-Instr.lookup t (a.eval x) (a.eval y) ok)):Sem Next):=by unfold execOp;rw[ho]
  split at he;rename_i zz v hf;cases he;obtain⟨q,vv,hq,hrv⟩:=f2 v hf;refine g0s h (v:=if ok then .tuple #[vv, .bool yB]else vv) ?_ (u0Q hrv);rw[hex];refine b0q ?_;rw[hvx,hkv];simp[Instr.lookup,run_underlying hu,MapKept.run_getObj_map h3,hck,hq,oE];rename_i z hf hz;cases he;have hq:=f1 hf;obtain⟨vz,hzr,hrz⟩:=B0S (w:=w) (K:=K) (D:=D) hz;refine g0s h (v:=if ok then .tuple #[vz, .bool vB]else vz) ?_ (u0Q hrz);rw[hex];refine b0q ?_;rw[hvx,hkv];simp[Instr.lookup,run_underlying hu,MapKept.run_getObj_map h3,hck,hq,hzr,oE];cases he;cases he;cases he;cases he
end
end
section
variable [Inhabited GT]
section
variable {P : Program} {n : Nat} {w : World} {K : Nat -> Nat} {D : DM} {H : a0e} {ρ : Env} {a : Act} {o : Oper} {idx : Nat}
theorem s0N {en en':Ent} (h:H[i]?=qB en'):i0h H i en=H.set i en:=by
  unfold i0h;rw[qC (ab.1 h).1]
theorem B0t(h:HInv w K D H)(hs:Slots n w K D ρ a.tmps)(hb:Op.inB n o.op=yB)(hidx:CanNew H idx) {ef:Eff} (he:a0q P o ρ H idx=qB ef):q0T P w K D H o a ef.v (b0e H ef.wr):=by
  unfold Op.inB at hb;rw[aQ]at hb;cases ho:o.op
  case box e x=>
    simp only[a0q,ho]at he;split at he;rename_i cs hc;cases he;exact L0y h hs ho (hb x (by simp[ho,oB])) hidx hc;cases he
  case alloc t=>
    simp only[a0q,ho]at he;split at he;rename_i cs hc;cases he;exact G0E h ho hidx hc;cases he
  case load t x=>
    simp only[a0q,ho]at he;split at he;rename_i i off hxe;split at he;rename_i cs hc
    cases hv:b0w P t (cs.drop off)with
    |none=>rw[hv]at he;cases he
    |some v=>rw[hv]at he;cases he;exact G0a h hs ho (hb x (by simp[ho,oB])) hxe hc hv
    cases he;cases he
  case store t x y=>
    simp only[a0q,ho]at he
    split at he
    · rename_i i off ps hxe hye
      split at he
      · rename_i en hH
        split at he
        · rename_i cs hc
          split at he<;>cases he
          rename_i hcond;obtain⟨c1,c2,c3,c4⟩:=hcond;simp only[b0e,s0N hH];exact C0s h hs ho (hb x (by simp[ho,oB])) (hb y (by simp[ho,oB])) hxe hye hH hc c1 c2 c3 c4
        cases he
      cases he
    cases he
  case indexAddr t x y=>
    simp only[a0q,ho]at he
    split at he
    · rename_i e i kk j hu hxe hye
      split at he
      · rename_i nn k e' cs hH
        split at he<;>cases he
        rename_i hc;obtain⟨c1,c2,c3,c4⟩:=hc;exact y0R h hs ho (hb x (by simp[ho,oB])) (hb y (by simp[ho,oB])) hu hxe hye hH c1 c2 c3 c4
      cases he
    cases he
  case slice t x lo hi mx=>
    simp only[a0q,ho]at he
    split at he
    · rename_i len e i off hu hxe
      split at he
      · rename_i hh hbd
        split at he<;>cases he
        rename_i hc;obtain⟨c1,c2,c3⟩:=hc;exact y0o h hs ho (hb x (by simp[ho,oB])) (λy hy=>hb y (by subst hy;simp[ho,oB])) hu hxe hbd c1 c2 c3
      cases he
    cases he
  case buildSlice t len parts=>
    have hpb: ∀p∈parts.toList,Operand.inB n p.2=true:=λp hp=>hb p.2 (by simp only[ho,oB,cM,aX];exact⟨p,hp,rfl⟩)
    simp only[a0q,ho]at he
    split at he
    · rename_i e hu
      split at he
      · rename_i zs hz
        split at he
        · rename_i hc
          obtain⟨hok,hmax⟩:=hc
          split at he
          · rename_i cs hf
            obtain⟨cells',hrun,hcr,hcl⟩:=w0c (P:=P) h hs ho hpb hu hz hok hmax hf;obtain⟨i',z',hi',hz',hzs,hk,hk0,hby⟩:=h0a hok;split at he;rename_i h0;cases he;subst h0;obtain⟨g,hiv⟩:=HInv.push (w':=w.alloc (.cells cells' e)) (K':=K) h rfl rfl rfl rfl (λ_ _=>rfl);exact⟨_,_, .inl hrun,⟨K,D,g,hiv, .nl _⟩⟩
            · split at he<;>cases he
              rename_i hpl
              have hg:=y0K (w':=w.alloc (.cells cells' e)) (L:=cells') (vs:=cells'.toList) (rest:=[]) (cap:=len) (len:=len) (k:=P.cellsOf e) (e:=e) h hidx none dB hcr hpl dB rfl rfl rfl rfl hk0 (by simpa using hcl) (aj _) (by simpa using hcl) (by
                have:len*1<=len*P.cellsOf e:=Nat.mul_le_mul_left _ hk0
                unfold maxLen;omega)
              rw[h0h]at hg;exact⟨_,_, .inl hrun,hg⟩
          cases he
        cases he
      cases he
    cases he
  case binOp op t x y ty=>
    simp only[a0q,ho]at he;exact L0p h hs ho (hb x (by simp[ho,oB])) (hb y (by simp[ho,oB])) he
  case makeMap t r=>
    cases r with
    |none=>
      simp only[a0q,ho]at he;split at he;cases he;exact u0E h ho hidx;cases he
    |some r=>simp only[a0q,ho]at he;cases he
  case insert t m k v=>
    simp only[a0q,ho]at he;exact x0B h hs (.inl ho) (hb m (by simp[ho,oB])) (hb k (by simp[ho,oB])) (hb v (by simp[ho,oB])) he
  case mapUpdate t m k v=>
    simp only[a0q,ho]at he;exact x0B h hs (.inr ho) (hb m (by simp[ho,oB])) (hb k (by simp[ho,oB])) (hb v (by simp[ho,oB])) he
  case lookup t m k ok=>
    simp only[a0q,ho]at he;exact D0u h hs ho (hb m (by simp[ho,oB])) (hb k (by simp[ho,oB])) he
  case makeSlice t x y=>
    simp only[a0q,ho]at he
    split at he
    · rename_i e kl l kc c hu hxe hye
      split at he
      · rename_i zs hz
        split at he<;>cases he
        rename_i hc;exact x0p h hs ho (hb x (by simp[ho,oB])) (hb y (by simp[ho,oB])) hu hidx hxe hye hz hc.1 hc.2.1 hc.2.2.1 hc.2.2.2.1 hc.2.2.2.2
      cases he
    cases he
  case convert src dst x=>
    simp only[a0q,ho]at he;split at he;rename_i e s hu1 hu2 hxe;split at he;rename_i he8;cases he;exact A0F h hs ho (hb x (by simp[ho,oB])) hu1 hu2 he8 hxe;rename_i he8;cases he;exact A0E h hs ho (hb x (by simp[ho,oB])) hu1 hu2 he8 hxe;cases he;rename_i s hu1 hu2 hxe
    cases he;exact F0j h hs ho (hb x (by simp[ho,oB])) hu1 hu2 hxe
    · rename_i e e' i hu1 hu2 hxe
      split at he
      · rename_i nn k e2 cs he8 hH
        split at he<;>cases he
        rename_i hc;simp only[b0e,s0N hH];exact z0i h hs ho (hb x (by simp[ho,oB])) hc.1 hu1 he8 hxe hH hc.2
      cases he
    · rename_i e s hu1 hu2 hxe
      split at he
      · rename_i m cs rd he8 hsc
        split at he<;>cases he
        rename_i hc;exact F0i h hs ho (hb x (by simp[ho,oB])) hu1 hu2 he8 hxe hsc hc.1 hc.2
      · rename_i m cs rd he8 hsc
        split at he<;>cases he
        rename_i hc;exact C0e h hs ho (hb x (by simp[ho,oB])) hu1 hu2 he8 hxe hsc hc.1 hc.2
      cases he
    cases he
  case call c=>
    have hbc: ∀x∈c.args,Operand.inB n x=true:=λx hx=>hb x (by simp only[ho,oB,Call.operands];exact bn.2 (.inr hx))
    simp only[a0q,ho]at he;split at he;rename_i hcal;exact E0K h hs ho hcal hbc hidx he;rename_i hcal;exact J0x h hs ho hcal hbc he;rename_i hcal;split at he;rename_i x t ha ht;split at he;rename_i e i hu hxe;split at he;rename_i nn k e' cs hH;cases he;exact D0F h hs ho hcal ha ht (hbc x (by rw[<-aK,ha];simp)) hu hxe hH;cases he;cases he;cases he;rename_i hcal;split at he;rename_i x r ha;split at he;rename_i k ax hxe
    cases hv:D0o vB k ax ρ r with
    |none=>rw[hv]at he;cases he
    |some v=>rw[hv]at he;cases he;exact x0j (big:=vB) h hs ho hcal ha hbc hxe hv
    cases he;cases he;rename_i hcal;split at he;rename_i x r ha;split at he;rename_i k ax hxe
    cases hv:D0o yB k ax ρ r with
    |none=>rw[hv]at he;cases he
    |some v=>rw[hv]at he;cases he;exact x0j (big:=yB) h hs ho hcal ha hbc hxe hv
    cases he;cases he;cases he
  all_goals(simp only[a0q,ho]at he;cases he)
theorem z0U(h:HInv w K D H)(hs:Slots n w K D ρ a.tmps)(hb:Op.inB n o.op=yB)(hidx:CanNew H idx) {ef:Eff} (he:a0H P o ρ H idx=qB ef):q0T P w K D H o a ef.v (b0e H ef.wr):=by
  unfold a0H at he;split at he;rename_i v hv;cases he;obtain⟨r,hr,hrep⟩:=B0a hs hb hv;exact g0s h hr hrep;exact B0t h hs hb hidx he
/-! What an operation looks at. -/
theorem t0F {ρ ρ':Env} {place:Nat->Option (Nat×Nat)} : ∀(parts:List (Nat×Operand)) (cs:List SV),(∀p∈parts,a0G ρ p.2=a0G ρ' p.2)->q0G ρ place cs parts=q0G ρ' place cs parts:=by
  intro parts
  induction parts with
  |nil=>intro cs _;rfl
  |cons p rest ih=>
    intro cs h;obtain⟨i,x⟩:=p;have hx:=h (i,x) (aw ..);simp only at hx;simp only[q0G,hx];split;split;exact ih _ λp hp=>h p (ao _ hp)
    rfl;rfl
theorem r0m {ρ ρ':Env} : ∀(l:List Operand),(∀x∈l,a0G ρ x=a0G ρ' x)->l.mapM (a0G ρ)=l.mapM (a0G ρ'):=by
  intro l
  induction l with
  |nil=>intro _;rfl
  |cons x l ih=>
    intro h;simp only[cI,h x (aw ..),ih λy hy=>h y (ao _ hy)]
theorem u0C {ρ ρ':Env} {big:Bool} {k:IntKind} : ∀(l:List Operand) (acc:Int),(∀x∈l,a0G ρ x=a0G ρ' x)->D0o big k acc ρ l=D0o big k acc ρ' l:=by
  intro l
  induction l with
  |nil=>intro acc _;rfl
  |cons x l ih=>
    intro acc h;simp only[D0o,h x (aw ..)];split;split;exact ih _ λy hy=>h y (ao _ hy)
    rfl;rfl
theorem o0d {ρ ρ':Env} {l:Option Operand} {d:Int} (hl: ∀y,l=qB y->a0G ρ y=a0G ρ' y):i0Z ρ l d=i0Z ρ' l d:=by
  cases l with
  |none=>rfl
  |some y=>simp only[i0Z,hl y rfl]
theorem r0O (h:x∈c.args.toList):x∈c.operands:=by
  unfold Call.operands;exact bn.2 (.inr (aK.1 h))
theorem p0b {ρ ρ':Env} (h: ∀x∈o.op.operands,a0G ρ x=a0G ρ' x):a0k P o ρ=a0k P o ρ':=by
  cases ho:o.op
  case build t parts=>
    have hp: ∀p∈parts.toList,a0G ρ p.2=a0G ρ' p.2:=λp hp=>h p.2 (by simp only[ho,oB,cM,aX];exact⟨p,hp,rfl⟩)
    simp only[a0k,ho,t0F parts.toList _ hp]
  case slice t x lo hi mx=>
    simp only[a0k,ho,h x (by simp[ho,oB])];simp only[o0d (l:=lo) (λy hy=>h y (by subst hy;simp[ho,oB])),o0d (l:=hi) (λy hy=>h y (by subst hy;simp[ho,oB]))]
  case makeFunc f p q=>
    simp only[a0k,ho,r0m p.toList (λx hx=>h x (by simp only[ho,oB];exact bn.2 (.inl (aK.1 hx)))),
      r0m q.toList (λx hx=>h x (by simp only[ho,oB];exact bn.2 (.inr (aK.1 hx))))]
  case call c=>
    have hc: ∀x∈c.args.toList,a0G ρ x=a0G ρ' x:=λx hx=>h x (by simp only[ho,oB];exact r0O hx)
    simp only[a0k,ho,z0m];split;split;rename_i x t hargs htys;rw[hc x (by rw[hargs];simp)];rfl;rfl
  case pick c x y=>simp only[a0k,ho,h c (by simp[ho,oB]),h x (by simp[ho,oB]),h y (by simp[ho,oB])]
  case binOp op t x y u=>simp only[a0k,ho,h x (by simp[ho,oB]),h y (by simp[ho,oB])]
  case indexAddr t x i=>simp only[a0k,ho,h x (by simp[ho,oB]),h i (by simp[ho,oB])]
  case index t x i=>simp only[a0k,ho,h x (by simp[ho,oB]),h i (by simp[ho,oB])]
  case move x=>simp only[a0k,ho,h x (by simp[ho,oB])]
  case assign x=>simp only[a0k,ho,h x (by simp[ho,oB])]
  case unOp op t x=>simp only[a0k,ho,h x (by simp[ho,oB])]
  case convert s d x=>simp only[a0k,ho,h x (by simp[ho,oB])]
  case extract x i=>simp only[a0k,ho,h x (by simp[ho,oB])]
  case nilCheck x=>simp only[a0k,ho,h x (by simp[ho,oB])]
  case fieldAddr t x f=>simp only[a0k,ho,h x (by simp[ho,oB])]
  case field t x f=>simp only[a0k,ho,h x (by simp[ho,oB])]
  case load t x=>simp only[a0k,ho,h x (by simp[ho,oB])]
  all_goals simp only[a0k,ho]
theorem l0k {H H':a0e} {s:SV} {cs:List SV} (hs:w0l k s H=qB (m,cs,rd))(hr: ∀i∈rd,H'[i]?=H[i]?):w0l k s H'=qB (m,cs,rd):=by
  unfold w0l at hs⊢;split;exact hs;exact hs;exact hs
  · rename_i j
    simp only at hs
    split at hs
    · rename_i n k' e cs' hj
      split at hs<;>cases hs
      rename_i hc;rw[hr j dB,hj];simp only;rw[qC hc]
    cases hs
  · rename_i j off n k'
    simp only at hs
    split at hs
    · rename_i cs' hj
      split at hs<;>cases hs
      rename_i hc;rw[hr j dB,hj];simp only;rw[qC hc]
    cases hs
  · rename_i h1 h2 h3 h4 h5
    cases s<;>first|exact(h1 _ _ _ rfl).elim|exact(h2 rfl).elim|exact(h3 _ rfl).elim|exact(h4 _ rfl).elim|exact(h5 _ _ _ _ rfl).elim|cases hs
theorem u0q {P:Program} {H H':a0e} {e tx:Nat} {s:SV} {cs:List SV} (hs:A0J P e k tx s H=qB (m,cs,rd))(hr: ∀i∈rd,H'[i]?=H[i]?):A0J P e k tx s H'=qB (m,cs,rd):=by
  unfold A0J at hs⊢;split at hs;exact hs;split at hs;rename_i hst;rw[qC hst];exact l0k hs hr;cases hs
theorem n0z {ρ ρ':Env} {H H':a0e} {ef:Eff} (h: ∀x∈o.op.operands,a0G ρ x=a0G ρ' x)(he:a0H P o ρ H idx=qB ef)(hr: ∀i∈ef.rd,H'[i]?=H[i]?):a0H P o ρ' H' idx=qB ef:=by
  unfold a0H at he⊢;rw[<-p0b h];split;rename_i v hv;rw[hv]at he;exact he
  · rename_i hn
    rw[hn]at he;simp only at he;cases ho:o.op
    case box e x=>
      simp only[a0q,ho]at he⊢;rw[<-h x (by simp[ho,oB])];exact he
    case alloc t=>simp only[a0q,ho]at he⊢;exact he
    case load t x=>
      simp only[a0q,ho]at he⊢;rw[<-h x (by simp[ho,oB])];split at he;rename_i i off hxe;split at he;rename_i cs hc
      cases hv:b0w P t (cs.drop off)with
      |none=>rw[hv]at he;cases he
      |some v=>
        rw[hv]at he;cases he;rw[hr i dB,hc];simp[hv]
      cases he;cases he
    case store t x y=>
      simp only[a0q,ho]at he⊢;rw[<-h x (by simp[ho,oB]),<-h y (by simp[ho,oB])]
      split at he
      · rename_i i off ps hxe hye
        split at he
        · rename_i en hH
          split at he
          · rename_i cs hc
            split at he<;>cases he
            rename_i hcond;rw[hr i dB,hH];simp only[hc];rw[qC hcond]
          cases he
        cases he
      cases he
    case indexAddr t x y=>
      simp only[a0q,ho]at he⊢;rw[<-h x (by simp[ho,oB]),<-h y (by simp[ho,oB])]
      split at he
      · rename_i e i kk j hu hxe hye
        split at he
        · rename_i nn k e' cs hH
          split at he<;>cases he
          rename_i hc;rw[hr i dB,hH];simp only;rw[qC hc]
        cases he
      cases he
    case slice t x lo hi mx=>
      simp only[a0q,ho]at he⊢;rw[<-h x (by simp[ho,oB])];simp only[<-o0d (l:=hi) (λy hy=>h y (by subst hy;simp[ho,oB]))];exact he
    case buildSlice t len parts=>
      have hp: ∀p∈parts.toList,a0G ρ p.2=a0G ρ' p.2:=λp hp=>h p.2 (by simp only[ho,oB,cM,aX];exact⟨p,hp,rfl⟩)
      simp only[a0q,ho]at he⊢;simp only[<-t0F parts.toList _ hp];exact he
    case binOp op t x y ty=>
      simp only[a0q,ho]at he⊢;rw[<-h x (by simp[ho,oB]),<-h y (by simp[ho,oB])];exact he
    case makeMap t r=>cases r<;>(simp only[a0q,ho]at he⊢;exact he)
    case insert t m k v=>
      simp only[a0q,ho]at he⊢;rw[<-h m (by simp[ho,oB]),<-h k (by simp[ho,oB]),<-h v (by simp[ho,oB])];exact q0D he hr
    case mapUpdate t m k v=>
      simp only[a0q,ho]at he⊢;rw[<-h m (by simp[ho,oB]),<-h k (by simp[ho,oB]),<-h v (by simp[ho,oB])];exact q0D he hr
    case lookup t m k ok=>
      simp only[a0q,ho]at he⊢;rw[<-h m (by simp[ho,oB]),<-h k (by simp[ho,oB])];exact v0C he hr
    case makeSlice t x y=>
      simp only[a0q,ho]at he⊢;rw[<-h x (by simp[ho,oB]),<-h y (by simp[ho,oB])];exact he
    case convert src dst x=>
      simp only[a0q,ho]at he⊢;rw[<-h x (by simp[ho,oB])];split at he;exact he;exact he
      · rename_i e e' i hu1 hu2 hxe
        split at he
        · rename_i nn k e2 cs he8 hH
          split at he<;>cases he
          rename_i hc;rw[hr i dB,hH];simp only[he8];rw[qC hc]
        cases he
      · rename_i e s hu1 hu2 hxe
        split at he
        · rename_i m cs rd he8 hsc
          split at he<;>cases he
          rename_i hc;rw[l0k hsc hr];simp only[he8];rw[qC hc]
        · rename_i m cs rd he8 hsc
          split at he<;>cases he
          rename_i hc;rw[l0k hsc hr];simp only[he8];rw[qC hc]
        cases he
      cases he
    case call c=>
      have hc: ∀x∈c.args.toList,a0G ρ x=a0G ρ' x:=λx hx=>h x (by simp only[ho,oB];exact r0O hx)
      simp only[a0q,ho]at he⊢
      split at he
      · rename_i hcal
        unfold o0g at he⊢
        split at he
        · rename_i x y t tx hargs htys
          rw[<-hc x (by rw[hargs];simp),<-hc y (by rw[hargs];simp)]
          split at he
          · rename_i e sy hu hxe hye
            split at he
            · rename_i m cs2 rd hsc
              split at he<;>cases he
              rename_i hcd;rw[u0q hsc hr];simp only;rw[qC hcd]
            cases he
          · rename_i e i0 sy hu hxe hye
            split at he
            · rename_i nn k e' cs hH
              split at he
              · rename_i m cs2 rd hsc
                split at he<;>cases he
                rename_i hcd;rw[hr i0 dB,hH];simp only;rw[u0q hsc (λi hi=>hr i (by simp[hi]))];simp only;rw[qC hcd]
              cases he
            cases he
          cases he
        cases he
      · rename_i hcal
        unfold E0u at he⊢
        split at he
        · rename_i x y t tx hargs htys
          rw[<-hc x (by rw[hargs];simp),<-hc y (by rw[hargs];simp)]
          split at he
          · rename_i e i0 sy hu hxe hye
            split at he
            · rename_i nn k e' cs hH
              split at he
              · rename_i m cs2 rd hsc
                split at he<;>cases he
                rename_i hcd;rw[hr i0 dB,hH];simp only;rw[l0k hsc (λi hi=>hr i (by simp[hi]))];simp only;rw[qC hcd]
              cases he
            cases he
          · rename_i e i0 off nn k sy hu hxe hye
            split at he
            · rename_i cs hH
              split at he
              · rename_i m cs2 rd hsc
                split at he<;>cases he
                rename_i hcd;rw[hr i0 dB,hH];simp only;rw[l0k hsc (λi hi=>hr i (by simp[hi]))];simp only;rw[qC hcd]
              cases he
            cases he
          cases he
        cases he
      rename_i hcal;split at he;rename_i x t ha ht;rw[<-hc x (by rw[ha];simp)];split at he;rename_i e i hu hxe;split at he;rename_i nn k e' cs hH;cases he;rw[hr i dB,hH];cases he;cases he;cases he;rename_i hcal;split at he;rename_i x r ha;rw[<-hc x (by rw[ha];simp)];split at he;rename_i k ax hxe;rw[<-u0C r ax (λy hy=>hc y (by rw[ha];simp[hy]))];exact he;cases he;cases he;rename_i hcal;split at he;rename_i x r ha;rw[<-hc x (by rw[ha];simp)];split at he;rename_i k ax hxe;rw[<-u0C r ax (λy hy=>hc y (by rw[ha];simp[hy]))];exact he;cases he;cases he;cases he
    all_goals(simp only[a0q,ho]at he;cases he)
end
end
section
variable [Inhabited GT]
mutual
def SV.rn(f:Nat->Nat):SV->SV
  | .agg cs=> .agg (SV.rnL f cs)
  | .tup cs=> .tup (SV.rnL f cs)
  | .ptr i off=> .ptr (f i) off
  | .vc i=> .vc (f i)
  | .sl i off n k=> .sl (f i) off n k
  | .mp i=> .mp (f i)
  | .fn g a b=> .fn g (SV.rnL f a) (SV.rnL f b)
  | .undef=> .undef
  | .bool b=> .bool b
  | .int k n=> .int k n
  | .str s=> .str s
  | .nl=> .nl
  | .lst n k cs=> .lst n k cs
  | .ep cs=> .ep cs
  | .nilp=> .nilp
  | .yld i=> .yld (f i)
def SV.rnL(f:Nat->Nat):List SV->List SV
  | []=> []
  |c::cs=>SV.rn f c::SV.rnL f cs
end
mutual
def SV.refs(m:Nat):SV->Bool
  | .agg cs=>SV.refsL m cs
  | .tup cs=>SV.refsL m cs
  | .ptr i _=>wB (i<m)
  | .vc i=>wB (i<m)
  | .sl i _ _ _=>wB (i<m)
  | .mp i=>wB (i<m)
  | .fn _ a b=>SV.refsL m a&&SV.refsL m b
  | .undef=>yB
  | .bool _=>yB
  | .int _ _=>yB
  | .str _=>yB
  | .nl=>yB
  | .lst _ _ _=>yB
  | .ep _=>yB
  | .nilp=>yB
  | .yld i=>wB (i<m)
def SV.refsL(m:Nat):List SV->Bool
  | []=>yB
  |c::cs=>SV.refs m c&&SV.refsL m cs
end
theorem f0L(f:Nat->Nat): ∀(cs:List SV) (j:Nat),(SV.rnL f cs)[j]?=(cs[j]?).map (SV.rn f)
  | [],j=>by simp[SV.rnL]
  |c::cs,j=>by
    cases j with
    |zero=>simp[SV.rnL]
    |succ j=>simpa [SV.rnL]using f0L f cs j
theorem c0a(f:Nat->Nat): ∀(cs:List SV),(SV.rnL f cs).length=cs.length
  | []=>rfl
  |c::cs=>by simp[SV.rnL,c0a f cs]
theorem f0p {m:Nat} : ∀ {cs:List SV},SV.refsL m cs=yB-> ∀(j:Nat) (c:SV),cs[j]?=qB c->SV.refs m c=yB
  | [],_,j,c,h=>by simp at h
  |x::cs,h,j,c,hc=>by
    simp only[SV.refsL,aa]at h
    cases j with
    |zero=>simp at hc;subst hc;exact h.1
    |succ j=>exact f0p h.2 j c (by simpa using hc)
def Ent.rn(f:Nat->Nat):Ent->Ent
  | .box cs=> .box (SV.rnL f cs)
  | .map es=> .map (es.map λp=>(SV.rn f p.1,SV.rn f p.2))
  | .itr m n s=> .itr (f m) n s
  | .lop tm ps as bd st pd=> .lop (SV.rnL f tm) ps as bd st pd
  | .pmap es=> .pmap (es.map λp=>(SV.rn f p.1,SV.rn f p.2))
  |e=>e
def Ent.refs(m:Nat):Ent->Bool
  | .box cs=>SV.refsL m cs
  | .map es=>es.all λp=>SV.refs m p.1&&SV.refs m p.2
  | .itr i _ _=>SV.refs m (.mp i)
  | .lop tm _ _ _ _ _=>SV.refsL m tm
  | .pmap es=>es.all λp=>SV.refs m p.1&&SV.refs m p.2
  |_=>yB
def m0F(D:DM)(f:Nat->Nat)(m:Nat):DM:=λj=>if j<m then D (f j)else none
section
variable {w : World} {K : Nat -> Nat} {D : DM}
theorem h0B {s':SV} (h:Rep w K D v s'): ∀s,s'=SV.rn f s->SV.refs m s=yB->Rep w K (m0F D f m) v s:=by
  have hsub: ∀ {i:Nat} {x:Loc},i<m->D (f i)=qB x->m0F D f m i=qB x:=λ{i x} hi hd=>by simp[m0F,hi,hd]
  induction h with
  |undef v=>intro s hs hb;cases s<;>simp only[SV.rn]at hs<;>first|(cases hs;done)|exact .undef _
  |bool b=>intro s hs hb;cases s<;>simp only[SV.rn]at hs<;>cases hs;exact .bool _
  |int k n=>intro s hs hb;cases s<;>simp only[SV.rn]at hs<;>cases hs;exact .int _ _
  |str sb=>intro s hs hb;cases s<;>simp only[SV.rn]at hs<;>cases hs;exact .str _
  |nl a=>intro s hs hb;cases s<;>simp only[SV.rn]at hs<;>first|(cases hs;done)|exact .nl _
  |emp k a cap=>intro s hs hb;cases s<;>simp only[SV.rn]at hs<;>cases hs;exact .emp _ _ _
  |lst k b off len cap vs cs hk hl hc hcap hm hK h1 hp h _=>
    intro s hs hb;cases s<;>simp only[SV.rn]at hs<;>cases hs
    exact .lst k b off len cap vs _ hk hl hc hcap hm hK h1 hp (λj v c hv hcc=>(h j v c hv hcc).plain (f0w hp hcc))
  |ep b off vs cs hc hm hK h1 hp h _=>
    intro s hs hb;cases s<;>simp only[SV.rn]at hs<;>cases hs
    exact .ep b off vs _ hc hm hK h1 hp (λj v c hv hcc=>(h j v c hv hcc).plain (f0w hp hcc))
  |agg vs cs hc h1 _ ih=>
    intro s hs hb;cases s<;>simp only[SV.rn]at hs<;>cases hs
    rename_i cs0 _;refine .agg vs cs0 (by rw[<-hc,c0a]) h1 (λj v c hv hcc=>ih j v (SV.rn f c) hv (by rw[f0L,hcc];rfl) c rfl ?_);simp only[SV.refs]at hb;exact f0p hb j c hcc
  |tup vs cs hc _ ih=>
    intro s hs hb;cases s<;>simp only[SV.rn]at hs<;>cases hs
    rename_i cs0 _;refine .tup vs cs0 (by rw[<-hc,c0a]) (λj v c hv hcc=>ih j v (SV.rn f c) hv (by rw[f0L,hcc];rfl) c rfl ?_);simp only[SV.refs]at hb;exact f0p hb j c hcc
  |ptr i off b c n hd=>
    intro s hs hb;cases s<;>simp only[SV.rn]at hs<;>cases hs
    simp only[SV.refs,decide_eq_true_eq]at hb;exact .ptr _ _ b c n (hsub hb hd)
  |vcn i a hd=>
    intro s hs hb;cases s<;>simp only[SV.rn]at hs<;>cases hs
    simp only[SV.refs,decide_eq_true_eq]at hb;exact .vcn _ a (hsub hb hd)
  |vc i b c n hd=>
    intro s hs hb;cases s<;>simp only[SV.rn]at hs<;>cases hs
    simp only[SV.refs,decide_eq_true_eq]at hb;exact .vc _ b c n (hsub hb hd)
  |sl i off n k b c m' cap hd hn=>
    intro s hs hb;cases s<;>simp only[SV.rn]at hs<;>cases hs
    simp only[SV.refs,decide_eq_true_eq]at hb;exact .sl _ _ _ _ b c m' cap (hsub hb hd) hn
  |mp i r c n hd=>
    intro s hs hb;cases s<;>simp only[SV.rn]at hs<;>cases hs
    simp only[SV.refs,decide_eq_true_eq]at hb;exact .mp _ r c n (hsub hb hd)
  |fn g fs caps gs dcs hc hd _ _ ih ih'=>
    intro s hs hb;cases s<;>simp only[SV.rn]at hs<;>cases hs
    rename_i a0 b0 _ _;simp only[SV.refs,aa]at hb
    exact .fn g fs caps a0 b0 (by rw[<-hc,c0a]) (by rw[<-hd,c0a])
      (λj v c hv hcc=>ih j v (SV.rn f c) hv (by rw[f0L,hcc];rfl) c rfl (f0p hb.1 j c hcc))
      (λj v c hv hcc=>ih' j v (SV.rn f c) hv (by rw[f0L,hcc];rfl) c rfl (f0p hb.2 j c hcc))
  |nilp=>intro s hs hb;cases s<;>simp only[SV.rn]at hs<;>first|(cases hs;done)|exact .nilp
  |yld i l c n hd=>
    intro s hs hb;cases s<;>simp only[SV.rn]at hs<;>cases hs
    simp only[SV.refs,decide_eq_true_eq]at hb;exact .yld _ l c n (hsub hb hd)
theorem n0l {D':DM} {s:SV} (h:Rep w K D v s)(hg: ∀j x,D j=qB x->D' (g j)=qB x):Rep w K D' v (SV.rn g s):=by
  induction h with
  |undef v=>exact .undef _
  |bool b=>exact .bool _
  |int k n=>exact .int _ _
  |str sb=>exact .str _
  |nl a=>exact .nl _
  |emp k a cap=>exact .emp _ _ _
  |lst k b off len cap vs cs hk hl hc hcap hm hK h1 hp h _=>
    exact .lst k b off len cap vs _ hk hl hc hcap hm hK h1 hp (λj v c hv hcc=>(h j v c hv hcc).plain (f0w hp hcc))
  |ep b off vs cs hc hm hK h1 hp h _=>
    exact .ep b off vs _ hc hm hK h1 hp (λj v c hv hcc=>(h j v c hv hcc).plain (f0w hp hcc))
  |agg vs cs hc h1 _ ih=>
    refine .agg vs _ (by rw[c0a,hc]) h1 (λj v c hv hcc=> ?_);rw[f0L]at hcc
    cases hx:cs[j]? with
    |none=>rw[hx]at hcc;cases hcc
    |some x=>rw[hx]at hcc;cases hcc;exact ih j v x hv hx
  |tup vs cs hc _ ih=>
    refine .tup vs _ (by rw[c0a,hc]) (λj v c hv hcc=> ?_);rw[f0L]at hcc
    cases hx:cs[j]? with
    |none=>rw[hx]at hcc;cases hcc
    |some x=>rw[hx]at hcc;cases hcc;exact ih j v x hv hx
  |ptr i off b c n hd=>exact .ptr _ _ b c n (hg _ _ hd)
  |vcn i a hd=>exact .vcn _ a (hg _ _ hd)
  |vc i b c n hd=>exact .vc _ b c n (hg _ _ hd)
  |sl i off n k b c m' cap hd hn=>exact .sl _ _ _ _ b c m' cap (hg _ _ hd) hn
  |mp i r c n hd=>exact .mp _ r c n (hg _ _ hd)
  |fn q fs caps gs dcs hc hd _ _ ih ih'=>
    refine .fn q fs caps _ _ (by rw[c0a,hc]) (by rw[c0a,hd]) (λj v c hv hcc=> ?_) (λj v c hv hcc=> ?_);rw[f0L]at hcc
    cases hx:gs[j]? with
    |none=>rw[hx]at hcc;cases hcc
    |some x=>rw[hx]at hcc;cases hcc;exact ih j v x hv hx
    rw[f0L]at hcc
    cases hx:dcs[j]? with
    |none=>rw[hx]at hcc;cases hcc
    |some x=>rw[hx]at hcc;cases hcc;exact ih' j v x hv hx
  |nilp=>exact .nilp
  |yld i l c n hd=>exact .yld _ l c n (hg _ _ hd)
theorem L0x {cs:List SV} (h:CR w K D vs (SV.rnL f cs))(hb:SV.refsL m cs=yB):CR w K (m0F D f m) vs cs:=
  ⟨by rw[<-h.len,c0a],h.one,λj v c hv hc=>h0B (h.rep j v (SV.rn f c) hv (by rw[f0L,hc];rfl)) c rfl (f0p hb j c hc)⟩
theorem M0R {D':DM} {cs:List SV} (h:CR w K D vs cs)(hg: ∀j x,D j=qB x->D' (g j)=qB x):CR w K D' vs (SV.rnL g cs):=by
  refine⟨by rw[c0a,h.len],h.one,λj v c hv hc=> ?_⟩;rw[f0L]at hc
  cases hx:cs[j]? with
  |none=>rw[hx]at hc;cases hc
  |some x=>rw[hx]at hc;cases hc;exact n0l (h.rep j v x hv hx) hg
theorem J0d {en:Ent} (hj:j<m)(h:EntOk w K D (f j) (Ent.rn f en))(hb:Ent.refs m en=yB):EntOk w K (m0F D f m) j en:=by
  have hd:m0F D f m j=D (f j):=by simp[m0F,hj]
  cases en with
  |res=>show m0F D f m j=none;rw[hd];exact h
  |gone=>trivial
  |box cs=>
    obtain⟨b,vs,e,h1,h2,h3,h4⟩:=h;exact⟨b,vs,e,by rw[hd];exact h1,h2,h3,L0x h4 hb⟩
  |vec n k e cs=>
    obtain⟨hp,h⟩:=h;refine⟨hp, ?_⟩;rcases h with⟨h1,h2,h3⟩|⟨b,c,vs,rest,h1,h2,h3,h4,h5,h6,h7,h8,h9⟩;exact .inl ⟨by rw[hd];exact h1,h2,h3⟩;exact .inr ⟨b,c,vs,rest,by rw[hd];exact h1,h2,h3,h4,h5,h6,h7,h8,⟨h9.len,h9.one,λj v c hv hc=>(h9.rep j v c hv hc).plain (f0w hp hc)⟩⟩
  |map es=>
    obtain⟨r,mes,clock,h1,h2,h3,h4,hB,h5⟩:=h;refine⟨r,mes,clock,by rw[hd];exact h1,h2,h3,by simpa using h4,hB,λq me kv hm hk=> ?_⟩;have hrf:=List.all_eq_true.1 hb kv (aI hk);simp only[aa]at hrf;obtain⟨p1,p2⟩:=h5 q me (SV.rn f kv.1,SV.rn f kv.2) hm (by rw[aq,hk];rfl);exact⟨h0B p1 kv.1 rfl hrf.1,h0B p2 kv.2 rfl hrf.2⟩
  |pmap es=>
    obtain⟨es',r,mes,clock,hp,h1,h2,h3,h4,hB,h5⟩:=h;obtain⟨e2,hp2,rfl⟩:=n0t es es' hp;refine⟨e2,r,mes,clock,hp2,by rw[hd];exact h1,h2,h3,by simpa using h4,hB,λq me kv hm hk=> ?_⟩;have hrf:=List.all_eq_true.1 hb kv (hp2.mem_iff.1 (aI hk));simp only[aa]at hrf;obtain⟨p1,p2⟩:=h5 q me (SV.rn f kv.1,SV.rn f kv.2) hm (by rw[aq,hk];rfl);exact⟨h0B p1 kv.1 rfl hrf.1,h0B p2 kv.2 rfl hrf.2⟩
  |itr i n' seen=>
    obtain⟨r,bm,c0,h1,h2,h3,h4,h5⟩:=h;exact⟨r,bm,c0,by rw[hd];exact h1,h2,h3,h4,h0B h5 (.mp i) rfl hb⟩
  |lop tm ps as bd st pd=>
    obtain⟨l,r,h1,h2,h3,h4,h5,h6,h7,h8,h9,h10⟩:=h;exact⟨l,r,by rw[hd];exact h1,h2,h3,h4,h5,h6,h7,h8,by rw[h9,c0a],λj v c hv hc=>h0B (h10 j v (SV.rn f c) hv (by rw[f0L,hc];rfl)) c rfl (f0p hb j c hc)⟩
  |dfr=>
    obtain⟨b,h1,h2,h3⟩:=h;exact⟨b,by rw[hd];exact h1,h2,h3⟩
theorem E0n {D':DM} {en:Ent} (h:EntOk w K D j en)(hg: ∀j x,D j=qB x->D' (g j)=qB x)(hn:D j=none->D' (g j)=none):EntOk w K D' (g j) (Ent.rn g en):=by
  cases en with
  |res=>exact hn h
  |gone=>trivial
  |box cs=>
    obtain⟨b,vs,e,h1,h2,h3,h4⟩:=h;exact⟨b,vs,e,hg _ _ h1,h2,h3,M0R h4 hg⟩
  |vec n k e cs=>
    obtain⟨hp,h⟩:=h;refine⟨hp, ?_⟩;rcases h with⟨h1,h2,h3⟩|⟨b,c,vs,rest,h1,h2,h3,h4,h5,h6,h7,h8,h9⟩;exact .inl ⟨hg _ _ h1,h2,h3⟩;exact .inr ⟨b,c,vs,rest,hg _ _ h1,h2,h3,h4,h5,h6,h7,h8,⟨h9.len,h9.one,λj v c hv hc=>(h9.rep j v c hv hc).plain (f0w hp hc)⟩⟩
  |map es=>
    obtain⟨r,mes,clock,h1,h2,h3,h4,hB,h5⟩:=h;refine⟨r,mes,clock,hg _ _ h1,h2,h3,by simpa using h4,hB,λq me kv hm hk=> ?_⟩;rw[aq]at hk
    cases hx:es[q]? with
    |none=>rw[hx]at hk;cases hk
    |some x=>
      rw[hx]at hk;cases hk;obtain⟨p1,p2⟩:=h5 q me x hm hx;exact⟨n0l p1 hg,n0l p2 hg⟩
  |pmap es=>
    obtain⟨es',r,mes,clock,hp,h1,h2,h3,h4,hB,h5⟩:=h;refine⟨es'.map λp=>(SV.rn g p.1,SV.rn g p.2),r,mes,clock,hp.map _,hg _ _ h1,h2,h3,by simpa using h4,hB,λq me kv hm hk=> ?_⟩;rw[aq]at hk
    cases hx:es'[q]? with
    |none=>rw[hx]at hk;cases hk
    |some x=>
      rw[hx]at hk;cases hk;obtain⟨p1,p2⟩:=h5 q me x hm hx;exact⟨n0l p1 hg,n0l p2 hg⟩
  |itr i n' seen=>
    obtain⟨r,bm,c0,h1,h2,h3,h4,h5⟩:=h;exact⟨r,bm,c0,hg _ _ h1,h2,h3,h4,n0l h5 hg⟩
  |lop tm ps as bd st pd=>
    obtain⟨l,r,h1,h2,h3,h4,h5,h6,h7,h8,h9,h10⟩:=h;refine⟨l,r,hg _ _ h1,h2,h3,h4,h5,h6,h7,h8,by rw[h9,c0a],λj v c hv hc=> ?_⟩;rw[f0L]at hc
    cases hx:tm[j]? with
    |none=>rw[hx]at hc;cases hc
    |some x=>rw[hx]at hc;cases hc;exact n0l (h10 j v x hv hx) hg
  |dfr=>
    obtain⟨b,h1,h2,h3⟩:=h;exact⟨b,hg _ _ h1,h2,h3⟩
theorem h0I (en:Ent):h0p (Ent.rn f en)=h0p en:=by cases en<;>rfl
structure Sel (H:a0e) (f:Nat->Nat) (H0:a0e):Prop where
  get: ∀(j:Nat) (en:Ent),H0[j]?=qB en->H[f j]?=qB (Ent.rn f en)
  inj: ∀i j,i<H0.length->j<H0.length->f i=f j->i=j
  refs: ∀(j:Nat) (en:Ent),H0[j]?=qB en->Ent.refs H0.length en=yB
theorem Sel.hinv {H H0:a0e} (hs:Sel H f H0)(h:HInv w K D H):HInv w K (m0F D f H0.length) H0:=by
  refine⟨λi hi=>by simp[m0F,Nat.not_lt.2 hi],λj en hj=> ?_,λi j en en' b c n c' n' hi hj hl hl' hd hd'=> ?_,h.kw⟩;have hjl:=(ab.1 hj).1;exact J0d hjl (h.ent _ _ (hs.get j en hj)) (hs.refs j en hj);have hil:=(ab.1 hi).1;have hjl:=(ab.1 hj).1;simp only[m0F,hil,if_true]at hd;simp only[m0F,hjl,if_true]at hd';exact hs.inj i j hil hjl (h.inj _ _ _ _ b c n c' n' (hs.get i en hi) (hs.get j en' hj) (by rw[h0I];exact hl) (by rw[h0I];exact hl') hd hd')
theorem Sel.mem {H H0:a0e} (hs:Sel H f H0) (hm:Mem (m0F D f H0.length) H0 b):Mem D H b:=by
  obtain⟨i,en,c,n,hi,hl,hd⟩:=hm;have hil:=(ab.1 hi).1;simp only[m0F,hil,if_true]at hd;exact⟨f i,Ent.rn f en,c,n,hs.get i en hi,by rw[h0I];exact hl,hd⟩
end
theorem j0C {K:Nat->Nat} {D D':DM} (h:m0E w K D):m0E w K D':=λg cs hg=>by
  have hr:=h g cs hg
  cases hr with
  |ep b off vs _ hc hm hK h1 hp h=>exact .ep _ _ vs cs hc hm hK h1 hp (λj v c hv hcc=>(h j v c hv hcc).plain (f0w hp hcc))
def b0u(P:Program)(f:FuncId):Bool:=
  match P.funcs[f]? with
  | some fn => fn.body.isSome && !(fn.name == "runtime.NumGoroutine")
  |none=>vB
def SC(P:Program)(f:FuncId)(args:List SV)(H:a0e)(v:SV)(H':a0e):Prop:=
  b0u P f=yB/\
  ∀(w:World) (K:Nat->Nat) (D:DM) (vals:List Value),vals.length=args.length->(∀(j:Nat) (x:Value) (c:SV),vals[j]?=qB x->args[j]?=qB c->Rep w K D x c)->HInv w K D H->m0E w K D->
    Calls P f vals.toArray w λe w'=> ∃r,e= .returned r/\Good w K D H r w' v H'
def Le(s s':SV):Prop:= ∀(w:World) (K:Nat->Nat) (D:DM) (v:Value),Rep w K D v s->Rep w K D v s'
theorem Le.refl(s:SV):Le s s:=λ_ _ _ _ h=>h
theorem Le.nl(k:Nat):Le .nl (.lst 0 k []):=λ_ _ _ _ h=>by cases h;exact .emp _ _ _
theorem Le.undef(s:SV):Le s .undef:=λ_ _ _ _ _=> .undef _
inductive LeL:List SV->List SV->Prop
  |nil:LeL [] []
  |cons {a b:SV} {l m:List SV} (h:Le a b) (t:LeL l m):LeL (a::l) (b::m)
theorem LeL.refl: ∀l,LeL l l
  | []=> .nil
  |a::l=> .cons (Le.refl a) (LeL.refl l)
theorem LeL.length {l m:List SV} (h:LeL l m):l.length=m.length:=by
  induction h with
  |nil=>rfl
  |cons _ _ ih=>simp[ih]
theorem LeL.get {l m:List SV} (h:LeL l m): ∀(j:Nat) (c:SV),m[j]?=qB c-> ∃b,l[j]?=qB b/\Le b c:=by
  induction h with
  |nil=>intro j c hc;simp at hc
  |cons h _ ih=>
    intro j c hc
    cases j with
    |zero=>simp at hc;subst hc;exact⟨_,rfl,h⟩
    |succ j=>simpa using ih j c (by simpa using hc)
theorem Le.agg {l m:List SV} (h:LeL l m):Le (.agg l) (.agg m):=λw K D v hr=>by
  cases hr with
  |agg vs _ hc h1 hh=>
    refine .agg vs m (by rw[<-h.length];exact hc) h1 (λj v c hv hcc=> ?_);obtain⟨b,hb,hle⟩:=h.get j c hcc;exact hle _ _ _ _ (hh j v b hv hb)
theorem Le.tup {l m:List SV} (h:LeL l m):Le (.tup l) (.tup m):=λw K D v hr=>by
  cases hr with
  |tup vs _ hc hh=>
    refine .tup vs m (by rw[<-h.length];exact hc) (λj v c hv hcc=> ?_);obtain⟨b,hb,hle⟩:=h.get j c hcc;exact hle _ _ _ _ (hh j v b hv hb)
theorem SC.weak {f:FuncId} {args args':List SV} {H:a0e} {v:SV} {H':a0e} (h:SC P f args' H v H')(hl:LeL args args'):SC P f args H v H':=
  ⟨h.1,λw K D vals hlen hr hi hG=>h.2 w K D vals (by rw[hlen,hl.length]) (λj x c hx hc=>by
    obtain⟨b,hb,hle⟩:=hl.get j c hc
    exact hle _ _ _ _ (hr j x b hx hb)) hi hG⟩
mutual
theorem j0v {f g:Nat->Nat} {m:Nat} (hfg: ∀i,i<m->f i=g i): ∀(s:SV),SV.refs m s=yB->SV.rn f s=SV.rn g s
  | .agg cs,h=>by simp only[SV.rn];rw[i0H hfg cs h]
  | .tup cs,h=>by simp only[SV.rn];rw[i0H hfg cs h]
  | .ptr i off,h=>by simp only[SV.rn];rw[hfg i (by simpa [SV.refs]using h)]
  | .vc i,h=>by simp only[SV.rn];rw[hfg i (by simpa [SV.refs]using h)]
  | .sl i off n k,h=>by simp only[SV.rn];rw[hfg i (by simpa [SV.refs]using h)]
  | .mp i,h=>by simp only[SV.rn];rw[hfg i (by simpa [SV.refs]using h)]
  | .fn q a b,h=>by
    simp only[SV.refs,aa]at h;simp only[SV.rn];rw[i0H hfg a h.1,i0H hfg b h.2]
  | .undef,_=>rfl
  | .bool _,_=>rfl
  | .int _ _,_=>rfl
  | .str _,_=>rfl
  | .nl,_=>rfl
  | .lst _ _ _,_=>rfl
  | .ep _,_=>rfl
  | .nilp,_=>rfl
  | .yld i,h=>by simp only[SV.rn];rw[hfg i (by simpa [SV.refs]using h)]
theorem i0H {f g:Nat->Nat} {m:Nat} (hfg: ∀i,i<m->f i=g i): ∀(cs:List SV),SV.refsL m cs=yB->SV.rnL f cs=SV.rnL g cs
  | [],_=>rfl
  |c::cs,h=>by
    simp only[SV.refsL,aa]at h;simp only[SV.rnL];rw[j0v hfg c h.1,i0H hfg cs h.2]
end
theorem t0J (hfg: ∀i,i<m->f i=g i)(en:Ent)(h:Ent.refs m en=yB):Ent.rn f en=Ent.rn g en:=by
  cases en with
  |box cs=>simp only[Ent.rn];rw[i0H hfg cs h]
  |map es=>
    simp only[Ent.rn];congr 1;refine bB λp hp=> ?_
    have hrf:=List.all_eq_true.1 h p hp;simp only[aa]at hrf;rw[j0v hfg p.1 hrf.1,j0v hfg p.2 hrf.2]
  |pmap es=>
    simp only[Ent.rn];congr 1;refine bB λp hp=> ?_
    have hrf:=List.all_eq_true.1 h p hp;simp only[aa]at hrf;rw[j0v hfg p.1 hrf.1,j0v hfg p.2 hrf.2]
  |itr i n s=>show Ent.itr (f i) n s=Ent.itr (g i) n s;rw[hfg i (by simpa [Ent.refs,SV.refs]using h)]
  |lop tm ps as bd st pd=>simp only[Ent.rn];rw[i0H hfg tm h]
  |_=>rfl
def gOf(f:Nat->Nat)(m N:Nat):Nat->Nat:=λj=>if j<m then f j else N+(j-m)
def y0y(g:Nat->Nat)(H0':a0e)(H:a0e):Nat->a0e
  |0=>H
  |j+1=>match H0'[j]? with
    |some en=>i0h (y0y g H0' H j) (g j) (Ent.rn g en)
    |none=>y0y g H0' H j
def d0M(f:Nat->Nat)(m:Nat)(H H0':a0e):a0e:=y0y (gOf f m H.length) H0' H H0'.length
theorem y0r {H:a0e} {en:Ent} :(i0h H i en).length=if i<H.length then H.length else H.length+1:=by
  unfold i0h;split<;>simp
theorem Sel.lt {H H0:a0e} (hs:Sel H f H0) (hj:j<H0.length):f j<H.length:=by
  have:=hs.get j _ (af hj);exact(ab.1 this).1
theorem D0Y {H H0:a0e} (hs:Sel H f H0) (h:gOf f H0.length H.length i=gOf f H0.length H.length j):i=j:=by
  unfold gOf at h;by_cases hi:i<H0.length<;>by_cases hj:j<H0.length
  rw[qC hi,qC hj]at h;exact hs.inj i j hi hj h;rw[qC hi,wC hj]at h;have:=hs.lt hi;omega;rw[wC hi,qC hj]at h;have:=hs.lt hj;omega;rw[wC hi,wC hj]at h;omega
theorem w0W {H H0 H0':a0e} (hs:Sel H f H0): ∀q,q<=H0'.length->
    (y0y (gOf f H0.length H.length) H0' H q).length=H.length+(q-H0.length)/\
    (∀j en,j<q->H0'[j]?=qB en->(y0y (gOf f H0.length H.length) H0' H q)[gOf f H0.length H.length j]?=qB (Ent.rn (gOf f H0.length H.length) en))/\
    ∀i,(∀j,j<q->gOf f H0.length H.length j≠i)->(y0y (gOf f H0.length H.length) H0' H q)[i]?=H[i]?:=by
  intro q
  induction q with
  |zero=>intro _;exact⟨by simp[y0y],λj en h=>absurd h (cE _),λi _=>rfl⟩
  |succ q ih=>
    intro hq;obtain⟨h1,h2,h3⟩:=ih cV;have hen:H0'[q]?=qB (H0'[q]' cV):=af cV
    have hle:gOf f H0.length H.length q<=(y0y (gOf f H0.length H.length) H0' H q).length:=by
      rw[h1];unfold gOf;split;rename_i hlt;have:=hs.lt hlt;omega;omega
    have hget:=v0i (H:=y0y (gOf f H0.length H.length) H0' H q) (en:=Ent.rn (gOf f H0.length H.length) (H0'[q]' cV)) hle;refine⟨?_,λj en hj hej=> ?_,λi hi=> ?_⟩;simp only[y0y,hen];rw[y0r,h1];unfold gOf;by_cases hlt:q<H0.length;rw[qC hlt];have:=hs.lt hlt;rw[qC cV];omega;rw[wC hlt,wC cV];omega;simp only[y0y,hen];rw[hget];by_cases hjq:j=q;subst hjq;rw[qC rfl];rw[hen]at hej;cases hej;rfl;rw[wC (λe=>hjq (D0Y hs e))];exact h2 j en cV hej;simp only[y0y,hen];rw[hget,wC (λe=>hi q cV e.symm)];exact h3 i λj hj=>hi j cV
theorem u0G {H H0:a0e} (hs:Sel H f H0):d0M f H0.length H H0=H:=by
  obtain⟨h1,h2,h3⟩:=w0W (H0':=H0) hs H0.length (aj _);have hg: ∀i,i<H0.length->f i=gOf f H0.length H.length i:=λi hi=>by simp[gOf,hi]
  unfold d0M;apply bv;intro i;by_cases hex: ∃j,j<H0.length/\gOf f H0.length H.length j=i;obtain⟨j,hj,rfl⟩:=hex;have hen:=af hj;rw[h2 j _ hj hen,<-hg j hj,hs.get j _ hen,<-t0J hg _ (hs.refs j _ hen)];exact h3 i λj hj e=>hex ⟨j,hj,e⟩
theorem Good.frame {H0 H0':a0e} {v0:SV} {H:a0e} {K:Nat->Nat} {D:DM} (hg0:Good w K (m0F D f H0.length) H0 r w' v0 H0')(hs:Sel H f H0)(hi:HInv w K D H)
    (hlive: ∀en∈H0,h0p en=yB) (hl:H0.length<=H0'.length):Good w K D H r w' (SV.rn (gOf f H0.length H.length) v0) (d0M f H0.length H H0'):=by
  obtain⟨K',Ds',g,hi',hrep⟩:=hg0;obtain⟨p1,p2,p3⟩:=w0W (H0':=H0') hs H0'.length (aj _);generalize hg:gOf f H0.length H.length=gg at p1 p2 p3;have hgl: ∀j,j<H0.length->gg j=f j:=λj hj=>by rw[<-hg];simp[gOf,hj]
  have hgr: ∀j,H0.length<=j->gg j=H.length+(j-H0.length):=λj hj=>by rw[<-hg];simp[gOf,Nat.not_lt.2 hj]
  have hginj: ∀i j,gg i=gg j->i=j:=λi j e=>by rw[<-hg]at e;exact D0Y hs e
  -- entries that were handed v0w are somewhere
  have hsome: ∀j,j<H0.length-> ∃x,D (f j)=qB x:=by
    intro j hj;have hen:=af hj;have hlv:=hlive _ (cz hj);have he:=hi.ent _ _ (hs.get j _ hen);generalize H0[j]=en at hlv he
    cases en with
    |res=>cases hlv
    |gone=>cases hlv
    |box cs=>obtain⟨b,vs,e,h1,_⟩:=he;exact⟨_,h1⟩
    |vec n k e cs=>rcases he.2 with⟨h1,_⟩|⟨b,c,vs,rest,h1,_⟩<;>exact⟨_,h1⟩
    |map es=>obtain⟨r,mes,clock,h1,_⟩:=he;exact⟨_,h1⟩
    |itr i n' s=>obtain⟨r,bm,c0,h1,_⟩:=he;exact⟨_,h1⟩
    |lop tm ps as bd st pd=>obtain⟨l,r,h1,_⟩:=he;exact⟨_,h1⟩
    |dfr=>obtain⟨b,h1,_⟩:=he;exact⟨_,h1⟩
    |pmap es=>obtain⟨es',r,mes,clock,_,h1,_⟩:=he;exact⟨_,h1⟩
  let D':DM:=λi=>if i<H.length then D i else Ds' (H0.length+(i-H.length))
  have hDold: ∀i,i<H.length->D' i=D i:=λi hi=>by simp[D',hi]
  have hDs: ∀j,j<H0.length->Ds' j=D (f j):=by
    intro j hj;obtain⟨x,hx⟩:=hsome j hj;have:m0F D f H0.length j=qB x:=by simp[m0F,hj,hx]
    rw[g.dd j x this,hx]
  have hup: ∀j,D' (gg j)=Ds' j:=by
    intro j;by_cases hj:j<H0.length;rw[hgl j hj,hDold _ (hs.lt hj),hDs j hj];rw[hgr j cV];simp only[D'];rw[wC cV];congr 1;omega
  have hdd: ∀i x,D i=qB x->D' i=qB x:=by
    intro i x hx
    have:i<H.length:=by
      rcases bL i H.length with h1|h1;exact h1;rw[hi.dom i h1]at hx;cases hx
    rw[hDold i this];exact hx
  have hrep': ∀v s,Rep w K D v s->Rep w' K' D' v s:=λv s h1=>h1.mono g.cells g.le hdd
  -- an entry: an old one that was not handed v0w, or one of the call's
  have hcase: ∀i en,(d0M f H0.length H H0')[i]?=qB en->(∃j en0,H0'[j]?=qB en0/\i=gg j/\en=Ent.rn gg en0)\/((∀j,j<H0'.length->gg j≠i)/\H[i]?=qB en/\i<H.length):=by
    intro i en hi2;unfold d0M at hi2;rw[hg]at hi2;by_cases hex: ∃j,j<H0'.length/\gg j=i;obtain⟨j,hj,rfl⟩:=hex;have hen:=af hj;rw[p2 j _ hj hen]at hi2;cases hi2;exact .inl ⟨j,_,hen,rfl,rfl⟩;have hno: ∀j,j<H0'.length->gg j≠i:=λj hj e=>hex ⟨j,hj,e⟩
    rw[p3 i hno]at hi2;exact .inr ⟨hno,hi2,(ab.1 hi2).1⟩
  -- a block of the call's is old and handed v0w, or new
  have hblk: ∀j en0 b c n,H0'[j]?=qB en0->h0p en0=yB->Ds' j=qB (.at b c n)->Mem (m0F D f H0.length) H0 b\/w.heap.size<=b:=λj en0 b c n h1 h2 h3=>g.new b ⟨j,en0,c,n,h1,h2,h3⟩
  have hapart: ∀i en b c n,(∀j,j<H0'.length->gg j≠i)->H[i]?=qB en->h0p en=yB->D i=qB (.at b c n)-> ¬Mem (m0F D f H0.length) H0 b/\b<w.heap.size:=by
    intro i en b c n hno hie hli hdi;refine⟨fun⟨j,en0,c0,n0,h1,h2,h3⟩=> ?_,(k0I hi ⟨i,en,c,n,hie,hli,hdi⟩).1⟩;have hjl:=(ab.1 h1).1;simp only[m0F,hjl,if_true]at h3;have:=hi.inj i (f j) en _ b c n c0 n0 hie (hs.get j en0 h1) hli (by rw[h0I];exact h2) hdi h3;exact hno j cV (by rw[hgl j hjl];exact this.symm)
  refine⟨K',D',⟨g.os,g.tape,g.output,g.size,λb hb hm=>g.block b hb (λh1=>hm (hs.mem h1)),g.cells,g.le,λb hb hm=>g.kk b hb (λh1=>hm (hs.mem h1)),hdd,λb hm=> ?_⟩,
    ⟨λi hil=> ?_,λi en hie=> ?_,λi j en en' b c n c' n' hie hje hli hlj hdi hdj=> ?_,hi'.kw⟩, ?_⟩
  obtain⟨i,en,c,n,h1,h2,h3⟩:=hm;rcases hcase i en h1 with⟨j,en0,q1,q2,q3⟩|⟨_,q2,q3⟩;subst q2;subst q3;rw[hup]at h3;rw[h0I]at h2;rcases hblk j en0 b c n q1 h2 h3 with h4|h4;exact .inl (hs.mem h4);exact .inr h4;rw[hDold i q3]at h3;exact .inl ⟨i,en,c,n,q2,h2,h3⟩;unfold d0M at hil;rw[hg,p1]at hil;simp only[D'];rw[wC cV];exact hi'.dom _ cV;rcases hcase i en hie with⟨j,en0,q1,q2,q3⟩|⟨q1,q2,q3⟩;subst q2;subst q3;exact E0n (hi'.ent j en0 q1) (λj x hx=>by rw[hup];exact hx) (λhn=>by rw[hup];exact hn);refine(hi.ent i en q2).keep hrep' (hDold i q3) (λb c n hlv hd=> ?_);obtain⟨a1,a2⟩:=hapart i en b c n q1 q2 hlv hd;exact⟨g.block b a2 a1,g.kk b a2 a1⟩
  · rcases hcase i en hie with⟨ji,e1,q1,q2,q3⟩|⟨q1,q2,q3⟩<;>rcases hcase j en' hje with⟨jj,e2,r1,r2,r3⟩|⟨r1,r2,r3⟩
    subst q2;subst q3;subst r2;subst r3;rw[hup]at hdi hdj;rw[h0I]at hli hlj;rw[hi'.inj ji jj e1 e2 b c n c' n' q1 r1 hli hlj hdi hdj];exfalso;subst q2;subst q3;rw[hup]at hdi;rw[h0I]at hli;rw[hDold j r3]at hdj;obtain⟨a1,a2⟩:=hapart j en' b c' n' r1 r2 hlj hdj;rcases hblk ji e1 b c n q1 hli hdi with h4|h4;exact a1 h4;omega;exfalso;subst r2;subst r3;rw[hup]at hdj;rw[h0I]at hlj;rw[hDold i q3]at hdi;obtain⟨a1,a2⟩:=hapart i en b c n q1 q2 hli hdi;rcases hblk jj e2 b c' n' r1 hlj hdj with h4|h4;exact a1 h4;omega;rw[hDold i q3]at hdi;rw[hDold j r3]at hdj;exact hi.inj i j en en' b c n c' n' q2 r2 hli hlj hdi hdj
  exact n0l hrep (λj x hx=>by rw[hup];exact hx)
theorem SC.frame {fid:FuncId} {args0:List SV} {H0:a0e} {v0:SV} {H0':a0e} (h:SC P fid args0 H0 v0 H0') {H:a0e} (hs:Sel H f H0)
    (hlive: ∀en∈H0,h0p en=yB) (ha:SV.refsL H0.length args0=yB) (hl:H0.length<=H0'.length):
    SC P fid (SV.rnL f args0) H (SV.rn (gOf f H0.length H.length) v0) (d0M f H0.length H H0'):=by
  refine⟨h.1,λw K D vals hlen hr hi hG=> ?_⟩;refine(h.2 w K (m0F D f H0.length) vals (by rw[hlen,c0a]) (λj x c hx hc=>h0B (hr j x (SV.rn f c) hx (by rw[f0L,hc];rfl)) c rfl (f0p ha j c hc)) (hs.hinv hi) (j0C hG)).mono ?_;rintro e w' ⟨r,he,hg⟩;exact⟨r,he,hg.frame hs hi hlive hl⟩
end
section
variable [Inhabited GT]
structure Fr where
  n:Nat
  w0:World
  K0:Nat->Nat
  D0:DM
  H0:a0e
  ds:List Deferred
structure Inv (F:Fr) (w:World) (K:Nat->Nat) (D:DM) (H:a0e) (ρ:Env) (tm:Array Value):Prop where
  slots:Slots F.n w K D ρ tm
  hinv:HInv w K D H
  grow:Grow F.w0 F.K0 F.D0 F.H0 w K D H
def St(F:Fr)(ρ:Env)(H:a0e)(a:Act)(w:World):Prop:=a.defers=F.ds/\ ∃K D,Inv F w K D H ρ a.tmps
def a0Z(ops:Array Oper)(ρ:Env)(o:Oper):Option Bool:=
  match o.guard with
  |none=>qB yB
  |some (j,want)=>match(ops[j]?).bind (·.dst)with
    |some d=>match ρ d with
      | .bool b=>qB (b==want)
      | .tup _=>qB vB
      |_=>none
    |none=>none
def s0z(ρ:Env)(c:Call):Option (FuncId×List SV):=
  match c.callee with
  | .value f=>match a0G ρ f with
    |some (.fn (.func f) first captured)=>(c.args.toList.mapM (a0G ρ)).map λl=>(f,first++l++captured)
    |_=>none
  |_=>none
def c0d(o:Oper):Bool:=
  match o.op with
  | .call c=>match c.callee with
    | .value _=>yB
    |_=>vB
  |_=>vB
def g0I(ρ:Env)(o:Oper):Option (FuncId×List SV):=
  match o.op with
  | .call c=>s0z ρ c
  |_=>none
section
variable {P : Program} {F : Fr} {w : World} {K : Nat -> Nat} {D : DM} {H : a0e} {ρ : Env} {a : Act} {o : Oper} {ops : Array Oper} {Q : Exit -> Act -> World -> Prop}
theorem a0O(a:Act)(d:Option Tmp)(v:Value):(a.put d v).defers=a.defers:=by cases d<;>rfl
theorem Inv.step(h:Inv F w K D H ρ a.tmps) {s:SV} {H':a0e} (g:Good w K D H r w' s H')(d:Option Nat): ∃K' D',Inv F w' K' D' H' (m0X ρ d s) (a.put d r).tmps:=by
  obtain⟨K',D',gr,hi,hr⟩:=g;exact⟨K',D',⟨(h.slots.mono λ_ _=>gr.rep).put d hr,hi,h.grow.trans gr⟩⟩
theorem b0I(h:Slots F.n w K D ρ a.tmps)(hb: ∀j want d,o.guard=qB (j,want)->(ops[j]?).bind (·.dst)=qB d->d<F.n) {b:Bool} (hg:a0Z ops ρ o=qB b):jG o (yielded ops a.tmps)=b:=by
  unfold a0Z at hg;unfold jG
  cases hgd:o.guard with
  |none=>rw[hgd]at hg;cases hg;rfl
  |some p=>
    obtain⟨j,want⟩:=p;rw[hgd]at hg;simp only at hg⊢
    cases hd:(ops[j]?).bind (·.dst)with
    |none=>rw[hd]at hg;cases hg
    |some d=>
      rw[hd]at hg;simp only at hg;have hdn:=hb j want d hgd hd;have hr:=h.rep d hdn;have hdt:d<a.tmps.size:=by rw[h.size];exact hdn
      have hget:a.tmps[d]?=qB (a.tmps.getD d undef):=by simp[Array.getD,hdt]
      unfold yielded;rw[hd];simp only[ai,hget];split at hg;rename_i b' hv;cases hg;rw[hv]at hr;generalize a.tmps.getD d undef=x at hr;cases hr;simp;rename_i vs hv;cases hg;rw[hv]at hr;generalize a.tmps.getD d undef=x at hr;cases hr;rfl;cases hg
theorem E0I (h:Slots n w K D ρ a.tmps): ∀(l:List Operand) (r:List SV),(∀x∈l,Operand.inB n x=yB)->l.mapM (a0G ρ)=qB r->r.length=(l.map a.eval).length/\
    ∀(j:Nat) (v:Value) (c:SV),(l.map a.eval)[j]?=qB v->r[j]?=qB c->Rep w K D v c:=by
  intro l
  induction l with
  |nil=>intro r _ hr;simp at hr;subst hr;exact⟨rfl,λj v c e=>by simp at e⟩
  |cons x l ih=>
    intro r hb hr;simp only[cI]at hr
    cases hx1:a0G ρ x with
    |none=>rw[hx1]at hr;cases hr
    |some s1=>
      rw[hx1]at hr
      cases hr1:l.mapM (a0G ρ)with
      |none=>rw[hr1]at hr;cases hr
      |some r1=>
        rw[hr1]at hr;cases hr;obtain⟨i1,i2⟩:=ih r1 (λy hy=>hb y (ao _ hy)) hr1;refine⟨by simpa using i1,λj v c hv hc=> ?_⟩
        cases j with
        |zero=>simp at hv hc;subst hv;subst hc;exact a0i h (hb x (aw ..)) hx1
        |succ j=>exact i2 j v c (by simpa using hv) (by simpa using hc)
theorem w0L {f:FuncId} {fo:Operand} {fs caps:Array Value} (ho:o.op= .call c)(hcal:c.callee= .value fo)(hfv:a.eval fo= .func (.func f) fs caps)(hc:b0u P f=yB):
    (execOp a.eval o).run P w= .ok (.enter f (fs.toList++c.args.toList.map a.eval++caps.toList).toArray) w:=by
  unfold b0u at hc
  cases hfn:P.funcs[f]? with
  |none=>rw[hfn]at hc;cases hc
  |some fn=>
    rw[hfn]at hc;simp only[aa,cK]at hc;unfold execOp;simp only[ho,resolve,hcal,hfv,Deferred.ofValue,invoke,yD,vE,jD,callFunc,run_program,hfn,hc.2,aF,if_false];have hbs:fn.body.isNone=false:=by cases hbd:fn.body<;>simp[hbd]at hc⊢
    rw[hbs];simp only[aF,if_false,vE];congr 2;apply yJ;simp
theorem r0N (h:Slots n w K D ρ a.tmps)(hb:Op.inB n o.op=yB) {f:FuncId} {args:List SV} (hc:g0I ρ o=qB (f,args)):
    ∃vals:List Value,(b0u P f=yB->(execOp a.eval o).run P w= .ok (.enter f vals.toArray) w)/\vals.length=args.length/\(∀(j:Nat) (x:Value) (c:SV),vals[j]?=qB x->args[j]?=qB c->Rep w K D x c):=by
  unfold g0I at hc;split at hc;rename_i c ho;unfold s0z at hc;split at hc;rename_i fo hcal;split at hc;rename_i f' first captured hfe
  cases hl:c.args.toList.mapM (a0G ρ)with
  |none=>rw[hl]at hc;cases hc
  |some l=>
    rw[hl]at hc;cases hc;unfold Op.inB at hb;rw[aQ]at hb;have hfr:=a0i h (hb fo (by simp[ho,oB,Call.operands,hcal])) hfe;generalize hfv:a.eval fo=fv at hfr
    cases hfr with
    |fn _ fs caps _ _ hc1 hc2 hr1 hr2=>
      obtain⟨l1,l2⟩:=E0I h c.args.toList l (λx hx=>hb x (by simp only[ho,oB,Call.operands];exact bn.2 (.inr (aK.1 hx)))) hl;refine⟨fs++c.args.toList.map a.eval++caps,λhcb=>by simpa using w0L (P:=P) (w:=w) ho hcal hfv hcb,by simp[hc1,hc2];simpa using l1.symm,λj x y0 hx hy0=> ?_⟩;rw[aL]at hx hy0;have hle:(first++l).length=(fs++c.args.toList.map a.eval).length:=by simp only[aA];omega
      rw[hle]at hy0;split at hx;rename_i hj;rw[qC hj]at hy0;rw[aL]at hx hy0;rw[hc1]at hy0;split at hx;rename_i hj2;rw[qC hj2]at hy0;exact hr1 j x y0 hx hy0;rename_i hj2;rw[wC hj2]at hy0;exact l2 _ x y0 hx hy0;rename_i hj;rw[wC hj]at hy0;exact hr2 _ x y0 hx hy0
  cases hc;cases hc;cases hc
theorem p0M(h:Inv F w K D H ρ a.tmps)(hd:a.defers=F.ds)(hb:Op.inB F.n o.op=yB) {f:FuncId} {args:List SV} (hc:g0I ρ o=qB (f,args)) {v:SV} {H':a0e} (hs:SC P f args H v H')
 (hK: ∀a' w',St F (m0X ρ o.dst v) H' a' w'->KR a' w'):o.wp P a w KR Q:=by
  obtain⟨vals,hrun,hl,hr⟩:=r0N (P:=P) h.slots hb hc;unfold Oper.wp;rw[hrun hs.1];refine(hs.2 w K D vals hl hr h.hinv h.slots.glob).mono ?_;rintro e w' ⟨r,rfl,g⟩;exact hK _ _ ⟨by rw[a0O];exact hd,h.step g o.dst⟩
theorem B0k(h:Inv F w K D H ρ a.tmps)(hd:a.defers=F.ds)(hb:Op.inB F.n o.op=yB) {idx:Nat} (hidx:CanNew H idx) {ef:Eff} (he:a0H P o ρ H idx=qB ef)
 (hK: ∀a' w',St F (m0X ρ o.dst ef.v) (b0e H ef.wr) a' w'->KR a' w'):o.wp P a w KR Q:=by
  obtain⟨r,w',hrun,g⟩:=z0U h.hinv h.slots hb hidx he;unfold Oper.wp;rcases hrun with hrun|⟨hrun,hr⟩;rw[hrun];exact hK _ _ ⟨by rw[a0O];exact hd,h.step g o.dst⟩;rw[hrun];subst hr;exact hK _ _ ⟨by rw[a0O];exact hd,h.step g o.dst⟩
theorem v0s(h:Inv F w K D H ρ a.tmps)(d:Option Nat):Inv F w K D H (m0X ρ d (.tup [])) (a.put d undef).tmps:=
  ⟨h.slots.put d (.tup [] [] rfl (λj v c e=>by simp at e)),h.hinv,h.grow⟩
def Oper.inB(n:Nat)(ops:Array Oper)(o:Oper):Bool:=
  Op.inB n o.op&&(match o.guard with
    |none=>yB
    |some (j,_)=>match(ops[j]?).bind (·.dst)with
      |some d=>wB (d<n)
      |none=>yB)
theorem Oper.inB_guard (h:Oper.inB n ops o=yB): ∀j want d,o.guard=qB (j,want)->(ops[j]?).bind (·.dst)=qB d->d<n:=by
  intro j want d hg hd;unfold Oper.inB at h;rw[hg]at h;simp only[aa]at h;have:=h.2;rw[hd]at this;simpa using this
theorem Oper.inB_op (h:Oper.inB n ops o=yB):Op.inB n o.op=true:=by
  unfold Oper.inB at h;simp only[aa]at h;exact h.1
end
end
section
variable [Inhabited GT]
theorem Good.freeze {K:Nat->Nat} {D:DM} {H H':a0e} {e:Nat} {cs:List SV} (hg:Good w K D H r w' (.vc i) H')(hi:H'[i]?=qB (.vec n k e cs)):Good w K D H r w' (.lst n k cs) (H'.set i .gone):=by
  obtain⟨K1,D1,g,hv,hr⟩:=hg;have hil:i<H'.length:=(ab.1 hi).1;obtain⟨hp,hent⟩:=hv.ent i _ hi
  have hget: ∀j en,(H'.set i .gone)[j]?=qB en->(j=i/\en= .gone)\/(j≠i/\H'[j]?=qB en):=by
    intro j en hj;rw[aN]at hj;by_cases hji:i=j;subst hji;rw[qC rfl,qC hil]at hj;cases hj;exact .inl ⟨rfl,rfl⟩;rw[wC hji]at hj;exact .inr ⟨Ne.symm hji,hj⟩
  have key: ∃K':Nat->Nat,(∀b,K1 b<=K' b)/\(∀v,Rep w' K1 D1 v (.vc i)->Rep w' K' D1 v (.lst n k cs))/\(∀b,K' b≠K1 b->Mem D1 H' b)/\(∀j en b c n',j≠i->H'[j]?=qB en->h0p en=yB->D1 j=qB (.at b c n')->K' b=K1 b):=by
    rcases hent with⟨h1,h2,h3⟩|⟨b,c,vs,rest,h1,h2,h3,h4,h5,h6,h7,h8,h9⟩;subst h2;subst h3;refine⟨K1,λ_=>aj _,λv hv=> ?_,λb hb=>absurd rfl hb,λ_ _ _ _ _ _ _ _ _=>rfl⟩
    cases hv with
    |vcn _ ad hd=>exact .emp _ _ _
    |vc _ b c n hd=>rw[h1]at hd;cases hd
    have hmono: ∀b',K1 b'<=(if b'=b then n*k else K1 b'):=λb'=>by
      split;rename_i e1;subst e1;omega;exact aj _
    refine⟨λb'=>if b'=b then n*k else K1 b',hmono,λv hv=> ?_,λb' hb'=> ?_,λj en b' c' n' hji hj hl hdj=> ?_⟩
    cases hv with
    |vcn _ ad hd=>rw[h1]at hd;cases hd
    |vc _ b' c' n' hd=>
      rw[h1]at hd;cases hd;have hrow:=g0G h6 h9;have hm: ∀v s,Rep w' K1 D1 v s->Rep w' (λb'=>if b'=b then n*k else K1 b') D1 v s:=λv s hr=>hr.mono (λ_ _ _=>rfl) hmono (λ_ _ e=>e)
      exact .lst k b 0 n c vs cs h3 h7 h9.len h4 hrow.mem (by simp[h7]) h9.one hp (λj v c hv hc=>hm _ _ (h9.rep j v c hv hc))
    have:b'=b:=by
      rcases Nat.decEq b' b with hne|he;exact absurd (wC hne) hb';exact he
    subst this;exact⟨i,_,c,n,hi,rfl,h1⟩;refine wC λe1=> ?_
    subst e1;exact hji (hv.inj j i en _ b' c' n' c n hj hi hl rfl hdj h1)
  obtain⟨K',k1,k2,k3,k4⟩:=key;have hm: ∀v s,Rep w' K1 D1 v s->Rep w' K' D1 v s:=λv s hr=>hr.mono (λ_ _ _=>rfl) k1 (λ_ _ e=>e)
  have hmem: ∀b,Mem D1 (H'.set i .gone) b->Mem D1 H' b:=by
    rintro b ⟨j,en,c,n',q1,q2,q3⟩;rcases hget j en q1 with⟨_,rfl⟩|⟨_,g1⟩;cases q2;exact⟨j,en,c,n',g1,q2,q3⟩
  refine⟨K',D1,⟨g.os,g.tape,g.output,g.size,g.block,g.cells,λb=>aG (g.le b) (k1 b),λb hb hmm=> ?_,g.dd,λb hmm=>g.new b (hmem b hmm)⟩,
    ⟨λj hj=>hv.dom j (by simpa using hj),λj en hj=> ?_,λj j' en en' b c n1 c' n1' hj hj' hl hl' hdj hdj'=> ?_,λb hb=> ?_⟩,k2 _ hr⟩
  by_cases hbb:K' b=K1 b;rw[hbb];exact g.kk b hb hmm;rcases g.new b (k3 b hbb)with q|q;exact absurd q hmm;omega;rcases hget j en hj with⟨_,rfl⟩|⟨hne,g1⟩;trivial;exact(hv.ent j en g1).keep hm rfl (λb c n' hl hd=>⟨rfl,k4 j en b c n' hne g1 hl hd⟩);rcases hget j en hj with⟨_,rfl⟩|⟨_,g1⟩;cases hl;rcases hget j' en' hj' with⟨_,rfl⟩|⟨_,g1'⟩;cases hl';exact hv.inj j j' en en' b c n1 c' n1' g1 g1' hl hl' hdj hdj';by_cases hbb:K' b=K1 b;rw[hbb]at hb;exact hv.kw b hb;exact(k0I hv (k3 b hbb)).1
def t0E(ef:Eff)(idx:Nat)(H:a0e):Option Eff:=
  match ef.v,ef.wr.getLast? with
  | .vc j,qB (i, .vec n k e cs)=>if i=idx/\j=idx/\idx<H.length then qB ⟨.lst n k cs,ef.rd,ef.wr++ [(idx, .gone)]⟩else none
  |_,_=>none
def n0A(P:Program)(o:Oper)(ρ:Env)(H:a0e)(idx:Nat):Option Eff:=
  match a0H P o ρ H idx with
  |some ef=>t0E ef idx H
  |none=>none
theorem m0s: ∀(a b:List (Nat×Ent)) (H:a0e),b0e H (a++b)=b0e (b0e H a) b
  | [],b,H=>rfl
  |(i,en)::a,b,H=>by simp only[be,b0e];exact m0s a b _
theorem y0s(H:a0e)(i:Nat)(en:Ent):H.length<=(i0h H i en).length:=by
  unfold i0h;split<;>simp
theorem m0r: ∀(a:List (Nat×Ent)) (H:a0e),H.length<=(b0e H a).length
  | [],H=>aj _
  |(i,en)::a,H=>aG (y0s H i en) (m0r a _)
section
variable {P : Program} {n : Nat} {w : World} {K : Nat -> Nat} {D : DM} {H : a0e} {ρ : Env} {a : Act} {o : Oper} {idx : Nat}
theorem D0e(h:HInv w K D H)(hs:Slots n w K D ρ a.tmps)(hb:Op.inB n o.op=yB)(hidx:CanNew H idx) {ef:Eff} (he:n0A P o ρ H idx=qB ef):q0T P w K D H o a ef.v (b0e H ef.wr):=by
  unfold n0A at he;split at he;rename_i ef0 h0;unfold t0E at he;split at he;rename_i j i m k e cs hv hlast;split at he;rename_i hc;obtain⟨e1,e2,hlt⟩:=hc;cases he;obtain⟨r,w',hrun,hg⟩:=z0U h hs hb hidx h0;rw[hv,e2]at hg;rw[e1]at hlast
  have hwr: ∃q,ef0.wr=q++ [(idx, .vec m k e cs)]:=by
    obtain⟨q,hq⟩:=List.getLast?_eq_some_iff.1 hlast;exact⟨q,hq⟩
  obtain⟨q,hwr⟩:=hwr;have hHl:idx<(b0e H ef0.wr).length:=ba hlt (m0r _ _)
  have hget:(b0e H ef0.wr)[idx]?=qB (.vec m k e cs):=by
    rw[hwr,m0s];have hl2:idx<(b0e H q).length:=ba hlt (m0r _ _);simp only[b0e,i0h,qC hl2];rw[aN,qC rfl,qC hl2]
  refine⟨r,w',hrun, ?_⟩;rw[m0s];simp only[b0e,i0h,qC hHl];exact hg.freeze hget;cases he;cases he;cases he
theorem D0f {ρ':Env} {H':a0e} {ef:Eff} (h: ∀x∈o.op.operands,a0G ρ x=a0G ρ' x)(he:n0A P o ρ H idx=qB ef)(hl:H'.length=H.length)(hr: ∀i∈ef.rd,H'[i]?=H[i]?):n0A P o ρ' H' idx=qB ef:=by
  unfold n0A at he⊢
  split at he
  · rename_i ef0 h0
    have hrd:ef0.rd=ef.rd:=by
      unfold t0E at he
      split at he
      · split at he<;>cases he
        rfl
      cases he
    rw[n0z h h0 (by rw[hrd];exact hr)];simp only;unfold t0E at he⊢;rw[hl];exact he
  cases he
end
section
variable {P : Program} {F : Fr} {w : World} {K : Nat -> Nat} {D : DM} {H : a0e} {ρ : Env} {a : Act} {o : Oper} {Q : Exit -> Act -> World -> Prop}
theorem K0C(h:Inv F w K D H ρ a.tmps)(hd:a.defers=F.ds)(hb:Op.inB F.n o.op=yB) {idx:Nat} (hidx:CanNew H idx) {ef:Eff} (he:n0A P o ρ H idx=qB ef)
 (hK: ∀a' w',St F (m0X ρ o.dst ef.v) (b0e H ef.wr) a' w'->KR a' w'):o.wp P a w KR Q:=by
  obtain⟨r,w',hrun,g⟩:=D0e h.hinv h.slots hb hidx he;unfold Oper.wp;rcases hrun with hrun|⟨hrun,hr⟩;rw[hrun];exact hK _ _ ⟨by rw[a0O];exact hd,h.step g o.dst⟩;rw[hrun];subst hr;exact hK _ _ ⟨by rw[a0O];exact hd,h.step g o.dst⟩
end
end
section
variable [Inhabited GT]
def B0r(P:Program)(t k:Nat):Bool:=match P.underlying t with
  |some (.slice e)=>vC k (P.cellsOf e)&&qE 0 k
  |_=>vB
theorem s0w {t:Nat} (h:B0r P t k=yB): ∃e,P.underlying t=qB (.slice e)/\k=P.cellsOf e/\0<k:=by
  unfold B0r at h;split at h;rename_i e he;simp only[aa]at h;exact⟨e,he,ae h.1,ag h.2⟩;cases h
def k0h(P:Program)(o:Oper)(ρ:Env)(H:a0e):Option (Eff×Bool):=match o.op with
  | .slice t x (qB lo) none none=>match a0G ρ x,a0G ρ lo with
    |some (.vc i),qB (.int _ j)=>match H[i]? with
      |some (.vec n k _ _)=>qB (⟨.sl i (j.toNat*k) (n-j.toNat) k,[i],[]⟩,B0r P t k&&(wB (0<=j)&&wB (j<n)))
      |_=>none
    |_,_=>none
  | .slice t x none (qB hi) none=>match a0G ρ x,a0G ρ hi with
    |some (.vc i),qB (.int _ j)=>match H[i]? with
      |some (.vec n k _ _)=>qB (⟨.sl i 0 j.toNat k,[i],[]⟩,B0r P t k&&(qE 0 n&&(wB (0<=j)&&wB (j<=n))))
      |_=>none
    |_,_=>none
  | .call c=>match c.callee,c.args.toList,c.argTypes.toList with
    | .builtin .copy,[x,y],[t,tx]=>match a0G ρ x,a0G ρ y with
      |some (.sl i off n k),qB (.sl i2 off2 m k2)=>match H[i]? with
        |some (.vec N k3 e' cs)=>qB (⟨.int .i64 ((min m n:Nat):Int),[i],[(i, .vec N k3 e' (splice cs off (((cs.drop off2).take (m*k)).take (min m n*k))))]⟩,
            (vC i2 i&&(vC k2 k&&vC k3 k))&&(B0r P t k&&(B0r P tx k&&(qD (off+n*k) cs.length&&qD (off2+m*k) cs.length))))
        |_=>none
      |_,_=>none
    |_,_,_=>none
  |_=>none
section
variable {P : Program} {n : Nat} {w : World} {K : Nat -> Nat} {D : DM} {H : a0e} {ρ : Env} {a : Act} {o : Oper}
theorem K0c(h:HInv w K D H) {e:Nat} {cs:List SV} (hr:Rep w K D v (.vc i))(hi:H[i]?=qB (.vec m k e cs))(hm:0<m):
    ∃b c vs rest,v= .slice (qB ⟨b,0,none⟩) m c/\D i=qB (.at b c m)/\m<=c/\w.heap[b]?=qB (.cells (vs++rest).toArray e (0,0))/\CR w K D vs cs/\vs.length=m*k/\a0Q cs=true:=by
  obtain⟨hp,hent⟩:=h.ent i _ hi;rcases hent with⟨h1,h2,h3⟩|⟨b,c,vs,rest,h1,h2,h3,h4,h5,h6,h7,h8,h9⟩;omega;refine⟨b,c,vs,rest, ?_,h1,h4,h6,h9,h7,hp⟩
  cases hr with
  |vcn _ ad hd=>rw[h1]at hd;cases hd
  |vc _ b' c' n' hd=>rw[h1]at hd;cases hd;rfl
theorem D0g(h:HInv w K D H)(hs:Slots n w K D ρ a.tmps)(hb:Op.inB n o.op=yB) {ef:Eff} (he:k0h P o ρ H=qB (ef,yB)):q0T P w K D H o a ef.v (b0e H ef.wr):=by
  unfold Op.inB at hb;rw[aQ]at hb;unfold k0h at he;split at he;rename_i t x lo ho;split at he;rename_i i kd j hx hlo;split at he;rename_i m k e cs hi;simp only[ah,aD,aa,decide_eq_true_eq]at he;obtain⟨rfl,hc,hj0,hj⟩:=he;obtain⟨e2,hu,hk,hk0⟩:=s0w hc;have hr:=a0i hs (hb x (by simp[ho,oB])) hx;have hr2:=a0i hs (hb lo (by simp[ho,oB])) hlo;generalize hv:a.eval x=vx at hr;generalize hv2:a.eval lo=vl at hr2;cases hr2;obtain⟨b,c,vs,rest,rfl,hd,hmc,_⟩:=K0c h hr hi cV;have hne: ¬c=j.toNat:=by omega
  refine g0s h (v:= .slice (qB ⟨b,j.toNat*k,none⟩) (m-j.toNat) (c-j.toNat)) ?_ (.sl i _ _ k b c m _ hd cV);unfold execOp;simp only[ho];have hjm:j<=(m:Int):=by omega
  simp[vG,oJ,wE,vI,asIntOf,run_underlying hu,b0Y (show 0<P.cellsOf e2 by rw[<-hk];exact hk0),hv,hv2,hj0,hjm,hne,Addr.add,<-hk];exact λq=>q.symm
  cases he;cases he;rename_i t x hi0 ho;split at he;rename_i i kd j hx hhi;split at he;rename_i m k e cs hi;simp only[ah,aD,aa,decide_eq_true_eq]at he;obtain⟨rfl,hc,hm0,hj0,hj⟩:=he;obtain⟨e2,hu,hk,hk0⟩:=s0w hc;have hm0:0<m:=ag hm0;have hr:=a0i hs (hb x (by simp[ho,oB])) hx;have hr2:=a0i hs (hb hi0 (by simp[ho,oB])) hhi;generalize hv:a.eval x=vx at hr;generalize hv2:a.eval hi0=vl at hr2;cases hr2;obtain⟨b,c,vs,rest,rfl,hd,hmc,_⟩:=K0c h hr hi cV;have hc0: ¬c=0:=by omega
  refine g0s h (v:= .slice (qB ⟨b,0,none⟩) j.toNat c) ?_ (.sl i _ _ k b c m _ hd cV);unfold execOp;simp only[ho];have hjc:j<=(c:Int):=by omega
  simp[vG,oJ,wE,vI,asIntOf,run_underlying hu,b0Y (show 0<P.cellsOf e2 by rw[<-hk];exact hk0),hv,hv2,hj0,hjc,hc0,Addr.add,<-hk];cases he;cases he;rename_i c ho;split at he;rename_i x y t tx hcal hargs htys;have ha:c.args= #[x,y]:=by rw[<-aZ];exact hargs
  have hty:c.argTypes= #[t,tx]:=by rw[<-aZ];exact htys
  split at he;rename_i i off nn k i2 off2 m k2 hx hy;split at he;rename_i N k3 e' cs hi;simp only[ah,aD,aa]at he;obtain⟨rfl,⟨q1,q2,q3⟩,q4,q5,q6,q7⟩:=he;have q1:=ae q1;have q2:=ae q2;have q3:=ae q3;subst q1;subst q2;subst q3;obtain⟨e2,hu,hk,hk0⟩:=s0w q4;obtain⟨e3,hu3,_,_⟩:=s0w q5;have q6:=ag q6;have q7:=ag q7;have hil:i2<H.length:=(ab.1 hi).1;have hset: ∀en,i0h H i2 en=H.set i2 en:=λen=>by unfold i0h;rw[qC hil]
  simp only[b0e,hset]
  have hrun: ∀r w',(Builtin.copy_ #[t,tx] o.type #[a.eval x,a.eval y]).run P w= .ok r w'->(execOp a.eval o).run P w= .ok (.value r) w':=λr w' hr=>by
    unfold execOp;simp only[ho,resolve,hcal,ha,hty,invoke,builtin,yD,vE,jD,bU,al,aE,hr]
  have hr:=a0i hs (hb x (by simp only[ho,oB,Call.operands];exact bn.2 (.inr (by rw[ha];simp)))) hx;have hr2:=a0i hs (hb y (by simp only[ho,oB,Call.operands];exact bn.2 (.inr (by rw[ha];simp)))) hy;generalize hv:a.eval x=vx at hr hrun;generalize hv2:a.eval y=vy at hr2 hrun
  cases hr with
  |sl _ _ _ _ b c1 m1 cap1 hd hcap1=>
    cases hr2 with
    |sl _ _ _ _ b2 c2 m2 cap2 hd2 hcap2=>
      rw[hd]at hd2;cases hd2;obtain⟨vs,rest,e4,hheap,hcr,_,_⟩:=v0P h hi hd rfl;have hp:a0Q cs=true:=(h.ent _ _ hi).1;have hrow:=g0G hheap hcr;have hrow':=(hrow.drop off2).take (m*k3);rw[aY]at hrow';have hvl:=hcr.len;have hsrc:SrcAt P w K D k3 tx (.slice (qB ⟨b,off2,none⟩) m cap2) m ((vs.drop off2).take (m*k3)) ((cs.drop off2).take (m*k3)):=p0W hu3 hrow' (by simp only[aB,aV];omega) (f0M (i0k hp _) _);have hcx:CR w K D (((vs.drop off2).take (m*k3)).take (min m nn*k3)) (((cs.drop off2).take (m*k3)).take (min m nn*k3)):=hsrc.cr.take _;have hmk2:min m nn*k3<=nn*k3:=aJ _ (Nat.min_le_right _ _);obtain⟨w',hst,hg,hiv⟩:=l0I (P:=P) (off:=off) h hi hd rfl (by rw[aB];omega) hcx (λ_=>f0M (f0M (i0k hp _) _) _);exact⟨_,w', .inl (hrun _ _ (v0W hu hk hk0 hsrc rfl hst)),⟨K,D,hg,hiv, .int _ _⟩⟩
  cases he;cases he;cases he;cases he
theorem D0h {ρ':Env} {H':a0e} {ef:Eff} {b:Bool} (h: ∀x∈o.op.operands,a0G ρ x=a0G ρ' x)(he:k0h P o ρ H=qB (ef,b))(hr: ∀i∈ef.rd,H'[i]?=H[i]?):k0h P o ρ' H'=qB (ef,b):=by
  unfold k0h at he⊢;split at he;rename_i t x lo ho;rw[<-h x (by simp[ho,oB]),<-h lo (by simp[ho,oB])];split at he;rename_i i kd j hx hlo;split at he;rename_i hi;cases he;rw[hr i dB,hi];cases he;cases he;rename_i t x hi0 ho;rw[<-h x (by simp[ho,oB]),<-h hi0 (by simp[ho,oB])];split at he;rename_i i kd j hx hlo;split at he;rename_i hi;cases he;rw[hr i dB,hi];cases he;cases he;rename_i c ho;split at he;rename_i x y t tx hcal hargs htys;have ha:c.args= #[x,y]:=by rw[<-aZ];exact hargs
  rw[<-h x (by simp only[ho,oB,Call.operands];exact bn.2 (.inr (by rw[ha];simp))),<-h y (by simp only[ho,oB,Call.operands];exact bn.2 (.inr (by rw[ha];simp)))];split at he;rename_i i off nn k i2 off2 m k2 hx hy;split at he;rename_i hi;cases he;rw[hr i dB,hi];cases he;cases he;cases he;cases he
end
section
variable {P : Program} {F : Fr} {w : World} {K : Nat -> Nat} {D : DM} {H : a0e} {ρ : Env} {a : Act} {o : Oper} {Q : Exit -> Act -> World -> Prop}
theorem K0D(h:Inv F w K D H ρ a.tmps)(hd:a.defers=F.ds)(hb:Op.inB F.n o.op=yB) {ef:Eff} (he:k0h P o ρ H=qB (ef,yB))
 (hK: ∀a' w',St F (m0X ρ o.dst ef.v) (b0e H ef.wr) a' w'->KR a' w'):o.wp P a w KR Q:=by
  obtain⟨r,w',hrun,g⟩:=D0g h.hinv h.slots hb he;unfold Oper.wp;rcases hrun with hrun|⟨hrun,hr⟩;rw[hrun];exact hK _ _ ⟨by rw[a0O];exact hd,h.step g o.dst⟩;rw[hrun];subst hr;exact hK _ _ ⟨by rw[a0O];exact hd,h.step g o.dst⟩
end
end
end Go.Sy
