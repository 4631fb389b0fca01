/-
 The second shadow machine: ranges over maps.
-/
import Derived.Test.YtcapcgbamehojaaGreatDoorSyV
import Derived.Laws.IdiomRangeMap
namespace Go.Sy
open Go Go.RowKit
set_option linter.unusedSimpArgs false
set_option linter.unusedVariables false
set_option linter.unusedSectionVars false
variable [Inhabited GT]
theorem x0e {P:Program} {c:Code} {Q:Exit→Act→World→Prop} (I:Nat→Act→World→Prop)
  (hs: ∀n a w,I n a w→c.wp P (fun e a' w'=>(e= .normal∧ ∃m,m<n∧I m a' w')∨(e≠ .normal∧Q e a' w')) a w) {n:Nat} {a:Act} {w:World} (h:I n a w):(Code.loop c).wp P Q a w:=by
 have key: ∀n a w,I n a w→ ∀(b:Frame) (k:List Item) (cs:List Frame),∃e a' w',Q e a' w'∧Arrives P (lone (b.at a (.code c:: .inLoop c::k)) cs w) b k cs e a' w':=by
  intro n
  induction n using Nat.strongRecOn with
  |_ n ih=>
   intro a w h b k cs
   obtain⟨e,a₁,w₁,hq,harr⟩:=hs n a w h b (.inLoop c::k) cs
   rcases hq with⟨rfl,m,hm,hi⟩|⟨hne,hq⟩
   ·obtain⟨e₂,a₂,w₂,hq₂,harr₂⟩:=ih m hm a₁ w₁ hi b k cs
    exact⟨e₂,a₂,w₂,hq₂, .of_steps (Steps.trans harr (.one step_inLoop)) harr₂⟩
   ·refine⟨e,a₁,w₁,hq, ?_⟩
    cases e with
    |normal=>exact absurd rfl hne
    |exit id=>exact .pass (x:= .inLoop c) rfl (fun _ _=> .inl (by simp)) harr
    |goto l=>exact .pass (x:= .inLoop c) rfl (fun _ _=> .inl (by simp)) harr
    |ret=>exact .pass (x:= .inLoop c) rfl (fun _ _=> .inl (by simp)) harr
    |panic ch=>exact .pass (x:= .inLoop c) rfl (fun _ _=> .inl (by simp)) harr
    |outgrown=>exact .pass (x:= .inLoop c) rfl (fun _ _=> .inl (by simp)) harr
 intro b k cs
 obtain⟨e,a',w',hq,harr⟩:=key n a w h b k cs
 exact⟨e,a',w',hq, .of_steps (.one step_loop) harr⟩
def o0h(n:Nat)(seen:Array Nat):Nat:=((List.range n).filter fun j=> !seen.contains j).length
theorem A0Y {mes:Array MapEntry} {c:Nat} (h:B0k mes c):mes.toList.map (·.born)=List.range mes.size:=by
 apply bC
 intro j
 rw[am]
 by_cases hj:j<mes.size
 ·rw[bG hj,bZ,aW hj]
  simp only[aI]
  rw[h.2 j mes[j] (aW hj)]
 ·rw[aw (by simpa using hj),aw (by simpa using hj)];rfl
theorem u0v {mes:Array MapEntry} {c:Nat} {seen:Array Nat} (h:B0k mes c):(leftOf mes seen).size=o0h mes.size seen:=by
 unfold o0h leftOf
 rw[←A0Y h,List.filter_map,cq,←bU,Array.toList_filter]
 rfl
theorem v0Z {n:Nat} {seen:Array Nat} {j:Nat} (hj:j<n)(hs:seen.contains j=false):o0h n (seen.push j)<o0h n seen:=by
 unfold o0h
 refine filter_lt (fun i=> !seen.contains i) (fun i=> !(seen.push j).contains i) (fun x hx=> ?_) j (by simpa using hs) (by rw[contains_push];simp) (List.range n) (bf.2 hj)
 rw[contains_push]at hx
 simp at hx⊢
 exact hx.1
theorem z0s {P:Program} (w:World)(ty:TypeId)(r bm since c0:Nat)(seen:Array Nat)(es:Array MapEntry)(clock:Nat)(hr:w.heap[r]?=some (.mapIter (some bm) since seen c0))(hb:w.heap[bm]?=some (.map es clock))
  (hold: ∀x∈es.toList,x.born<since) (hsc:since≤c0):
  ((leftOf es seen).size=0∧(Instr.next (.pointer (some ⟨r,0,none⟩)) false ty).run P w= .ok (.tuple #[.bool false]) w)∨
  ∃e∈(leftOf es seen).toList,∃w1:World,(w1=w∨w1=w.drew)∧(Instr.next (.pointer (some ⟨r,0,none⟩)) false ty).run P w= .ok (.tuple #[.bool true,e.key,e.val]) { w1 with heap:=w1.heap.setIfInBounds r (.mapIter (some bm) since (seen.push e.born) clock) } :=by
 have hrl:r<w.heap.size:=(aj.1 hr).1
 simp only[Instr.next,getObj,Sem.run_bind,Sem.run,hr,hb,Result.andThen,next_test_false seen es since c0 hold hsc,aE,if_false]
 unfold leftOf
 have hmem: ∀x∈(Array.filter (fun e=> !seen.contains e.born) es).toList,x.born<since:=fun x hx=>hold x (by simp at hx⊢;exact hx.1)
 generalize Array.filter (fun e=> !seen.contains e.born) es=L at hmem⊢
 have e1:L.filter (fun x=>decide (x.born<since))=L:=Array.filter_eq_self.2 (fun x hx=>by simpa using hmem x (by simpa using hx))
 have e2:L.filter (fun x=>decide (x.born≥since))= #[]:=by
  rw[Array.filter_eq_empty_iff]
  intro x hx
  have:=hmem x (by simpa using hx)
  simp
  omega
 simp only[e1,e2,Array.append_empty]
 by_cases h0:L.size=0
 ·left
  have:L= #[]:=Array.eq_empty_of_size_eq_zero h0
  subst this
  refine⟨rfl, ?_⟩
  simp[choose,Sem.run,Question.forced]
 ·right
  have hne:L.isEmpty=false:=by simp[Array.isEmpty,h0]
  simp only[hne,aE,if_false,Array.empty_append,Array.size_map]
  have hch: ∃(j:Nat) (w1:World),j<L.size∧(w1=w∨w1=w.drew)∧(choose (Question.mapNext L.size)).run P w= .ok j w1:=by
   by_cases hf:L.size≤1
   ·exact⟨0,w,by omega, .inl rfl,by simp[choose,Sem.run,Question.forced,hf]⟩
   ·exact⟨_,w.drew,Nat.mod_lt _ (by omega), .inr rfl,by
     simp only[choose,Sem.run,Question.forced,decide_eq_true_eq,hf,if_false,Question.cut]
     rfl⟩
  obtain⟨j,w1,hj,hal,hrun⟩:=hch
  refine⟨L[j],by simp,w1,hal, ?_⟩
  have hget:w1.heap[r]?=some (.mapIter (some bm) since seen c0):=by
   rcases hal with rfl|rfl
   ·exact hr
   ·exact hr
  have hset: ∀o':Obj,(setObj r o').run P w1= .ok () { w1 with heap:=w1.heap.setIfInBounds r o' } :=fun o'=>by
   simp only[setObj,Sem.run,hget]
  simp only[hrun,Array.getElem?_map,aW hj,aI,Sem.run_bind,hset,Result.andThen]
  rfl
section
variable {F : Fr} {P : Program} {L : LE} {H : a0o} {Q : h0f} {ops : Array Oper} {p : Nat} {tr : List (List Nat × List Nat)}
def v0u(P:Program)(ops:Array Oper)(p:Nat)(L:LE)(H:a0o):Option (Option Nat×Nat×Nat):=
 match ops.toList[p]? with
 |some o=>match c0P ops (b0s L) o,o.op with
  |some true, .range t x=>match P.underlying t,a0Y (b0s L) x with
   |some (.map _ _),some (.mp i)=>match H[i]? with
    |some (.map es)=>some (o.dst,i,es.length)
    |_=>none
   |_,_=>none
  |_,_=>none
 |none=>none
theorem RJ.range {d:Option Nat} {i n:Nat} (h:v0u P ops p L H=some (d,i,n))(k:RJ F P none ops (p+1) tr (g0e L d (.ptr H.length 0)) (H++ [.itr i n []]) Q):RJ F P none ops p tr L H Q:=by
 unfold v0u at h
 split at h
 ·rename_i o ho
  split at h
  ·rename_i t x hg hop
   split at h
   ·rename_i kt et i' hu hxe
    split at h
    ·rename_i es hH
     simp only[ai,aP]at h
     obtain⟨rfl,rfl,rfl⟩:=h
     intro hin a w hs
     have hbo:Oper.inB F.n ops o=true:=List.all_eq_true.1 hin o (l0O ho)
     obtain⟨hd,K,D,hi⟩:=hs
     rw[d0N ho]
     refine wpList_step fun KK hKK=> ?_
     rw[c0h hi.slots (Oper.inB_guard hbo) hg,if_pos rfl]
     have hx:Operand.inB F.n x=true:=by
      have hb:=Oper.inB_op hbo
      unfold Op.inB at hb
      rw[hop]at hb
      simpa [Op.operands]using hb
     obtain⟨r,c,m,hvx,hdi⟩:=o0Y (a0j hi.slots hx hxe)
     obtain⟨r',mes,clock,h1,h2,h3,h4,hB,h5⟩:=hi.hinv.ent _ _ hH
     rw[h1]at hdi;cases hdi
     have hrun:(execOp a.eval o).run P w= .ok (.value (.pointer (some ⟨w.heap.size,0,none⟩))) (w.alloc (.mapIter (some r) clock #[] clock)):=by
      unfold execOp
      rw[hop]
      exact b0E (by rw[hvx];exact run_range_map w t kt et r mes clock hu h3)
     have hK0:K w.heap.size=0:=by
      rcases bv (K w.heap.size)with h0|h0
      ·exact h0
      ·have:=hi.hinv.kw w.heap.size (by omega);omega
     have hold: ∀b,b<w.heap.size→(w.alloc (.mapIter (some r) clock #[] clock)).heap[b]?=w.heap[b]?:=fun b hb=>by show(w.heap.push _)[b]?=_;rw[bF,if_neg (by omega)]
     have hcl:clock=es.length:=by rw[hB.1,h4]
     obtain⟨g,hi'⟩:=place (w':=w.alloc (.mapIter (some r) clock #[] clock)) (en:= .itr i' es.length []) (b:=w.heap.size) (c:=0) (m:=0) hi.hinv (idx:=H.length) (.inl rfl) (x:=none) (by simp) (.inl (ak _)) rfl rfl rfl (by simp) (fun b' _ hlt=>hold b' hlt)
      (fun hr=>⟨_,r,clock,by simp[f0e],hK0,by subst hcl;show(w.heap.push _)[w.heap.size]?=_;simp,by omega,hr _ _ (.mp i' r 0 0 h1)⟩)
     rw[f0a]at g hi'
     have hset:g0w H H.length (.itr i' es.length [])=H++ [.itr i' es.length []]:=by unfold g0w;rw[if_neg (by omega)]
     rw[hset]at g hi'
     unfold Oper.wp
     rw[hrun]
     refine hKK _ _ (k hin _ _ ?_)
     refine⟨by rw[b0D];exact hd, ?_⟩
     have:=hi.step (d:=o.dst) ⟨K,_,g,hi', .ptr H.length 0 w.heap.size 0 0 (by simp[f0e])⟩
     rw[c0K]at this
     exact this
    ·cases h
   ·cases h
  ·cases h
 ·cases h
theorem RJ.next {o:Oper} {x:Operand} {j i n:Nat} {s:List Nat} {es:List (SV×SV)} (ho:ops.toList[p]?=some o)(hg:o.guard=none)(hop:o.op= .next x false)(hxe:a0Y (b0s L) x=some (.ptr j 0))(hj:H[j]?=some (.itr i n s))(hH:H[i]?=some (.map es))(hn:es.length=n)
  (k0:o0h n s.toArray=0→RJ F P none ops (p+1) tr (g0e L o.dst (.tup [.bool false])) H Q)
  (k1: ∀b,b<n→s.contains b=false→RJ F P none ops (p+1) tr (g0e L o.dst (.tup [.bool true, .undef, .undef])) (H.set j (.itr i n (s++ [b]))) Q):RJ F P none ops p tr L H Q:=by
 intro hin a w hs
 have hbo:Oper.inB F.n ops o=true:=List.all_eq_true.1 hin o (l0O ho)
 obtain⟨hd,K,D,hi⟩:=hs
 rw[d0N ho]
 refine wpList_step fun KK hKK=> ?_
 rw[c0h hi.slots (Oper.inB_guard hbo) (b:=true) (by unfold c0P;rw[hg]),if_pos rfl]
 have hx:Operand.inB F.n x=true:=by
  have hb:=Oper.inB_op hbo
  unfold Op.inB at hb
  rw[hop]at hb
  simpa [Op.operands]using hb
 obtain⟨r,c,m,hvx,hdj⟩:=m0t (a0j hi.slots hx hxe)
 obtain⟨r',bm,c0,e1,e2,e3,e4,e5⟩:=hi.hinv.ent _ _ hj
 rw[e1]at hdj;cases hdj
 obtain⟨rm,mes,clock,h1,h2,h3,h4,hB,h5⟩:=hi.hinv.ent _ _ hH
 obtain⟨_,_,_,hv,hdi⟩:=o0Y e5
 cases hv
 rw[h1]at hdi;cases hdi
 have hsz:mes.size=n:=by rw[←h4];exact hn
 have hold: ∀y∈mes.toList,y.born<n:=fun y hy=>by
  obtain⟨q,hq,rfl⟩:=List.mem_iff_getElem.1 hy
  have hq':q<mes.size:=by simpa using hq
  have:=hB.2 q mes[q] (aW hq')
  have e:mes.toList[q]=mes[q]:=by simp
  rw[e,this];omega
 have hrv:(execOp a.eval o)=(do pure (Next.value (←Instr.next (a.eval x) false o.type))):=by unfold execOp;rw[hop]
 rcases z0s (P:=P) w o.type r bm n c0 s.toArray mes clock e3 h3 hold (by omega)with⟨hz,hrun⟩|⟨e,he,w1,hal,hrun⟩
 ·unfold Oper.wp
  rw[hrv,b0E (by rw[hvx];exact hrun)]
  refine hKK _ _ (k0 (by rw[u0v hB,hsz]at hz;exact hz) hin _ _ ⟨by rw[b0D];exact hd, ?_⟩)
  have:=hi.step (d:=o.dst) (Good.here hi.hinv (.tup [.bool false] [.bool false] rfl (fun j v c hv hc=>by
   match j with
   |0=>simp at hv hc;subst hv;subst hc;exact .bool _
   |j+1=>simp at hv)))
  rw[c0K]at this
  exact this
 ·obtain⟨hm,hns⟩:=mem_left he
  have hbn:=hold e hm
  have hw1:Grow w K D H w1 K D H∧HInv w1 K D H∧w1.heap=w.heap:=by
   rcases hal with rfl|rfl
   ·exact⟨Grow.refl _ _ _ _,hi.hinv,rfl⟩
   ·exact⟨Grow.drew _ _ _ _,hi.hinv.drew,rfl⟩
  obtain⟨g1,i1,hh⟩:=hw1
  have hrl:r<w1.heap.size:=by rw[hh];exact(aj.1 e3).1
  obtain⟨g2,i2⟩:=modify (w':= { w1 with heap:=w1.heap.setIfInBounds r (.mapIter (some bm) n (s.toArray.push e.born) clock) }) (en':= .itr i n (s++ [e.born])) i1 hj rfl rfl e1 rfl rfl rfl (by simp) (fun b' hb'=>by
    show(w1.heap.setIfInBounds r _)[b']?=_
    rw[Array.getElem?_setIfInBounds_ne (Ne.symm hb')])
   (fun hr=>⟨r,bm,clock,e1,e2,by
    show(w1.heap.setIfInBounds r _)[r]?=_
    rw[Array.getElem?_setIfInBounds_self_of_lt hrl];simp,by rw[hB.1];omega,hr _ _ (.mp i bm 0 0 h1)⟩)
  unfold Oper.wp
  rw[hrv,b0E (by rw[hvx];exact hrun)]
  refine hKK _ _ (k1 e.born hbn (by simpa using hns) hin _ _ ⟨by rw[b0D];exact hd, ?_⟩)
  have:=hi.step (d:=o.dst) ⟨K,D,g1.trans g2,i2, .tup [.bool true,e.key,e.val] [.bool true, .undef, .undef] rfl (fun j v c hv hc=>by
   match j with
   |0=>simp at hv hc;subst hv;subst hc;exact .bool _
   |1=>simp at hv hc;subst hc;exact .undef _
   |2=>simp at hv hc;subst hc;exact .undef _
   |j+3=>simp at hv)⟩
  rw[c0K]at this
  exact this
def w0y(ops:Array Oper)(p:Nat)(L:LE)(H:a0o):Option (Option Nat×Nat×Nat×List Nat):=
 match ops.toList[p]? with
 |some o=>match c0P ops (b0s L) o,o.op with
  |some true, .entry x=>match a0Y (b0s L) x with
   |some (.ptr j off)=>bif Nat.beq off 0 then(match H[j]? with
    |some (.itr i n s)=>some (o.dst,i,n,s)
    |_=>none)else none
   |_=>none
  |_,_=>none
 |none=>none
theorem RJ.entry {d:Option Nat} {i n b:Nat} {s:List Nat} {es:List (SV×SV)} {kv:SV×SV} (h:w0y ops p L H=some (d,i,n,s++ [b]))(hH:H[i]?=some (.map es))(hn:es.length=n)(hb:es[b]?=some kv)
  (k:RJ F P none ops (p+1) tr (g0e L d (.tup [kv.1,kv.2])) H Q):RJ F P none ops p tr L H Q:=by
 unfold w0y at h
 split at h
 ·rename_i o ho
  split at h
  ·rename_i x hg hop
   split at h
   ·rename_i j off hxe
    cases hz:Nat.beq off 0 with
    |false=>rw[hz]at h;cases h
    |true=>
     rw[hz]at h
     simp only[cond_true]at h
     have hoff:off=0:=by simpa using hz
     subst hoff
     split at h
     ·rename_i i' n' s' hj
      simp only[ai,aP]at h
      obtain⟨rfl,rfl,rfl,rfl⟩:=h
      intro hin a w hs
      have hbo:Oper.inB F.n ops o=true:=List.all_eq_true.1 hin o (l0O ho)
      obtain⟨hd,K,D,hi⟩:=hs
      rw[d0N ho]
      refine wpList_step fun KK hKK=> ?_
      rw[c0h hi.slots (Oper.inB_guard hbo) hg,if_pos rfl]
      have hx:Operand.inB F.n x=true:=by
       have hb:=Oper.inB_op hbo
       unfold Op.inB at hb
       rw[hop]at hb
       simpa [Op.operands]using hb
      obtain⟨r,c,m,hvx,hdj⟩:=m0t (a0j hi.slots hx hxe)
      obtain⟨r',bm,c0,e1,e2,e3,e4,e5⟩:=hi.hinv.ent _ _ hj
      rw[e1]at hdj;cases hdj
      obtain⟨rm,mes,clock,h1,h2,h3,h4,hB,h5⟩:=hi.hinv.ent _ _ hH
      obtain⟨_,_,_,hv,hdi⟩:=o0Y e5
      cases hv
      rw[h1]at hdi;cases hdi
      have hbl:b<mes.size:=by rw[←h4];exact(ab.1 hb).1
      have hme:=aW hbl
      have hbo':=hB.2 b mes[b] hme
      have hnd:(mes.toList.map (·.born)).Nodup:=by rw[A0Y hB];exact List.nodup_range
      have hcc:clock=c0:=by rw[hB.1,←h4,hn,e4]
      subst hcc
      have hrun:(Instr.entry (.pointer (some ⟨r,0,none⟩))).run P w= .ok (.tuple #[mes[b].key,mes[b].val]) w:=by
       have hf:mes.find? (·.born==mes[b].born)=some mes[b]:=by rw[←Array.find?_toList];exact find_born mes[b] mes.toList hnd (by simp)
       have e3':w.heap[r]?=some (.mapIter (some bm) n' (s.toArray.push b) clock):=by rw[e3];simp
       rw[hbo']at hf
       simp only[Instr.entry,getObj,Sem.run_bind,Sem.run,e3',h3,Result.andThen,Array.back?_push,bne_self_eq_false,aE,if_false,hf]
       rfl
      have hrv:(execOp a.eval o)=(do pure (Next.value (←Instr.entry (a.eval x)))):=by unfold execOp;rw[hop]
      unfold Oper.wp
      rw[hrv,b0E (by rw[hvx];exact hrun)]
      refine hKK _ _ (k hin _ _ ⟨by rw[b0D];exact hd, ?_⟩)
      obtain⟨q1,q2⟩:=h5 b mes[b] kv hme hb
      have:=hi.step (d:=o.dst) (Good.here hi.hinv (.tup [mes[b].key,mes[b].val] [kv.1,kv.2] rfl (fun j v c hv hc=>by
       match j with
       |0=>simp at hv hc;subst hv;subst hc;exact q1
       |1=>simp at hv hc;subst hv;subst hc;exact q2
       |j+2=>simp at hv)))
      rw[c0K]at this
      exact this
     ·cases h
   ·cases h
  ·cases h
 ·cases h
def k0X {E X:Type} [DecidableEq X](f:E→Option (Unit⊕X)):List E→Option (Unit⊕X)
 | []=>some (.inl ())
 |e::r=>match f e,k0X f r with
  |some (.inl _),y=>y
  |some (.inr x),some (.inl _)=>some (.inr x)
  |some (.inr x),some (.inr y)=>if x=y then some (.inr x)else none
  |_,_=>none
theorem s0l {E X:Type} [DecidableEq X] {f:E→Option (Unit⊕X)} : ∀(ms:List E) (y:Unit⊕X),k0X f ms=some y→
  (∀e∈ms,∃x,f e=some x∧ ∀o,x= .inr o→y= .inr o)∧((∀e∈ms,f e=some (.inl ()))→y= .inl ()):=by
 intro ms
 induction ms with
 |nil=>intro y h;cases h;exact⟨fun e he=>by simp at he,fun _=>rfl⟩
 |cons a r ih=>
  intro y h
  simp only[k0X]at h
  split at h
  ·rename_i u hf
   obtain⟨i1,i2⟩:=ih y h
   refine⟨fun e he=> ?_,fun hall=>i2 fun e he=>hall e (ao _ he)⟩
   rcases aG.1 he with rfl|he
   ·exact⟨_,hf,fun o ho=>by cases ho⟩
   ·exact i1 e he
  ·rename_i x u hf hr
   cases h
   obtain⟨i1,i2⟩:=ih _ hr
   refine⟨fun e he=> ?_,fun hall=>by have:=hall a (by simp);rw[hf]at this;cases this⟩
   rcases aG.1 he with rfl|he
   ·exact⟨_,hf,fun o ho=>ho⟩
   ·obtain⟨x',hx',h'⟩:=i1 e he
    refine⟨x',hx',fun o ho=> ?_⟩
    have:=h' o ho
    cases this
  ·rename_i x z hf hr
   split at h<;>cases h
   rename_i hxz
   subst hxz
   obtain⟨i1,i2⟩:=ih _ hr
   refine⟨fun e he=> ?_,fun hall=>by have:=hall a (by simp);rw[hf]at this;cases this⟩
   rcases aG.1 he with rfl|he
   ·exact⟨_,hf,fun o ho=>ho⟩
   ·exact i1 e he
  ·cases h
def B0m {X:Type} (F:Fr)(Q:h0f)(L:LE)(H:a0o)(y x:Unit⊕X):h0f:=fun e a w=>match x with
 | .inl _=>e= .normal∧Sees F L H a w
 | .inr o=>e≠ .normal∧(y= .inr o→Q e a w)
theorem PJ.mapNext {X:Type} {L2:LE} {H2:a0o} {y:Unit⊕X} (ts:List Nat)(hL:h0O ts L=L2)(hH:H=H2):PJ F (B0m F Q L2 H2 y (.inl ())) .normal L H:=fun a w hs=>by
 subst hH
 exact⟨rfl,by rw[←hL];exact hs.keep (i0G ts L)⟩
theorem PJ.mapOut {X:Type} {L2:LE} {H2:a0o} {y:Unit⊕X} {o:X} {e:Exit} (hne:e≠ .normal)(h:y= .inr o→PJ F Q e L H):PJ F (B0m F Q L2 H2 y (.inr o)) e L H:=fun a w hs=>⟨hne,fun he=>h he a w hs⟩
def s0m(it tn tk b:Nat):Code→Bool
 | .seq (.region _ ops false) (.seq (.cond (.tmp t) .skip (.exit b')) _)=>Nat.beq t tk&&(Nat.beq b' b&&match ops.toList with
  | [o0,o1]=>match o0.guard,o0.op,o0.dst,o1.guard,o1.op,o1.dst with
   |none, .next (.tmp it') false,some tn1,none, .extract (.tmp tn2) 0,some tk'=>Nat.beq it' it&&(Nat.beq tn1 tn&&(Nat.beq tn2 tn&&Nat.beq tk' tk))
   |_,_,_,_,_,_=>false
  |_=>false)
 |_=>false
theorem r0b {it tn tk b:Nat} {c:Code} (h:s0m it tn tk b c=true): ∃id ops o0 o1 B,c= .seq (.region id ops false) (.seq (.cond (.tmp tk) .skip (.exit b)) B)∧ops.toList=[o0,o1]∧
  o0.guard=none∧o0.op= .next (.tmp it) false∧o0.dst=some tn∧o1.guard=none∧o1.op= .extract (.tmp tn) 0∧o1.dst=some tk:=by
 unfold s0m at h
 split at h
 ·rename_i id ops t b' B
  simp only[ac]at h
  obtain⟨h1,h2,h3⟩:=h
  split at h3
  ·rename_i o0 o1 hl
   split at h3
   ·rename_i it' tn1 tn2 tk' e1 e2 e3 e4 e5 e6
    simp only[ac]at h3
    obtain⟨q1,q2,q3,q4⟩:=h3
    have h1:=af h1
    have h2:=af h2
    have q1:=af q1
    have q2:=af q2
    have q3:=af q3
    have q4:=af q4
    subst h1;subst h2;subst q1;subst q2;subst q3;subst q4
    exact⟨id,ops,o0,o1,B,rfl,hl,e1,e2,e3,e4,e5,e6⟩
   ·cases h3
  ·cases h3
 ·cases h
theorem u0w {n:Nat} {s:List Nat} (h:o0h n s.toArray=0): ∀j,j<n→s.contains j=true:=by
 intro j hj
 unfold o0h at h
 have:=List.length_eq_zero_iff.1 h
 rw[List.filter_eq_nil_iff]at this
 have h2:=this j (bf.2 hj)
 simpa using h2
theorem y0v {tk tn:Nat} {u v:SV} {L2:LE} (hnk:tn≠tk)(htn:lk L2 tn= .undef)(t:Nat):lk ((tk,v)::L2) t=lk ((tk,v)::(tn,u)::L2) t∨lk ((tk,v)::L2) t= .undef:=by
 simp only[lk]
 cases h1:Nat.beq t tk with
 |true=>exact .inl rfl
 |false=>
  cases h2:Nat.beq t tn with
  |false=>exact .inl rfl
  |true=>have:=af h2;subst this;exact .inr htn
theorem K.mapLoop {E X:Type} [DecidableEq X] {c:Code} (it tn tk b j i:Nat) {n:Nat} (h:w0e c=true)(hc:s0m it tn tk b (cp c)=true)(f:E→Option (Unit⊕X))(ms:List E)(enc:E→SV×SV) {y:Unit⊕X} (hy:k0X f ms=some y)
  (ts:List Nat) {L2:LE} (hk:h0O ts L=L2) (hL:lk L2 it= .ptr j 0) (htn:lk L2 tn= .undef) (htk:lk L2 tk= .undef) (hne:Nat.beq tn tk=false) (hni:Nat.beq tn it=false) (Hs:List Nat→a0o) (hH:H=Hs []) (hS: ∀s s',(Hs s).set j (.itr i n s')=Hs s')
  (hj: ∀s,(Hs s)[j]?=some (.itr i n s)) (hi: ∀s,(Hs s)[i]?=some (.map (ms.map enc))) (hn:(ms.map enc).length=n)
  (hx: ∀s,y= .inl ()→PJ F Q (.exit b) ((tk, .bool false)::L2) (Hs s))
  (body: ∀s b' e x,(ms.map enc)[b']?=some (enc e)→f e=some x→J F P (cr (cr (cp c))) ((tk, .bool true)::L2) (Hs (s++ [b'])) (B0m F Q L2 (Hs (s++ [b'])) y x)):J F P c L H Q:=by
 cases c<;>first|cases h|skip
 rename_i c
 obtain⟨m1,m2⟩:=s0l ms y hy
 have hnm:ms.length=n:=by rw[←hn];simp
 refine J.keep ts hk ?_
 subst hH
 obtain⟨id,ops,o0,o1,B,rfl,hl,g1,g2,g3,g4,g5,g6⟩:=r0b hc
 intro hin a w hs
 have hin':d0e F.n _=true:=hin
 refine x0e (fun n' a w=> ∃s,o0h n s.toArray=n'∧(∀q∈s,∀e,ms[q]?=some e→f e=some (.inl ()))∧Sees F L2 (Hs s) a w) ?_ (n:=o0h n #[]) ⟨[],rfl,fun q hq=>by simp at hq,hs⟩
 rintro n' a w ⟨s,hn',hdone,hs⟩
 refine(?_:J F P (.seq (.region id ops false) (.seq (.cond (.tmp tk) .skip (.exit b)) B)) L2 (Hs s) _) hin' a w hs
 have hp0:ops.toList[0]?=some o0:=by rw[hl];rfl
 have hp1:ops.toList[1]?=some o1:=by rw[hl];rfl
 have hsz:ops.size=2:=by have:=congrArg List.length hl;simpa using this
 have hnk:tn≠tk:=fun e=>by subst e;simp at hne
 have hnit:tn≠it:=fun e=>by subst e;simp at hni
 refine J.seq (J.region (RJ.next hp0 g1 g2 (congrArg some hL) (hj s) (hi s) hn (fun hz=> ?_) (fun q hq hqs=> ?_)))
 ·-- none is left
  rw[g3]
  have hall:y= .inl ():=m2 fun e he=>by
   obtain⟨q,hq,rfl⟩:=List.mem_iff_getElem.1 he
   have hc:=u0w hz q (by omega)
   exact hdone q (by simpa using hc) _ (ae hq)
  refine RJ.step (ef:=⟨.bool false,[],[]⟩) hp1 (by unfold c0P;rw[g4]) (by unfold c0B;rw[g5]) ?_ rfl ?_
  ·unfold a0Z a0k
   rw[g5]
   simp[a0Y,b0s,g0e,lk]
  ·rw[g6]
   refine RJ.done (by omega) (PJ.next (J.seq (J.cond (b:=false) ?_ (J.exit (PJ.passExit ?_)))))
   ·simp[a0Y,b0s,g0e,lk]
   ·intro a' w' hs'
    exact .inr ⟨by simp,hx s hall a' w' (hs'.keep (y0v hnk htn))⟩
 ·-- one more
  rw[g3]
  obtain⟨e,hqe⟩: ∃e,ms[q]?=some e:=⟨ms[q]'(by omega),ae (by omega)⟩
  obtain⟨x,hfx,hox⟩:=m1 e (aF hqe)
  refine RJ.step (ef:=⟨.bool true,[],[]⟩) hp1 (by unfold c0P;rw[g4]) (by unfold c0B;rw[g5]) ?_ rfl ?_
  ·unfold a0Z a0k
   rw[g5]
   simp[a0Y,b0s,g0e,lk]
  ·rw[g6,hS]
   refine RJ.done (by omega) (PJ.next (J.seq (J.cond (b:=true) ?_ (J.skip (PJ.next ?_)))))
   ·simp[a0Y,b0s,g0e,lk]
   ·intro hin2 a' w' hs'
    have hb:=body s q e x (by rw[am,hqe];rfl) hfx hin2 a' w' (hs'.keep (y0v hnk htn))
    ·refine Code.wp_mono (fun ee a2 w2 hq2=> ?_) hb
     cases x with
     |inl u=>
      obtain⟨rfl,hs2⟩:=hq2
      refine .inl ⟨rfl,o0h n (s++ [q]).toArray, ?_,s++ [q],rfl,fun q' hq' e' he'=> ?_,hs2⟩
      ·rw[←hn']
       have:=v0Z (seen:=s.toArray) hq (by simpa using hqs)
       simpa using this
      ·rcases au.1 hq' with h1|h1
       ·exact hdone q' h1 e' he'
       ·simp at h1;subst h1;rw[hqe]at he';cases he';exact hfx
     |inr o=>exact .inr ⟨hq2.1,hq2.2 (hox o rfl)⟩
end
end Go.Sy
