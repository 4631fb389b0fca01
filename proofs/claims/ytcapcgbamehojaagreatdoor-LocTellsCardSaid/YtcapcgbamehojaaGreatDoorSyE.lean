/-
 The second shadow machine, part 5: entries: made, written, appended to, frozen.
-/
import Derived.Test.YtcapcgbamehojaaGreatDoorSyD
import Derived.Laws.MakeOwn
import Derived.Laws.BytesString
import Derived.Laws.CopyRow
namespace Go.Sy
open Go Go.RowKit
set_option linter.unusedSimpArgs false
set_option linter.unusedVariables false
set_option linter.unusedSectionVars false
variable [Inhabited GT]
def f0e(D:DM)(i:Nat)(l:Loc):DM:=fun j=>if j=i then some l else D j
def g0w(H:a0o)(i:Nat)(en:Ent):a0o:=if i<H.length then H.set i en else H++ [en]
def CanNew(H:a0o)(i:Nat):Prop:=i=H.length∨H[i]?=some .res
def h0N(H:a0o):Option Nat→a0o
 |none=>H
 |some i=>H.set i .gone
theorem m0M(H:a0o)(x:Option Nat):(h0N H x).length=H.length:=by cases x<;>simp[h0N]
theorem p0A {H:a0o} {i:Nat} {en:Ent} (hi:i≤H.length)(j:Nat):(g0w H i en)[j]?=if j=i then some en else H[j]?:=by
 unfold g0w
 by_cases hl:i<H.length
 ·rw[if_pos hl,aQ]
  by_cases hj:j=i
  ·subst hj;simp[hl]
  ·rw[if_neg (Ne.symm hj),if_neg hj]
 ·rw[if_neg hl,aD]
  have:i=H.length:=by omega
  subst this
  by_cases hj:j=H.length
  ·subst hj;simp
  ·rw[if_neg hj]
   split
   ·rfl
   ·rw[aw (by simp;omega),aw (by omega)]
theorem i0i {H:a0o} {x:Option Nat} {j:Nat} {en:Ent} (h:(h0N H x)[j]?=some en):en= .gone∨(H[j]?=some en∧x≠some j):=by
 cases x with
 |none=>exact .inr ⟨h,by simp⟩
 |some i=>
  simp only[h0N]at h
  rw[aQ]at h
  by_cases hij:i=j
  ·subst hij
   rw[if_pos rfl]at h
   split at h<;>cases h
   exact .inl rfl
  ·rw[if_neg hij]at h
   exact .inr ⟨h,by simp[hij]⟩
section
variable {P : Program} {n : Nat} {w : World} {K : Nat → Nat} {D : DM} {H : a0o} {ρ : Env} {a : Act} {o : Oper}
theorem CanNew.le {i:Nat} (h:CanNew H i):i≤H.length:=by
 rcases h with h|h
 ·omega
 ·exact Nat.le_of_lt (ab.1 h).1
theorem CanNew.free {i:Nat} (h:CanNew H i)(hi:HInv w K D H):D i=none:=by
 rcases h with h|h
 ·exact hi.dom i (by omega)
 ·exact hi.ent i _ h
theorem place(h:HInv w K D H) {idx:Nat} (hidx:CanNew H idx) {x:Option Nat} (hx:x≠some idx) {b c m:Nat} {en:Ent} {w':World}
  (hb:w.heap.size≤b∨ ∃i en0 c0 n0,x=some i∧H[i]?=some en0∧g0K en0=true∧D i=some (.at b c0 n0))
  (h1:w'.os=w.os) (h2:w'.tape=w.tape) (h3:w'.output=w.output) (h4:w.heap.size≤w'.heap.size)
  (h5: ∀b',b'≠b→b'<w.heap.size→w'.heap[b']?=w.heap[b']?)
  (hen:(∀v s,Rep w K D v s→Rep w' K (f0e D idx (.at b c m)) v s)→EntOk w' K (f0e D idx (.at b c m)) idx en):
  Grow w K D H w' K (f0e D idx (.at b c m)) (g0w (h0N H x) idx en)∧HInv w' K (f0e D idx (.at b c m)) (g0w (h0N H x) idx en):=by
 have hfree:=hidx.free h
 have hle:=hidx.le
 have hlen:(h0N H x).length=H.length:=m0M H x
 have hget: ∀j,(g0w (h0N H x) idx en)[j]?=if j=idx then some en else(h0N H x)[j]?:=p0A (by omega)
 have hbK:K b=0:=by
  rcases hb with hb|⟨i,en0,c0,n0,_,g1,g2,g3⟩
  ·rcases bv (K b)with hz|hz
   ·exact hz
   ·have:=h.kw b (by omega);omega
  ·exact(i0X h ⟨i,en0,c0,n0,g1,g2,g3⟩).2
 have hdd: ∀i x,D i=some x→f0e D idx (.at b c m) i=some x:=by
  intro i x hi
  unfold f0e
  rw[if_neg (fun e=>by subst e;rw[hfree]at hi;cases hi)]
  exact hi
 have hcells: ∀b' j,j<K b'→w'.cell? ⟨b',j,none⟩=w.cell? ⟨b',j,none⟩:=by
  intro b' j hj
  have hne:b'≠b:=fun e=>by subst e;omega
  exact World.cell?_of_block (w:=w) (a:=⟨b',j,none⟩) (h5 b' hne (h.kw b' (by omega)))
 have hrep: ∀v s,Rep w K D v s→Rep w' K (f0e D idx (.at b c m)) v s:=fun v s hr=>hr.mono hcells (fun _=>ak _) hdd
 -- a g0K entry beside has another block
 have hother: ∀j enj bj cj nj,j≠idx→(h0N H x)[j]?=some enj→g0K enj=true→D j=some (.at bj cj nj)→bj≠b∧bj<w.heap.size∧H[j]?=some enj:=by
  intro j enj bj cj nj hj hkj hlj hdj
  rcases i0i hkj with hg|⟨hj1,hj2⟩
  ·subst hg;cases hlj
  ·have hlt:=(i0X h ⟨j,enj,cj,nj,hj1,hlj,hdj⟩).1
   refine⟨fun e=> ?_,hlt,hj1⟩
   subst e
   rcases hb with hb|⟨i,en0,c0,n0,hxi,g1,g2,g3⟩
   ·omega
   ·have:=h.inj j i enj en0 bj cj nj c0 n0 hj1 g1 hlj g2 hdj g3
    subst this
    exact hj2 hxi
 have hgrow:Grow w K D H w' K (f0e D idx (.at b c m)) (g0w (h0N H x) idx en):=by
  refine⟨h1,h2,h3,h4,fun b' hb' hm=>h5 b' (fun e=> ?_) hb',hcells,fun _=>ak _,fun _ _ _=>rfl,hdd,fun b' hm=> ?_⟩
  ·subst e
   rcases hb with hb|⟨i,en0,c0,n0,_,g1,g2,g3⟩
   ·omega
   ·exact hm ⟨i,en0,c0,n0,g1,g2,g3⟩
  ·obtain⟨j,enj,cj,nj,e1,e2,e3⟩:=hm
   rw[hget]at e1
   by_cases hj:j=idx
   ·subst hj
    simp only[f0e,if_true]at e3
    cases e3
    rcases hb with hb|⟨i,en0,c0,n0,_,g1,g2,g3⟩
    ·exact .inr hb
    ·exact .inl ⟨i,en0,c0,n0,g1,g2,g3⟩
   ·rw[if_neg hj]at e1
    simp only[f0e,if_neg hj]at e3
    obtain⟨_,_,q⟩:=hother j enj b' cj nj hj e1 e2 e3
    exact .inl ⟨j,enj,cj,nj,q,e2,e3⟩
 refine⟨hgrow,⟨fun i hi=> ?_,fun i eni hi=> ?_,fun i j eni enj bb cc nn cc' nn' hi hj hli hlj hdi hdj=> ?_,fun b' hb'=>aT (h.kw b' hb') h4⟩⟩
 ·have hl:H.length≤i∧i≠idx:=by
   unfold g0w at hi
   split at hi
   ·simp[hlen]at hi;exact⟨by omega,by omega⟩
   ·simp[hlen]at hi;exact⟨by omega,by omega⟩
  simp only[f0e,if_neg hl.2]
  exact h.dom i hl.1
 ·rw[hget]at hi
  by_cases hii:i=idx
  ·subst hii
   rw[if_pos rfl]at hi;cases hi
   exact hen hrep
  ·rw[if_neg hii]at hi
   rcases i0i hi with hg|⟨g1,g2⟩
   ·subst hg;trivial
   ·refine(h.ent i eni g1).keep hrep (by simp[f0e,hii]) (fun bb cc nn hl hd=>⟨?_,rfl⟩)
    obtain⟨q1,q2,_⟩:=hother i eni bb cc nn hii hi hl hd
    exact h5 bb q1 q2
 ·rw[hget]at hi hj
  by_cases hii:i=idx
  ·by_cases hjj:j=idx
   ·rw[hii,hjj]
   ·rw[if_neg hjj]at hj
    subst hii
    simp only[f0e,if_true]at hdi
    cases hdi
    simp only[f0e,if_neg hjj]at hdj
    exact absurd rfl (hother j enj _ cc' nn' hjj hj hlj hdj).1
  ·rw[if_neg hii]at hi
   simp only[f0e,if_neg hii]at hdi
   by_cases hjj:j=idx
   ·subst hjj
    simp only[f0e,if_true]at hdj
    cases hdj
    exact absurd rfl (hother i eni _ cc nn hii hi hli hdi).1
   ·rw[if_neg hjj]at hj
    simp only[f0e,if_neg hjj]at hdj
    obtain⟨_,_,q1⟩:=hother i eni bb cc nn hii hi hli hdi
    obtain⟨_,_,q2⟩:=hother j enj bb cc' nn' hjj hj hlj hdj
    exact h.inj i j eni enj bb cc nn cc' nn' q1 q2 hli hlj hdi hdj
theorem n0Y(h:HInv w K D H) {idx:Nat} (hidx:CanNew H idx)(x:Option Nat)(hx:x≠some idx)(k:Nat)(e:TypeId):
  Grow w K D H w K (f0e D idx .nil) (g0w (h0N H x) idx (.vec 0 k e []))∧HInv w K (f0e D idx .nil) (g0w (h0N H x) idx (.vec 0 k e [])):=by
 have hfree:=hidx.free h
 have hle:=hidx.le
 have hlen:(h0N H x).length=H.length:=m0M H x
 have hget: ∀j,(g0w (h0N H x) idx (.vec 0 k e []))[j]?=if j=idx then some (.vec 0 k e [])else(h0N H x)[j]?:=p0A (by omega)
 have hdd: ∀i x,D i=some x→f0e D idx .nil i=some x:=by
  intro i x hi
  unfold f0e
  rw[if_neg (fun e=>by subst e;rw[hfree]at hi;cases hi)]
  exact hi
 have hrep: ∀v s,Rep w K D v s→Rep w K (f0e D idx .nil) v s:=fun v s hr=>hr.mono (fun _ _ _=>rfl) (fun _=>ak _) hdd
 refine⟨⟨rfl,rfl,rfl,ak _,fun _ _ _=>rfl,fun _ _ _=>rfl,fun _=>ak _,fun _ _ _=>rfl,hdd,fun b hm=> ?_⟩,⟨fun i hi=> ?_,fun i eni hi=> ?_,fun i j eni enj bb cc nn cc' nn' hi hj hli hlj hdi hdj=> ?_,h.kw⟩⟩
 ·obtain⟨j,enj,cj,nj,e1,e2,e3⟩:=hm
  rw[hget]at e1
  by_cases hj:j=idx
  ·subst hj;simp only[f0e,if_true]at e3;cases e3
  ·rw[if_neg hj]at e1
   simp only[f0e,if_neg hj]at e3
   rcases i0i e1 with hg|⟨g1,_⟩
   ·subst hg;cases e2
   ·exact .inl ⟨j,enj,cj,nj,g1,e2,e3⟩
 ·have hl:H.length≤i∧i≠idx:=by
   unfold g0w at hi
   split at hi
   ·simp[hlen]at hi;exact⟨by omega,by omega⟩
   ·simp[hlen]at hi;exact⟨by omega,by omega⟩
  simp only[f0e,if_neg hl.2]
  exact h.dom i hl.1
 ·rw[hget]at hi
  by_cases hii:i=idx
  ·subst hii
   rw[if_pos rfl]at hi;cases hi
   exact⟨rfl, .inl ⟨by simp[f0e],rfl,rfl⟩⟩
  ·rw[if_neg hii]at hi
   rcases i0i hi with hg|⟨g1,g2⟩
   ·subst hg;trivial
   ·exact(h.ent i eni g1).keep hrep (by simp[f0e,hii]) (fun bb cc nn hl hd=>⟨rfl,rfl⟩)
 ·rw[hget]at hi hj
  by_cases hii:i=idx
  ·subst hii;simp only[f0e,if_true]at hdi;cases hdi
  ·rw[if_neg hii]at hi
   simp only[f0e,if_neg hii]at hdi
   by_cases hjj:j=idx
   ·subst hjj;simp only[f0e,if_true]at hdj;cases hdj
   ·rw[if_neg hjj]at hj
    simp only[f0e,if_neg hjj]at hdj
    rcases i0i hi with hg|⟨g1,_⟩
    ·subst hg;cases hli
    ·rcases i0i hj with hg|⟨g2,_⟩
     ·subst hg;cases hlj
     ·exact h.inj i j eni enj bb cc nn cc' nn' g1 g2 hli hlj hdi hdj
theorem modify(h:HInv w K D H) {i:Nat} {en en':Ent} {b c m:Nat} {w':World} (hi:H[i]?=some en)(hl:g0K en=true)(hl':g0K en'=true)(hd:D i=some (.at b c m))
  (h1:w'.os=w.os) (h2:w'.tape=w.tape) (h3:w'.output=w.output) (h4:w'.heap.size=w.heap.size) (h5: ∀b',b'≠b→w'.heap[b']?=w.heap[b']?)
  (hen:(∀v s,Rep w K D v s→Rep w' K D v s)→EntOk w' K D i en'):
  Grow w K D H w' K D (H.set i en')∧HInv w' K D (H.set i en'):=by
 have hil:i<H.length:=(ab.1 hi).1
 obtain⟨hblt,hbK⟩:=i0X h ⟨i,en,c,m,hi,hl,hd⟩
 have hcells: ∀b' j,j<K b'→w'.cell? ⟨b',j,none⟩=w.cell? ⟨b',j,none⟩:=by
  intro b' j hj
  have hne:b'≠b:=fun e=>by subst e;omega
  exact World.cell?_of_block (w:=w) (a:=⟨b',j,none⟩) (h5 b' hne)
 have hrep: ∀v s,Rep w K D v s→Rep w' K D v s:=fun v s hr=>hr.mono hcells (fun _=>ak _) (fun _ _ e=>e)
 have hget: ∀j,(H.set i en')[j]?=if j=i then some en' else H[j]?:=by
  intro j
  rw[aQ]
  by_cases hj:i=j
  ·subst hj;simp[hil]
  ·rw[if_neg hj,if_neg (Ne.symm hj)]
 have hmem: ∀b',Mem D (H.set i en') b'→Mem D H b':=by
  rintro b' ⟨j,enj,cj,nj,e1,e2,e3⟩
  rw[hget]at e1
  by_cases hj:j=i
  ·subst hj;exact⟨j,en,cj,nj,hi,hl,e3⟩
  ·rw[if_neg hj]at e1;exact⟨j,enj,cj,nj,e1,e2,e3⟩
 refine⟨⟨h1,h2,h3,by omega,fun b' hb' hm=>h5 b' (fun e=>hm (e▸⟨i,en,c,m,hi,hl,hd⟩)),hcells,fun _=>ak _,fun _ _ _=>rfl,fun _ _ e=>e,fun b' hm=> .inl (hmem b' hm)⟩,
  ⟨fun j hj=>h.dom j (by simpa using hj),fun j enj hj=> ?_,fun j j' enj enj' bb cc nn cc' nn' hj hj' hlj hlj' hdj hdj'=> ?_,fun b' hb'=>by rw[h4];exact h.kw b' hb'⟩⟩
 ·rw[hget]at hj
  by_cases hji:j=i
  ·subst hji;rw[if_pos rfl]at hj;cases hj;exact hen hrep
  ·rw[if_neg hji]at hj
   refine(h.ent j enj hj).keep hrep rfl (fun bb cc nn hl2 hd2=>⟨h5 bb (fun e=> ?_),rfl⟩)
   subst e
   exact hji (h.inj j i enj en bb cc nn c m hj hi hl2 hl hd2 hd)
 ·have back: ∀(j:Nat) (enj:Ent),(H.set i en')[j]?=some enj→g0K enj=true→ ∃en2,H[j]?=some en2∧g0K en2=true:=by
   intro j enj hj hlj
   rw[hget]at hj
   by_cases hji:j=i
   ·subst hji;exact⟨en,hi,hl⟩
   ·rw[if_neg hji]at hj;exact⟨enj,hj,hlj⟩
  obtain⟨e1,q1,q2⟩:=back j enj hj hlj
  obtain⟨e2,q3,q4⟩:=back j' enj' hj' hlj'
  exact h.inj j j' e1 e2 bb cc nn cc' nn' q1 q3 q2 q4 hdj hdj'
def n0w(P:Program)(w:World)(K:Nat→Nat)(D:DM)(H:a0o)(o:Oper)(a:Act)(s:SV)(H':a0o):Prop:=
 ∃r w',((execOp a.eval o).run P w= .ok (.value r) w'∨((execOp a.eval o).run P w= .ok .skip w'∧r=undef))∧Good w K D H r w' s H'
theorem f0a(H:a0o):h0N H none=H:=rfl
theorem v0G(h:HInv w K D H) {idx:Nat} (hidx:CanNew H idx) {vs:List Value} {cs:List SV} (hcr:CR w K D vs cs)(e:TypeId):
  Good w K D H (.pointer (some ⟨w.heap.size,0,none⟩)) (w.alloc (.cells vs.toArray e)) (.ptr idx 0) (g0w H idx (.box cs)):=by
 have hold: ∀b,b<w.heap.size→(w.alloc (.cells vs.toArray e)).heap[b]?=w.heap[b]?:=fun b hb=>by show(w.heap.push _)[b]?=_;rw[bF,if_neg (by omega)]
 have hK0:K w.heap.size=0:=by
  rcases bv (K w.heap.size)with h0|h0
  ·exact h0
  ·have:=h.kw w.heap.size (by omega);omega
 obtain⟨g,hi⟩:=place (w':=w.alloc (.cells vs.toArray e)) (en:= .box cs) (b:=w.heap.size) (c:=0) (m:=0) h hidx (x:=none) (by simp) (.inl (ak _)) rfl rfl rfl (by simp) (fun b' _ hlt=>hold b' hlt)
  (fun hr=>⟨_,vs,e,by simp[f0e],hK0,(by show(w.heap.push _)[w.heap.size]?=_;simp),hcr.mono hr⟩)
 rw[f0a]at g hi
 exact⟨K,_,g,hi, .ptr idx 0 w.heap.size 0 0 (by simp[f0e])⟩
theorem s0k(h:HInv w K D H) {idx:Nat} (hidx:CanNew H idx)(x:Option Nat)(hx:x≠some idx) {vs rest:List Value} {cs:List SV} {e k len cap:Nat} {w':World} {L:Array Value}
  (hcr:CR w K D vs cs) (hpl:b0x cs=true) (hL:L=(vs++rest).toArray) (hh:w'.heap=w.heap.push (.cells L e)) (h1:w'.os=w.os) (h2:w'.tape=w.tape) (h3:w'.output=w.output)
  (hk:0<k) (hl:vs.length=len*k) (hcap:len≤cap) (hLl:(vs++rest).length=cap*k) (hm:cap≤maxLen):
  Good w K D H (.slice (some ⟨w.heap.size,0,none⟩) len cap) w' (.vc idx) (g0w (h0N H x) idx (.vec len k e cs)):=by
 subst hL
 have hold: ∀b,b<w.heap.size→w'.heap[b]?=w.heap[b]?:=fun b hb=>by rw[hh,bF,if_neg (by omega)]
 have hK0:K w.heap.size=0:=by
  rcases bv (K w.heap.size)with h0|h0
  ·exact h0
  ·have:=h.kw w.heap.size (by omega);omega
 obtain⟨g,hi⟩:=place (w':=w') (en:= .vec len k e cs) (b:=w.heap.size) (c:=cap) (m:=len) h hidx hx (.inl (ak _)) h1 h2 h3 (by rw[hh];simp) (fun b' _ hlt=>hold b' hlt)
  (fun hr=>⟨hpl, .inr ⟨_,cap,vs,rest,by simp[f0e],hK0,hk,hcap,hm,by rw[hh];simp,hl,hLl,hcr.mono hr⟩⟩)
 exact⟨K,_,g,hi, .vc idx w.heap.size cap len (by simp[f0e])⟩
def d0E:Ent→Option (List SV)
 | .box cs=>some cs
 | .vec _ _ _ cs=>some cs
 |_=>none
def r0v(en:Ent)(cs:List SV):Ent:=match en with
 | .box _=> .box cs
 | .vec n k e _=> .vec n k e cs
 |en=>en
def z0z:Ent→Bool
 | .vec _ _ _ _=>true
 |_=>false
theorem s0H(h:HInv w K D H) {i b c m:Nat} {en:Ent} {cs:List SV} (hi:H[i]?=some en)(hd:D i=some (.at b c m))(hc:d0E en=some cs):
  ∃vs rest e,w.heap[b]?=some (.cells (vs++rest).toArray e (0,0))∧CR w K D vs cs∧g0K en=true∧K b=0:=by
 have he:=h.ent i en hi
 cases en with
 |res=>cases hc
 |gone=>cases hc
 |box cs'=>
  cases hc
  obtain⟨b',vs,e,h1,h2,h3,h4⟩:=he
  rw[h1]at hd;cases hd
  exact⟨vs,[],e,by simpa using h3,h4,rfl,h2⟩
 |vec n k e cs'=>
  cases hc
  rcases he.2 with⟨h1,_⟩|⟨b',c',vs,rest,h1,h2,_,_,_,h6,_,_,h9⟩
  ·rw[h1]at hd;cases hd
  ·rw[h1]at hd;cases hd
   exact⟨vs,rest,e,h6,h9,rfl,h2⟩
 |map es=>cases hc
 |itr m n s=>cases hc
 |pmap es=>cases hc
theorem f0v {b:Nat} {vs rest:List Value} {e:TypeId} {cs:List SV} (hheap:w.heap[b]?=some (.cells (vs++rest).toArray e (0,0)))(h:CR w K D vs cs):RowAt w K D b 0 vs cs:=by
 refine⟨h.len,fun j v hj=> ?_,h.one,h.rep⟩
 rw[cell_of_row w b _ _ _ _ hheap]
 simp only[aU,List.getElem?_toArray]
 rw[bQ (ab.1 hj).1]
 exact hj
theorem m0t {v:Value} {i off:Nat} (h:Rep w K D v (.ptr i off)): ∃b c m,v= .pointer (some ⟨b,off,none⟩)∧D i=some (.at b c m):=by
 cases h with
 |ptr _ _ b c m hd=>exact⟨b,c,m,rfl,hd⟩
theorem k0Z(h:HInv w K D H) {i b c m:Nat} {en:Ent} {cs ps:List SV} {us:List Value} {off:Nat} (hi:H[i]?=some en)(hd:D i=some (.at b c m))(hc:d0E en=some cs)
  (hle:off+ps.length≤cs.length) (hcx:CR w K D us ps) (hpl:z0z en=true→b0x ps=true):
  ∃w',(storeCells ⟨b,off,none⟩ us).run P w= .ok () w'∧Grow w K D H w' K D (H.set i (r0v en (splice cs off ps)))∧HInv w' K D (H.set i (r0v en (splice cs off ps))):=by
 obtain⟨vs,rest,e,hheap,hcr,hlive,hK0⟩:=s0H h hi hd hc
 have hul:us.length=ps.length:=hcx.len.symm
 have hvl:vs.length=cs.length:=hcr.len.symm
 have hst:=run_storeCells_at P b off e us 0 (vs++rest).toArray w hheap (by simp;omega) hcx.one
 simp only[Nat.add_zero]at hst
 have hnew:=setRow_heap w b (vs++rest).toArray ((vs++rest).toArray.toList.take off++us++(vs++rest).toArray.toList.drop (off+us.length)).toArray e _ hheap
 have hrow:((vs++rest).toArray.toList.take off++us++(vs++rest).toArray.toList.drop (off+us.length)).toArray=((vs.take off++(us++vs.drop (off+us.length)))++rest).toArray:=by
  congr 1
  simp only[aL]
  rw[List.take_append_of_le_length (by omega),List.drop_append_of_le_length (by omega)]
 rw[hrow]at hst hnew
 generalize hw':w.setRow b ((vs.take off++(us++vs.drop (off+us.length)))++rest).toArray=w' at hst hnew
 have hother: ∀c,c≠b→w'.heap[c]?=w.heap[c]?:=fun c hcb=>by rw[←hw'];exact setRow_other w b c _ hcb
 have hsize:w'.heap.size=w.heap.size:=by rw[←hw'];simp
 have hsp:=hcr.splice hcx off
 have hsl:(splice cs off ps).length=cs.length:=by simp[Sy.splice];omega
 have hl':g0K (r0v en (splice cs off ps))=true:=by cases en<;>first|rfl|cases hlive
 refine⟨w',hst,modify h hi hlive hl' hd (by rw[←hw'];rfl) (by rw[←hw'];rfl) (by rw[←hw'];rfl) hsize hother (fun hr=> ?_)⟩
 have he:=h.ent i en hi
 cases en with
 |res=>cases hc
 |gone=>cases hc
 |box cs'=>
  cases hc
  obtain⟨b',vs',e',h1,h2,h3,h4⟩:=he
  rw[h1]at hd;cases hd
  rw[hheap]at h3
  injection h3 with h3
  injection h3 with h3 h3e
  have hv3:vs++rest=vs':=by simpa using h3
  have hr0:rest=[]:=by
   have:=congrArg List.length hv3
   rw[ag,hvl,h4.len.symm]at this
   exact al (by omega)
  subst hr0
  exact⟨b,_,e,h1,h2,by simpa using hnew,hsp.mono hr⟩
 |vec n k e' cs'=>
  cases hc
  obtain⟨hp,he⟩:=he
  refine⟨?_, ?_⟩
  ·have hpp:=hpl rfl
   simp only[b0x,Sy.splice,aN,ac]
   exact⟨i0A hp _,hpp,i0B hp _⟩
  rcases he with⟨h1,_⟩|⟨b',c',vs',rest',h1,h2,h3,h4,h5,h6,h7,h8,h9⟩
  ·rw[h1]at hd;cases hd
  ·rw[h1]at hd;cases hd
   rw[hheap]at h6
   injection h6 with h6
   injection h6 with h6 h6e
   subst h6e
   have hv6:vs++rest=vs'++rest':=by simpa using h6
   have hvs:vs=vs':=(List.append_inj hv6 (by rw[hvl,h9.len])).1
   have hrs:rest=rest':=(List.append_inj hv6 (by rw[hvl,h9.len])).2
   subst hvs;subst hrs
   refine .inr ⟨b,c,_,rest,h1,h2,h3,h4,h5,hnew, ?_, ?_,hsp.mono hr⟩
   ·simp only[ag,aH,aO];omega
   ·simp only[ag,aH,aO]at h8⊢;omega
 |map es=>cases hc
 |itr m n s=>cases hc
 |pmap es=>cases hc
end
end Go.Sy
