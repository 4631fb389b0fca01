/-
 The second shadow machine, part 8a: maps.
-/
import Derived.Test.YtcapcgbamehojaaGreatDoorSyH
import Derived.Test.YtcapcgbamehojaaGreatDoorSyY
import Derived.MapKept
namespace Go.Sy
open Go Go.RowKit
set_option linter.unusedSimpArgs false
set_option linter.unusedVariables false
set_option linter.unusedSectionVars false
variable [Inhabited GT]
section
variable {P : Program} {n : Nat} {w : World} {K : Nat → Nat} {D : DM} {H : a0o} {ρ : Env} {a : Act} {o : Oper} {idx : Nat}
theorem o0i {kt:TypeId} {k:SV} {v:Value} (h:o0j P kt k=true)(hr:Rep w K D v k): ∃d,P.underlying kt=some d∧MapKept.IsKey d v∧ ∀(e:Value) (c:SV),Rep w K D e c→ ∀b,e0F k c=some b→Instr.sameNow d v e=some b:=by
 unfold o0j at h
 split at h
 ·rename_i q q' x hu
  simp only[decide_eq_true_eq]at h
  subst h
  cases hr
  refine⟨_,hu,rfl,fun e c hc b hb=> ?_⟩
  cases hc<;>simp only[e0F]at hb<;>first|(cases hb;done)|skip
  rename_i q2 y
  by_cases hq:q=q2
  ·subst hq;rw[if_pos rfl]at hb;simpa [Instr.sameNow]using hb
  ·rw[if_neg hq]at hb;cases hb
 ·rename_i x hu
  cases hr with
  |str sb=>
   refine⟨_,hu,trivial,fun e c hc b hb=> ?_⟩
   cases hc<;>simp only[e0F]at hb<;>first|(cases hb;done)|skip
   rename_i sb2
   simp only[ai]at hb
   subst hb
   simp only[Instr.sameNow,ai]
   rw[Bool.eq_iff_iff,MapKept.bytes_beq]
   simp only[beq_iff_eq]
   constructor
   ·intro e;rw[e]
   ·intro e;exact ByteArray.ext (bg.1 e)
 ·rename_i x hu
  cases hr
  refine⟨_,hu,trivial,fun e c hc b hb=> ?_⟩
  cases hc<;>simp only[e0F]at hb<;>first|(cases hb;done)|skip
  simpa [Instr.sameNow]using hb
 ·cases h
theorem w0r {d:TypeDesc} {v:Value} {k:SV} (hs: ∀(e:Value) (c:SV),Rep w K D e c→ ∀b,e0F k c=some b→Instr.sameNow d v e=some b): ∀(mes:List MapEntry) (es:List (SV×SV)) (q:Nat),es.length=mes.length→
  (∀(j:Nat) (me:MapEntry) (kv:SV×SV),mes[j]?=some me→es[j]?=some kv→Rep w K D me.key kv.1∧Rep w K D me.val kv.2)→
  (e0K es k=some none→Instr.findNow d v mes q=some none)∧ ∀s,e0K es k=some (some s)→ ∃i x,Instr.findNow d v mes q=some (some (i,x))∧Rep w K D x s
 | [],[],q,_,_=>⟨fun _=>rfl,fun s h=>by cases h⟩
 | [],_::_,q,h,_=>by simp at h
 |_::_,[],q,h,_=>by simp at h
 |me::mes,kv::es,q,hl,hr=>by
  obtain⟨r1,r2⟩:=hr 0 me kv rfl rfl
  obtain⟨i1,i2⟩:=w0r hs mes es (q+1) (by simpa using hl) (fun j me kv h1 h2=>hr (j+1) me kv (by simpa using h1) (by simpa using h2))
  cases hb:e0F k kv.1 with
  |none=>exact⟨fun h=>(by simp[e0K,hb]at h),fun s h=>(by simp[e0K,hb]at h)⟩
  |some b=>
   have hsn:=hs _ _ r1 b hb
   cases b with
   |true=>
    refine⟨fun h=>(by simp[e0K,hb]at h),fun s h=> ?_⟩
    simp only[e0K,hb,ai]at h
    subst h
    exact⟨q,me.val,by simp[Instr.findNow,hsn],r2⟩
   |false=>
    refine⟨fun h=> ?_,fun s h=> ?_⟩
    ·simp only[e0K,hb]at h
     simp only[Instr.findNow,hsn]
     exact i1 h
    ·simp only[e0K,hb]at h
     simp only[Instr.findNow,hsn]
     exact i2 s h
theorem w0t {d:TypeDesc} {v:Value} {k:SV} (y:SV)(hs: ∀(e:Value) (c:SV),Rep w K D e c→ ∀b,e0F k c=some b→Instr.sameNow d v e=some b): ∀(mes:List MapEntry) (es:List (SV×SV)) (q:Nat),es.length=mes.length→
  (∀(j:Nat) (me:MapEntry) (kv:SV×SV),mes[j]?=some me→es[j]?=some kv→Rep w K D me.key kv.1∧Rep w K D me.val kv.2)→
  ∀s,e0K es k=some (some s)→ ∃j me kv,mes[j]?=some me∧es[j]?=some kv∧e0F k kv.1=some true∧Instr.findNow d v mes q=some (some (q+j,me.val))∧x0g es k y=es.set j (kv.1,y)
 | [],[],q,_,_,s,h=>by cases h
 | [],_::_,q,h,_,_,_=>by simp at h
 |_::_,[],q,h,_,_,_=>by simp at h
 |me::mes,kv::es,q,hl,hr,s,h=>by
  obtain⟨r1,r2⟩:=hr 0 me kv rfl rfl
  cases hb:e0F k kv.1 with
  |none=>simp[e0K,hb]at h
  |some b=>
   have hsn:=hs _ _ r1 b hb
   cases b with
   |true=>exact⟨0,me,kv,rfl,rfl,hb,by simp[Instr.findNow,hsn],by simp[x0g,hb]⟩
   |false=>
    simp only[e0K,hb]at h
    obtain⟨j,me',kv',h1,h2,h3,h4,h5⟩:=w0t y hs mes es (q+1) (by simpa using hl) (fun j me kv h1 h2=>hr (j+1) me kv (by simpa using h1) (by simpa using h2)) s h
    refine⟨j+1,me',kv',by simpa using h1,by simpa using h2,h3, ?_, ?_⟩
    ·simp only[Instr.findNow,hsn,h4];congr 3;omega
    ·simp only[x0g,hb,h5,List.set_cons_succ]
theorem w0G: ∀(d:Nat) (t:TypeId) (a:SV),r0C P d t a=true→ ∀v,Rep w K D v a→ ∀(e:Bool) (n:Nat),d≤n→(Instr.checkKey e n t v).run P w= .ok () w:=by
 intro d
 induction d with
 |zero=>intro t a h;cases h
 |succ d ih=>
  intro t a h v hv e n hn
  obtain⟨n,rfl⟩: ∃q,n=q+1:=⟨n-1,by omega⟩
  unfold r0C at h
  split at h
  ·rename_i fs cs hu
   cases hv with
   |agg vs _ hl h1 hr=>
    unfold Instr.checkKey
    simp only[Sem.run_bind,run_underlying hu,Result.andThen_ok]
    rw[←Array.forIn_toList]
    generalize fs.toList=l at h
    clear hu
    induction l with
    |nil=>simp
    |cons f l ihl=>
     simp only[az,ac,ba,beq_iff_eq]at h
     simp only[List.forIn_cons,Sem.run_bind,Sem.run_ite]
     by_cases hf : f.name = "_"
     ·rw[if_neg (by simp[hf])]
      simp only[Sem.run_pure,Result.andThen_ok]
      exact ihl h.2
     ·rw[if_pos (by simpa using hf)]
      rcases h.1 with h0|h0
      ·exact absurd h0 hf
      ·split at h0
       ·rename_i b hb
        obtain⟨u,hu,hur⟩:=d0f (P:=P) hl h1 hr hb
        simp only[hu,Result.andThen_ok,ih _ _ h0 u hur e n (by omega),Sem.run_pure]
        exact ihl h.2
       ·cases h0
  ·rename_i len el cs hu
   cases hv with
   |agg vs _ hl h1 hr=>
    simp only[ac,decide_eq_true_eq]at h
    obtain⟨hk,h⟩:=h
    unfold Instr.checkKey
    simp only[Sem.run_bind,run_underlying hu,Result.andThen_ok]
    rw[Std.Legacy.Range.forIn_eq_forIn_range']
    simp only[Std.Legacy.Range.size,bN,Nat.add_sub_cancel,Nat.div_one]
    generalize List.range' 0 len=l at h
    clear hu
    induction l with
    |nil=>simp
    |cons i l ihl=>
     simp only[az,ac]at h
     simp only[List.forIn_cons,Sem.run_bind,c0D hk,Result.andThen_ok]
     have h0:=h.1
     split at h0
     ·rename_i b hb
      obtain⟨u,hu,hur⟩:=d0f (P:=P) hl h1 hr hb
      simp only[hu,Result.andThen_ok,ih _ _ h0 u hur e n (by omega),Sem.run_pure]
      exact ihl h.2
     ·cases h0
  ·rename_i q q' x hu
   cases hv
   unfold Instr.checkKey
   simp[run_underlying hu,Result.andThen]
  ·rename_i x hu
   cases hv
   unfold Instr.checkKey
   simp[run_underlying hu,Result.andThen]
  ·rename_i x hu
   cases hv
   unfold Instr.checkKey
   simp[run_underlying hu,Result.andThen]
  ·cases h
theorem t0D {kt:TypeId} {v:Value} {k:SV} (hk:Rep w K D v k): ∀(mes:List MapEntry) (es:List (SV×SV)) (q:Nat),es.length=mes.length→
  (∀(j:Nat) (me:MapEntry) (kv:SV×SV),mes[j]?=some me→es[j]?=some kv→Rep w K D me.key kv.1∧Rep w K D me.val kv.2)→
  (j0o P kt k es=some none→(Instr.findAsking kt v mes q).run P w= .ok none w)∧ ∀s,j0o P kt k es=some (some s)→ ∃i x,(Instr.findAsking kt v mes q).run P w= .ok (some (i,x)) w∧Rep w K D x s
 | [],[],q,_,_=>⟨fun _=>rfl,fun s h=>by cases h⟩
 | [],_::_,q,h,_=>by simp at h
 |_::_,[],q,h,_=>by simp at h
 |me::mes,kv::es,q,hl,hr=>by
  obtain⟨r1,r2⟩:=hr 0 me kv rfl rfl
  obtain⟨i1,i2⟩:=t0D hk mes es (q+1) (by simpa using hl) (fun j me kv h1 h2=>hr (j+1) me kv (by simpa using h1) (by simpa using h2))
  cases hb:eqS P 9 kt k kv.1 with
  |none=>exact⟨fun h=>(by simp[j0o,hb]at h),fun s h=>(by simp[j0o,hb]at h)⟩
  |some b=>
   have hsn:(Op.equal kt v me.key).run P w= .ok b w:=w0x 9 kt _ _ b hb _ _ hk r1 10000 (by omega)
   cases b with
   |true=>
    refine⟨fun h=>(by simp[j0o,hb]at h),fun s h=> ?_⟩
    simp only[j0o,hb,ai]at h
    subst h
    exact⟨q,me.val,by simp[Instr.findAsking,hsn],r2⟩
   |false=>
    refine⟨fun h=> ?_,fun s h=> ?_⟩
    ·simp only[j0o,hb]at h
     have:=i1 h
     simp[Instr.findAsking,hsn,this]
    ·simp only[j0o,hb]at h
     obtain⟨i,x,h1,h2⟩:=i2 s h
     exact⟨i,x,by simp[Instr.findAsking,hsn,h1],h2⟩
theorem d0P {kt:TypeId} {k:SV} {v:Value} (h0:o0j P kt k=true)(hr:Rep w K D v k)(hf: ∀es,k0J P kt es k=e0K es k):(∀e,(Instr.checkKey e 10000 kt v).run P w= .ok () w)∧
  ∀(mes:List MapEntry) (es:List (SV×SV)),es.length=mes.length→(∀(j:Nat) (me:MapEntry) (kv:SV×SV),mes[j]?=some me→es[j]?=some kv→Rep w K D me.key kv.1∧Rep w K D me.val kv.2)→
   (k0J P kt es k=some none→(Instr.findKey kt v mes).run P w= .ok none w)∧ ∀s,k0J P kt es k=some (some s)→ ∃i x,(Instr.findKey kt v mes).run P w= .ok (some (i,x)) w∧Rep w K D x s:=by
 obtain⟨d,hdu,hik,hsm⟩:=o0i (P:=P) h0 hr
 refine⟨fun e=>MapKept.run_checkKey hdu hik e 9999,fun mes es hl hre=> ?_⟩
 obtain⟨f1,f2⟩:=w0r hsm mes es 0 hl hre
 rw[hf es]
 refine⟨fun hn=>MapKept.run_findKey hdu (f1 hn),fun s hs=> ?_⟩
 obtain⟨i,x,h1,h2⟩:=f2 s hs
 exact⟨i,x,MapKept.run_findKey hdu h1,h2⟩
theorem w0b {kt:TypeId} {k:SV} {v:Value} (h:o0k P kt k=true)(hr:Rep w K D v k):(∀e,(Instr.checkKey e 10000 kt v).run P w= .ok () w)∧
  ∀(mes:List MapEntry) (es:List (SV×SV)),es.length=mes.length→(∀(j:Nat) (me:MapEntry) (kv:SV×SV),mes[j]?=some me→es[j]?=some kv→Rep w K D me.key kv.1∧Rep w K D me.val kv.2)→
   (k0J P kt es k=some none→(Instr.findKey kt v mes).run P w= .ok none w)∧ ∀s,k0J P kt es k=some (some s)→ ∃i x,(Instr.findKey kt v mes).run P w= .ok (some (i,x)) w∧Rep w K D x s:=by
 cases k with
 |agg cs=>
  simp only[o0k,ac]at h
  obtain⟨hag,hck⟩:=h
  refine⟨fun e=>w0G 9 kt _ hck v hr e 10000 (by omega),fun mes es hl hre=> ?_⟩
  obtain⟨f1,f2⟩:=t0D (P:=P) (kt:=kt) hr mes es 0 hl hre
  have hfk:(Instr.findKey kt v mes).run P w=(Instr.findAsking kt v mes 0).run P w:=by
   unfold y0x at hag
   split at hag
   ·rename_i fs hu
    cases mes with
    |nil=>simp[Instr.findKey,run_underlying hu,Result.andThen,Instr.findNow,Instr.findAsking]
    |cons me mes=>simp[Instr.findKey,run_underlying hu,Result.andThen,Instr.findNow,Instr.sameNow]
   ·rename_i ln el hu
    cases mes with
    |nil=>simp[Instr.findKey,run_underlying hu,Result.andThen,Instr.findNow,Instr.findAsking]
    |cons me mes=>simp[Instr.findKey,run_underlying hu,Result.andThen,Instr.findNow,Instr.sameNow]
   ·cases hag
  rw[hfk]
  exact⟨f1,f2⟩
 |undef=>exact d0P h hr (fun _=>rfl)
 |bool b=>exact d0P h hr (fun _=>rfl)
 |int q x=>exact d0P h hr (fun _=>rfl)
 |str x=>exact d0P h hr (fun _=>rfl)
 |nl=>exact d0P h hr (fun _=>rfl)
 |lst a b c=>exact d0P h hr (fun _=>rfl)
 |ep cs=>exact d0P h hr (fun _=>rfl)
 |tup cs=>exact d0P h hr (fun _=>rfl)
 |ptr a b=>exact d0P h hr (fun _=>rfl)
 |vc a=>exact d0P h hr (fun _=>rfl)
 |sl a b c d=>exact d0P h hr (fun _=>rfl)
 |mp a=>exact d0P h hr (fun _=>rfl)
 |fn f a b=>exact d0P h hr (fun _=>rfl)
 |nilp=>exact d0P h hr (fun _=>rfl)
theorem o0Y {v:Value} {i:Nat} (h:Rep w K D v (.mp i)): ∃r c m,v= .map (some r)∧D i=some (.at r c m):=by
 cases h with
 |mp _ r c m hd=>exact⟨r,c,m,rfl,hd⟩
theorem p0c(h:HInv w K D H) {t:TypeId} (ho:o.op= .makeMap t none)(hidx:CanNew H idx):n0w P w K D H o a (.mp idx) (g0w H idx (.map [])):=by
 have hold: ∀b,b<w.heap.size→(w.alloc (.map #[] 0)).heap[b]?=w.heap[b]?:=fun b hb=>by show(w.heap.push _)[b]?=_;rw[bF,if_neg (by omega)]
 have hK0:K w.heap.size=0:=by
  rcases bv (K w.heap.size)with h0|h0
  ·exact h0
  ·have:=h.kw w.heap.size (by omega);omega
 obtain⟨g,hi⟩:=place (w':=w.alloc (.map #[] 0)) (en:= .map []) (b:=w.heap.size) (c:=0) (m:=0) h hidx (x:=none) (by simp) (.inl (ak _)) rfl rfl rfl (by simp) (fun b' _ hlt=>hold b' hlt)
  (fun hr=>⟨_, #[],0,by simp[f0e],hK0,(by show(w.heap.push _)[w.heap.size]?=_;simp),rfl,⟨rfl,fun j me hm=>by simp at hm⟩,fun j me kv hm _=>by simp at hm⟩)
 rw[f0a]at g hi
 refine⟨.map (some w.heap.size),w.alloc (.map #[] 0), .inl ?_,⟨K,_,g,hi, .mp idx w.heap.size 0 0 (by simp[f0e])⟩⟩
 unfold execOp;rw[ho]
 rfl
theorem r0n(h:HInv w K D H)(hs:Slots n w K D ρ a.tmps) {t:TypeId} {x y z:Operand} (ho:o.op= .insert t x y z∨o.op= .mapUpdate t x y z)(hx:Operand.inB n x=true)(hy:Operand.inB n y=true)(hz:Operand.inB n z=true)
  {ef:Eff} (he:h0P P t (a0Y ρ x) (a0Y ρ y) (a0Y ρ z) H=some ef):n0w P w K D H o a ef.v (b0M H ef.wr):=by
 unfold h0P at he
 split at he
 ·rename_i kt et i k v hu hxe hye hze
  split at he
  ·rename_i es hH
   split at he
   ·rename_i hkey
    split at he
    case h_3=>cases he
    case h_2 hfn=>
     have hint: ∃kd x',k= .int kd x':=by cases k<;>first|(cases he;done)|exact⟨_,_,rfl⟩
     obtain⟨kd,x',rfl⟩:=hint
     cases he
     obtain⟨r,c,m,hvx,hd⟩:=o0Y (a0j hs hx hxe)
     obtain⟨r',mes,clock,h1,h2,h3,h4,hB,h5⟩:=h.ent i _ hH
     rw[h1]at hd;cases hd
     have hky:=a0j hs hy hye
     have hvz:=a0j hs hz hze
     obtain⟨d,hdu,hik,hsm⟩:=o0i (P:=P) hkey hky
     have hck:=MapKept.run_checkKey (w:=w) hdu hik false 9999
     obtain⟨j,me,kv,m1,m2,m3,m4,m5⟩:=w0t v hsm mes.toList es 0 (by simpa using h4) (fun j me kv hm hk=>h5 j me kv (by simpa using hm) hk) _ hfn
     have hkeep:=MapKept.run_keyThatStays (P:=P) (w:=w) hik
     have hfind:=MapKept.run_findKey (w:=w) hdu m4
     obtain⟨kv1,kv2⟩:=kv
     obtain⟨e1,e2⟩:=h5 j me _ (by simpa using m1) m2
     simp only at e1 e2 m3
     have hlt:r<w.heap.size:=(aj.1 h3).1
     generalize hkv:a.eval y=vk at hky hck hfind hkeep hik hsm m4
     generalize hvv:a.eval z=vv at hvz
     have hkk: ∀mk,Rep w K D mk kv1→mk=vk∧kv1= .int kd x':=by
      intro mk e1
      cases hky
      cases e1<;>simp only[e0F]at m3<;>first|(cases m3;done)|skip
      rename_i q2 y2
      by_cases hq:kd=q2
      ·subst hq
       rw[if_pos rfl]at m3
       have:x'=y2:=by simpa using m3
       subst this;exact⟨rfl,rfl⟩
      ·rw[if_neg hq]at m3;cases m3
     obtain⟨hk1,hk2⟩:=hkk _ e1
     have hmj:mes[j]?=some me:=by simpa using m1
     have hrun:(Instr.mapUpdate t (a.eval x) (a.eval y) (a.eval z)).run P w= .ok () { w with heap:=w.heap.setIfInBounds r (.map (mes.modify j fun e=> { e with key:=vk,val:=vv }) clock) } :=by
      rw[hvx,hkv,hvv]
      simp[Instr.mapUpdate,run_underlying hu,MapKept.run_getObj_map h3,hck,hfind,hmj,hk1,hkeep,MapKept.run_setObj_map _ h3,Result.andThen]
     obtain⟨g,hiv⟩:=modify (w':= { w with heap:=w.heap.setIfInBounds r (.map (mes.modify j fun e=> { e with key:=vk,val:=vv }) clock) }) (en':= .map (x0g es (.int kd x') v)) h hH rfl rfl h1 rfl rfl rfl (by simp)
      (fun b' hb'=>by simp[Ne.symm hb'])
      (fun hr=>⟨r,mes.modify j (fun e=> { e with key:=vk,val:=vv }),clock,h1,h2,by simp[hlt],by rw[m5];simpa using h4,⟨by simp[hB.1],fun q me' hm=>by
       rw[cd]at hm
       by_cases hj:j=q
       ·subst hj
        rw[if_pos rfl,hmj]at hm
        simp only[aI,ai]at hm
        subst hm
        exact hB.2 _ me hmj
       ·rw[if_neg hj]at hm
        exact hB.2 q me' hm⟩,fun q me' kv' hm hk=>by
       rw[cd]at hm
       rw[m5,aQ]at hk
       by_cases hj:j=q
       ·subst hj
        rw[if_pos rfl,hmj]at hm
        simp only[aI,ai]at hm
        subst hm
        rw[if_pos rfl,if_pos (ab.1 m2).1]at hk
        simp only[ai]at hk
        subst hk
        rw[hk2]
        exact⟨hr _ _ hky,hr _ _ hvz⟩
       ·rw[if_neg hj]at hm hk
        exact⟨hr _ _ (h5 q me' kv' hm hk).1,hr _ _ (h5 q me' kv' hm hk).2⟩⟩)
     refine⟨undef, { w with heap:=w.heap.setIfInBounds r (.map (mes.modify j fun e=> { e with key:=vk,val:=vv }) clock) }, .inr ⟨?_,rfl⟩, ?_⟩
     ·unfold execOp
      rcases ho with ho|ho<;>rw[ho]<;>simp[hrun]
     ·simp only[b0M,g0w,if_pos (ab.1 hH).1]
      exact⟨K,D,g,hiv, .undef _⟩
    rename_i hfn
    cases he
    obtain⟨r,c,m,hvx,hd⟩:=o0Y (a0j hs hx hxe)
    obtain⟨r',mes,clock,h1,h2,h3,h4,hB,h5⟩:=h.ent i _ hH
    rw[h1]at hd;cases hd
    have hky:=a0j hs hy hye
    have hvz:=a0j hs hz hze
    obtain⟨hck,hfd⟩:=w0b (P:=P) hkey hky
    obtain⟨f1,_⟩:=hfd mes.toList es (by simpa using h4) (fun j me kv hm hk=>h5 j me kv (by simpa using hm) hk)
    have hfind:=f1 hfn
    have hlt:r<w.heap.size:=(aj.1 h3).1
    generalize hkv:a.eval y=vk at hky hck hfind
    generalize hvv:a.eval z=vv at hvz
    have hrun:(Instr.mapUpdate t (a.eval x) (a.eval y) (a.eval z)).run P w= .ok () { w with heap:=w.heap.setIfInBounds r (.map (mes.push { key:=vk,val:=vv,born:=clock }) (clock+1)) } :=by
     rw[hvx,hkv,hvv]
     simp[Instr.mapUpdate,run_underlying hu,MapKept.run_getObj_map h3,hck,hfind,MapKept.run_setObj_map _ h3,Result.andThen]
    obtain⟨g,hiv⟩:=modify (w':= { w with heap:=w.heap.setIfInBounds r (.map (mes.push { key:=vk,val:=vv,born:=clock }) (clock+1)) }) (en':= .map (es++ [(k,v)])) h hH rfl rfl h1 rfl rfl rfl (by simp)
     (fun b' hb'=>by simp[Ne.symm hb'])
     (fun hr=>⟨r,mes.push { key:=vk,val:=vv,born:=clock },clock+1,h1,h2,by simp[hlt],by simp[h4],⟨by simp[hB.1],fun j me hm=>by
      rw[bF]at hm
      split at hm
      ·rename_i hj;cases hm;rw[hB.1];exact hj.symm
      ·exact hB.2 j me hm⟩,fun j me kv hm hk=>by
      rw[bF]at hm
      rw[aD]at hk
      by_cases hj:j<es.length
      ·rw[if_pos hj]at hk
       rw[if_neg (by omega)]at hm
       exact⟨hr _ _ (h5 j me kv hm hk).1,hr _ _ (h5 j me kv hm hk).2⟩
      ·rw[if_neg hj]at hk
       have hj0:j-es.length=0:=by
        have:=(ab.1 hk).1
        simp at this;omega
       rw[hj0]at hk
       simp only[bW,ai]at hk
       subst hk
       rw[if_pos (by omega)]at hm
       simp only[ai]at hm
       subst hm
       exact⟨hr _ _ hky,hr _ _ hvz⟩⟩)
    refine⟨undef, { w with heap:=w.heap.setIfInBounds r (.map (mes.push { key:=vk,val:=vv,born:=clock }) (clock+1)) }, .inr ⟨?_,rfl⟩, ?_⟩
    ·unfold execOp
     rcases ho with ho|ho<;>rw[ho]<;>simp[hrun]
    ·simp only[b0M,g0w,if_pos (ab.1 hH).1]
     exact⟨K,D,g,hiv, .undef _⟩
   ·cases he
  ·cases he
 ·cases he
theorem l0V {t:TypeId} {sm sk sv:Option SV} {H':a0o} {ef:Eff} (he:h0P P t sm sk sv H=some ef)(hr: ∀i∈ef.rd,H'[i]?=H[i]?):h0P P t sm sk sv H'=some ef:=by
 unfold h0P at he⊢
 split at he
 ·rename_i kt et i k v hu
  split at he
  ·rename_i es hH
   split at he
   ·rename_i hkey
    split at he
    case h_3=>cases he
    case h_2 hfn=>
     have hint: ∃kd x',k= .int kd x':=by cases k<;>first|(cases he;done)|exact⟨_,_,rfl⟩
     obtain⟨kd,x',rfl⟩:=hint
     cases he
     rw[hr i (by simp),hH]
     simp only
     rw[if_pos hkey,hfn]
    rename_i hfn
    cases he
    rw[hr i (by simp),hH]
    simp only
    rw[if_pos hkey,hfn]
   ·cases he
  ·cases he
 ·cases he
theorem p0Q {t:TypeId} {sm sk:Option SV} {ok:Bool} {H':a0o} {ef:Eff} (he:h0K P t sm sk ok H=some ef)(hr: ∀i∈ef.rd,H'[i]?=H[i]?):h0K P t sm sk ok H'=some ef:=by
 unfold h0K at he⊢
 split at he
 ·rename_i kt et i k hu
  split at he
  ·rename_i es hH
   split at he
   ·rename_i hkey
    have hrd:ef.rd=[i]:=by
     split at he<;>first|(cases he;rfl)|cases he
    rw[hr i (by rw[hrd];simp),hH]
    simp only
    rw[if_pos hkey]
    exact he
   ·cases he
  ·cases he
 ·cases he
theorem u0Q {t:TypeId} {s:SV} (h:t0T P t=some s): ∃z,(zeroValue t).run P w= .ok z w∧Rep w K D z s:=by
 unfold t0T at h
 split at h
 ·rename_i i hi
  split at h
  ·rename_i z hz
   cases h
   refine⟨z,by simp[zeroValue,typeInfo,hi,hz], ?_⟩
   cases hc:k0n z with
   |none=>exact .undef _
   |some c=>exact i0N hc
  ·cases h
 ·cases h
theorem p0q {ok b:Bool} {v:Value} {s:SV} (h:Rep w K D v s):Rep w K D (if ok then .tuple #[v, .bool b]else v) (i0U ok s b):=by
 cases ok with
 |false=>exact h
 |true=>
  refine .tup [v, .bool b] [s, .bool b] rfl (fun j x c hx hc=> ?_)
  match j with
  |0=>simp at hx hc;subst hx;subst hc;exact h
  |1=>simp at hx hc;subst hx;subst hc;exact .bool _
  |j+2=>simp at hx
theorem v0L(h:HInv w K D H)(hs:Slots n w K D ρ a.tmps) {t:TypeId} {x y:Operand} {ok:Bool} (ho:o.op= .lookup t x y ok)(hx:Operand.inB n x=true)(hy:Operand.inB n y=true)
  {ef:Eff} (he:h0K P t (a0Y ρ x) (a0Y ρ y) ok H=some ef):n0w P w K D H o a ef.v (b0M H ef.wr):=by
 unfold h0K at he
 split at he
 ·rename_i kt et i k hu hxe hye
  split at he
  ·rename_i es hH
   split at he
   ·rename_i hkey
    obtain⟨r,c,m,hvx,hd⟩:=o0Y (a0j hs hx hxe)
    obtain⟨r',mes,clock,h1,h2,h3,h4,hB,h5⟩:=h.ent i _ hH
    rw[h1]at hd;cases hd
    have hky:=a0j hs hy hye
    obtain⟨hck,hfd⟩:=w0b (P:=P) hkey hky
    obtain⟨f1,f2⟩:=hfd mes.toList es (by simpa using h4) (fun j me kv hm hk=>h5 j me kv (by simpa using hm) hk)
    generalize hkv:a.eval y=vk at hky hck f1 f2
    have hex:execOp a.eval o=(do pure (Next.value (←Instr.lookup t (a.eval x) (a.eval y) ok)):Sem Next):=by unfold execOp;rw[ho]
    split at he
    ·rename_i zz v hf
     cases he
     obtain⟨q,vv,hq,hrv⟩:=f2 v hf
     refine f0m h (v:=if ok then .tuple #[vv, .bool true]else vv) ?_ (p0q hrv)
     rw[hex]
     refine b0E ?_
     rw[hvx,hkv]
     simp[Instr.lookup,run_underlying hu,MapKept.run_getObj_map h3,hck,hq,Result.andThen]
    ·rename_i z hf hz
     cases he
     have hq:=f1 hf
     obtain⟨vz,hzr,hrz⟩:=u0Q (w:=w) (K:=K) (D:=D) hz
     refine f0m h (v:=if ok then .tuple #[vz, .bool false]else vz) ?_ (p0q hrz)
     rw[hex]
     refine b0E ?_
     rw[hvx,hkv]
     simp[Instr.lookup,run_underlying hu,MapKept.run_getObj_map h3,hck,hq,hzr,Result.andThen]
    ·cases he
   ·cases he
  ·cases he
 ·cases he
end
end Go.Sy
