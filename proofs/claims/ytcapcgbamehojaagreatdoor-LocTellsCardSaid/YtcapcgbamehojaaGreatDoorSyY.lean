/-
 The second shadow machine: structs and arrays are compared; a list of bytes is settled by a conversion to its own type.
-/
import Derived.Test.YtcapcgbamehojaaGreatDoorSyH
import Derived.Laws.StructEq
namespace Go.Sy
open Go Go.RowKit
set_option linter.unusedSimpArgs false
set_option linter.unusedVariables false
set_option linter.unusedSectionVars false
variable [Inhabited GT]
variable {P : Program} {w : World} {K : Nat → Nat} {D : DM} {H : a0o} {n : Nat} {ρ : Env} {a : Act} {o : Oper} {idx : Nat}
def m0B(d:Nat)(e:TypeId)(n:Nat)(xs ys:Array Value):List Nat→Sem Bool
 | []=>pure true
 |i::l=>do
  let a←part e xs (i*n)
  let b←part e ys (i*n)
  let r←Op.equalIn d e a b
  if(!r)=true then pure false else m0B d e n xs ys l
theorem m0n(d:Nat)(t e:TypeId)(len:Nat)(xs ys:Array Value)(ht:P.underlying t=some (.array len e))(hk:0<P.cellsOf e):
  (Op.equalIn (d+1) t (.agg xs) (.agg ys)).run P w=(m0B d e (P.cellsOf e) xs ys (List.range' 0 len)).run P w:=by
 simp only[Op.equalIn,Sem.run_bind,run_underlying ht,Result.andThen_ok,c0D hk]
 rw[Std.Legacy.Range.forIn_eq_forIn_range']
 simp only[Std.Legacy.Range.size,bN,Nat.add_sub_cancel,Nat.div_one]
 generalize List.range' 0 len=l
 induction l generalizing w with
 |nil=>simp[m0B]
 |cons i l ih=>
  simp only[List.forIn_cons,m0B,Sem.run_bind,Sem.run_ite]
  generalize(part e xs (i*P.cellsOf e)).run P w=r1
  cases r1 with
  |ok a w1=>
   simp only[Result.andThen_ok]
   generalize(part e ys (i*P.cellsOf e)).run P w1=r2
   cases r2 with
   |ok b w2=>
    simp only[Result.andThen_ok]
    generalize(Op.equalIn d e a b).run P w2=r3
    cases r3 with
    |ok r w3=>
     cases r
     ·simp only[Result.andThen_ok,Bool.not_false,if_true,Sem.run_pure]
     ·simp only[Result.andThen_ok,aA,aE,if_false,Sem.run_pure]
      exact ih
    |halt x w3=>simp[Result.andThen]
   |halt x w2=>simp[Result.andThen]
  |halt x w1=>simp[Result.andThen]
theorem z0H {d':Nat} {f:TypeId→SV→SV→Option Bool} (hf: ∀t a b r,f t a b=some r→ ∀u v,Rep w K D u a→Rep w K D v b→(Op.equalIn d' t u v).run P w= .ok r w)
  {us vs:List Value} {xs ys:List SV} (hl:xs.length=us.length) (hl':ys.length=vs.length) (h1: ∀v∈us,v.oneCell'=true) (h1': ∀v∈vs,v.oneCell'=true)
  (hr: ∀(j:Nat) (v:Value) (c:SV),us[j]?=some v→xs[j]?=some c→Rep w K D v c) (hr': ∀(j:Nat) (v:Value) (c:SV),vs[j]?=some v→ys[j]?=some c→Rep w K D v c):
  ∀(fs:List Field) (r:Bool),A0O P f xs ys fs=some r→(Op.eqFields d' us.toArray vs.toArray fs).run P w= .ok r w:=by
 intro fs
 induction fs with
 |nil=>intro r h;cases h;rfl
 |cons fd fs ih=>
  intro r h
  unfold A0O at h
  unfold Op.eqFields
  split at h
  ·rename_i hn
   rw[if_pos hn]
   split at h
   ·rename_i a b ha hb
    split at h
    ·rename_i p q hp hq
     cases h
     obtain⟨u,hu,hur⟩:=d0f (P:=P) hl h1 hr ha
     obtain⟨v,hv,hvr⟩:=d0f (P:=P) hl' h1' hr' hb
     simp only[Sem.run_bind,hu,Result.andThen_ok,hv,hf _ _ _ _ hp u v hur hvr,Sem.run_ite]
     cases p with
     |false=>simp
     |true=>simp[ih q hq]
    ·cases h
   ·cases h
  ·rename_i hn
   rw[if_neg hn]
   exact ih r h
theorem z0I {d' e:Nat} {f:SV→SV→Option Bool} (hf: ∀a b r,f a b=some r→ ∀u v,Rep w K D u a→Rep w K D v b→(Op.equalIn d' e u v).run P w= .ok r w)
  {us vs:List Value} {xs ys:List SV} (hl:xs.length=us.length) (hl':ys.length=vs.length) (h1: ∀v∈us,v.oneCell'=true) (h1': ∀v∈vs,v.oneCell'=true)
  (hr: ∀(j:Nat) (v:Value) (c:SV),us[j]?=some v→xs[j]?=some c→Rep w K D v c) (hr': ∀(j:Nat) (v:Value) (c:SV),vs[j]?=some v→ys[j]?=some c→Rep w K D v c):
  ∀(m i:Nat) (r:Bool),B0i P f e (P.cellsOf e) xs ys m i=some r→(m0B d' e (P.cellsOf e) us.toArray vs.toArray (List.range' i m)).run P w= .ok r w:=by
 intro m
 induction m with
 |zero=>intro i r h;cases h;rfl
 |succ m ih=>
  intro i r h
  unfold B0i at h
  rw[List.range'_succ]
  unfold m0B
  split at h
  ·rename_i a b ha hb
   split at h
   ·rename_i p q hp hq
    cases h
    obtain⟨u,hu,hur⟩:=d0f (P:=P) hl h1 hr ha
    obtain⟨v,hv,hvr⟩:=d0f (P:=P) hl' h1' hr' hb
    simp only[Sem.run_bind,hu,Result.andThen_ok,hv,hf _ _ _ hp u v hur hvr,Sem.run_ite]
    cases p with
    |false=>simp
    |true=>simp[ih (i+1) q hq]
   ·cases h
  ·cases h
theorem w0x: ∀(d:Nat) (t:TypeId) (a b:SV) (r:Bool),eqS P d t a b=some r→ ∀u v,Rep w K D u a→Rep w K D v b→ ∀d',d≤d'→(Op.equalIn d' t u v).run P w= .ok r w:=by
 intro d
 induction d with
 |zero=>intro t a b r h;cases h
 |succ d ih=>
  intro t a b r h u v hu hv d' hd
  obtain⟨d',rfl⟩: ∃q,d'=q+1:=⟨d'-1,by omega⟩
  unfold eqS at h
  split at h
  ·rename_i x y ht
   cases hu;cases hv;cases h
   exact run_equalIn_bool w d' t x y ht
  ·rename_i kk k x k' y ht
   split at h<;>cases h
   cases hu;cases hv
   rename_i hk;subst hk
   rw[run_equalIn_int w d' t k kk x y ht]
   congr 1
  ·rename_i x y ht
   cases h
   cases hu;cases hv
   rw[run_equalIn_string w d' t _ _ ht]
   simp[i0M]
  ·rename_i fs xs ys ht
   split at h
   ·rename_i hp
    cases hu with
    |agg us _ hl h1 hr=>
     cases hv with
     |agg vs _ hl' h1' hr'=>
      have hfo:P.fieldsOf t=fs:=by unfold Program.fieldsOf;rw[ht]
      rw[run_equalIn_struct w d' t _ _ (by rw[hfo];exact ht) hp,hfo]
      exact z0H (fun t a b r hh u v hu hv=>ih t a b r hh u v hu hv d' (by omega)) hl hl' h1 h1' hr hr' fs.toList r h
   ·cases h
  ·rename_i len e xs ys ht
   split at h
   ·rename_i hk
    cases hu with
    |agg us _ hl h1 hr=>
     cases hv with
     |agg vs _ hl' h1' hr'=>
      rw[m0n d' t e len _ _ ht hk]
      exact z0I (fun a b r hh u v hu hv=>ih e a b r hh u v hu hv d' (by omega)) hl hl' h1 h1' hr hr' len 0 r h
   ·cases h
  ·cases h
theorem A0P(h:HInv w K D H)(hs:Slots n w K D ρ a.tmps) {op:BinOp} {t ty:TypeId} {x y:Operand} (ho:o.op= .binOp op t x y ty)(hx:Operand.inB n x=true)(hy:Operand.inB n y=true) {ef:Eff}
  (he:eqE P op t (a0Y ρ x) (a0Y ρ y)=some ef):n0w P w K D H o a ef.v (b0M H ef.wr):=by
 have hex:execOp a.eval o=(do pure (Next.value (←(do eqGuard op t x y (a.eval x) (a.eval y);binOp op t (a.eval x) (a.eval y):Sem Value)))):=by unfold execOp;rw[ho]
 unfold eqE at he
 split at he
 ·rename_i xs ys hxe hye
  have hrx:=a0j hs hx hxe
  have hry:=a0j hs hy hye
  split at he
  ·rename_i hg
   cases hq:eqS P 9 t (.agg xs) (.agg ys)with
   |none=>rw[hq]at he;cases he
   |some b=>
    rw[hq]at he;cases he
    have hrun:=w0x 9 t _ _ b hq _ _ hrx hry 10000 (by omega)
    generalize hvx:a.eval x=vx at hrx hrun
    generalize hvy:a.eval y=vy at hry hrun
    cases hrx with
    |agg us _ hl h1 hr=>
     cases hry with
     |agg vs _ hl' h1' hr'=>
      refine f0m h (v:= .bool b) ?_ (.bool b)
      rw[hex,hvx,hvy]
      refine b0E ?_
      simp only[Sem.run_bind,run_eqGuard_agg w .eql t x y _ _ hg,Result.andThen_ok,run_eql_struct,hrun,Sem.run_pure]
  ·cases he
 ·rename_i xs ys hxe hye
  have hrx:=a0j hs hx hxe
  have hry:=a0j hs hy hye
  split at he
  ·rename_i hg
   cases hq:eqS P 9 t (.agg xs) (.agg ys)with
   |none=>rw[hq]at he;cases he
   |some b=>
    rw[hq]at he;cases he
    have hrun:=w0x 9 t _ _ b hq _ _ hrx hry 10000 (by omega)
    generalize hvx:a.eval x=vx at hrx hrun
    generalize hvy:a.eval y=vy at hry hrun
    cases hrx with
    |agg us _ hl h1 hr=>
     cases hry with
     |agg vs _ hl' h1' hr'=>
      refine f0m h (v:= .bool (!b)) ?_ (.bool (!b))
      rw[hex,hvx,hvy]
      refine b0E ?_
      simp only[Sem.run_bind,run_eqGuard_agg w .neq t x y _ _ hg,Result.andThen_ok,run_neq_struct,hrun,Sem.run_pure]
  ·cases he
 ·cases he
theorem r0q(w:World)(b off c:Nat)(h:c≠b):(w.freeze ⟨b,off,none⟩ 1).heap[c]?=w.heap[c]?:=by
 unfold World.freeze
 rw[if_neg (by decide)]
 simp only[cd]
 rw[if_neg (Ne.symm h)]
theorem w0o(w:World)(b off:Nat) {arr:Array Value} {e:TypeId} (h:w.heap[b]?=some (.cells arr e (0,0))):(w.freeze ⟨b,off,none⟩ 1).heap[b]?=some (.cells arr e (off,off+1)):=by
 unfold World.freeze
 rw[if_neg (by decide)]
 simp only[cd,if_pos,h]
 rfl
theorem s0A(w:World)(b off:Nat):(w.freeze ⟨b,off,none⟩ 1).heap.size=w.heap.size:=by
 unfold World.freeze
 rw[if_neg (by decide)]
 simp
theorem s0M(h:HInv w K D H)(hs:Slots n w K D ρ a.tmps) {src dst e:TypeId} {x:Operand} (ho:o.op= .convert src dst x)(hx:Operand.inB n x=true)(hsd:src=dst)(hu:P.underlying src=some (.slice e))
  (he:P.underlying e=some (.int .u8)) {i nn k:Nat} {e':TypeId} {cs:List SV} (hxe:a0Y ρ x=some (.vc i)) (hH:H[i]?=some (.vec nn k e' cs)) (hn:0<nn):n0w P w K D H o a (.lst nn k cs) (H.set i .gone):=by
 subst hsd
 have hex:execOp a.eval o=(do pure (Next.value (←convert src src (a.eval x)))):=by unfold execOp;rw[ho]
 have hrx:=a0j hs hx hxe
 generalize hvx:a.eval x=vx at hrx
 have hil:i<H.length:=(ab.1 hH).1
 obtain⟨hp,hent⟩:=h.ent i _ hH
 rcases hent with⟨h1,h2,h3⟩|⟨b,c,vs,rest,h1,h2,h3,h4,h5,h6,h7,h8,h9⟩
 ·omega
 have hvv:vx= .slice (some ⟨b,0,none⟩) nn c:=by
  cases hrx with
  |vcn _ ad hd=>rw[h1]at hd;cases hd
  |vc _ b' c' n' hd=>rw[h1]at hd;cases hd;rfl
 subst hvv
 have hrun:(convert src src (.slice (some ⟨b,0,none⟩) nn c)).run P w= .ok (.slice (some ⟨b,0,none⟩) nn c) (w.freeze ⟨b,(vs++rest).toArray.size,none⟩ 1):=by
  have hsh:w.shape? b=some (e',(vs++rest).toArray.size):=by unfold World.shape?;rw[h6]
  simp[convert,run_underlying hu,run_underlying he,markStringish,hsh]
 generalize hw':w.freeze ⟨b,(vs++rest).toArray.size,none⟩ 1=w' at hrun
 have hb':w'.heap[b]?=some (.cells (vs++rest).toArray e' ((vs++rest).toArray.size,(vs++rest).toArray.size+1)):=by rw[←hw'];exact w0o w b _ h6
 have hoth: ∀c,c≠b→w'.heap[c]?=w.heap[c]?:=fun c hc=>by rw[←hw'];exact r0q w b _ c hc
 have hsz:w'.heap.size=w.heap.size:=by rw[←hw'];exact s0A w b _
 have hos:w'.os=w.os:=by rw[←hw'];unfold World.freeze;rw[if_neg (by decide)]
 have htp:w'.tape=w.tape:=by rw[←hw'];unfold World.freeze;rw[if_neg (by decide)]
 have hot:w'.output=w.output:=by rw[←hw'];unfold World.freeze;rw[if_neg (by decide)]
 have hcell: ∀b' j,w'.cell? ⟨b',j,none⟩=w.cell? ⟨b',j,none⟩:=fun b' j=>by
  unfold World.cell?
  by_cases hbb:b'=b
  ·subst hbb;simp only[hb',h6]
  ·simp only[hoth b' hbb]
 have hmono: ∀b',K b'≤(if b'=b then nn*k else K b'):=fun b'=>by
  split
  ·rename_i e1;subst e1;omega
  ·exact ak _
 have hm: ∀v s,Rep w K D v s→Rep w' (fun b'=>if b'=b then nn*k else K b') D v s:=fun v s hr=>hr.mono (fun _ _ _=>hcell _ _) hmono (fun _ _ e=>e)
 have hmemi:Mem D H b:=⟨i,_,c,nn,hH,rfl,h1⟩
 have hget: ∀j en,(H.set i .gone)[j]?=some en→(j=i∧en= .gone)∨(j≠i∧H[j]?=some en):=by
  intro j en hj
  by_cases hji:i=j
  ·subst hji
   rw[cw hil]at hj
   cases hj
   exact .inl ⟨rfl,rfl⟩
  ·rw[cg hji]at hj;exact .inr ⟨Ne.symm hji,hj⟩
 have hmem: ∀b,Mem D (H.set i .gone) b→Mem D H b:=by
  rintro b ⟨j,en,c,n',q1,q2,q3⟩
  rcases hget j en q1 with⟨_,rfl⟩|⟨_,g1⟩
  ·cases q2
  ·exact⟨j,en,c,n',g1,q2,q3⟩
 have hrow:=f0v h6 h9
 refine⟨_,w', .inl (by rw[hex];exact b0E (by rw[hvx];exact hrun)),fun b'=>if b'=b then nn*k else K b',D, ?_, ?_, ?_⟩
 ·refine⟨hos,htp,hot,by omega,fun b' hb1 hb2=>hoth b' (fun(e1:b'=b)=>hb2 (e1▸hmemi)),fun _ _ _=>hcell _ _,hmono,fun b' hb1 hb2=>if_neg (fun(e1:b'=b)=>hb2 (e1▸hmemi)),fun _ _ e=>e,fun b' hb1=> .inl (hmem b' hb1)⟩
 ·refine⟨fun j hj=>h.dom j (by simpa using hj),fun j en hj=> ?_,fun j j' en en' b1 c1 n1 c2 n2 hj hj' hl hl' hdj hdj'=> ?_,fun b1 hb1=> ?_⟩
  ·rcases hget j en hj with⟨_,rfl⟩|⟨hne,g1⟩
   ·trivial
   ·refine(h.ent j en g1).keep hm rfl (fun b1 c1 n1 hl hdj=> ?_)
    have hbn:b1≠b:=fun e1=>by
     subst e1
     exact hne (h.inj j i en _ b1 c1 n1 c nn g1 hH hl rfl hdj h1)
    exact⟨hoth b1 hbn,if_neg hbn⟩
  ·rcases hget j en hj with⟨_,rfl⟩|⟨_,g1⟩
   ·cases hl
   ·rcases hget j' en' hj' with⟨_,rfl⟩|⟨_,g1'⟩
    ·cases hl'
    ·exact h.inj j j' en en' b1 c1 n1 c2 n2 g1 g1' hl hl' hdj hdj'
  ·rw[hsz]
   by_cases hbb:b1=b
   ·subst hbb;exact(aj.1 h6).1
   ·rw[if_neg hbb]at hb1;exact h.kw b1 hb1
 ·exact .lst k b 0 nn c vs cs h3 h7 h9.len h4 (fun j v hj=>(hcell _ _).trans (hrow.mem j v hj)) (by simp[h7]) h9.one hp (fun j v c hv hc=>hm _ _ (h9.rep j v c hv hc))
end Go.Sy
