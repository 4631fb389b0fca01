/-
 The second shadow machine, part 4: operations that touch no entry do what they say.
-/
import Derived.Test.YtcapcgbamehojaaGreatDoorSyC
namespace Go.Sy
open Go Go.RowKit
set_option linter.unusedSimpArgs false
set_option linter.unusedVariables false
set_option linter.unusedSectionVars false
variable [Inhabited GT]
section
variable {P : Program} {n : Nat} {w : World} {K : Nat → Nat} {D : DM} {ρ : Env} {a : Act} {o : Oper}
theorem u0F(h:Slots n w K D ρ a.tmps) {src dst:TypeId} {x:Operand} (ho:o.op= .convert src dst x)(hx:Operand.inB n x=true) {s:SV}
  (hs:a0k P o ρ=some s):f0y P w K D o a s:=by
 have he:execOp a.eval o=(do pure (Next.value (←convert src dst (a.eval x)))):=by unfold execOp;rw[ho]
 simp only[a0k,ho]at hs
 split at hs
 ·rename_i d sv hsrc hxe
  have hrx:=a0j h hx hxe
  unfold r0y at hs
  split at hs
  ·rename_i k k' n hdst
   cases hs
   generalize hvx:a.eval x=vx at hrx
   cases hrx
   exact a0O he (r:= .int k (k.wrap n)) (by rw[hvx];simp[convert,run_underlying hsrc,run_underlying hdst,Conv.intToInt]) (.int _ _)
  ·cases hs
 ·cases hs
theorem y0R(h:Slots n w K D ρ a.tmps) {op:UnOp} {t:TypeId} {x:Operand} (ho:o.op= .unOp op t x)(hx:Operand.inB n x=true) {s:SV}
  (hs:a0k P o ρ=some s):f0y P w K D o a s:=by
 have he:execOp a.eval o=(do pure (Next.value (←Op.unary op (a.eval x)))):=by unfold execOp;rw[ho]
 simp only[a0k,ho]at hs
 split at hs
 ·rename_i sv hxe
  have hrx:=a0j h hx hxe
  unfold B0C at hs
  split at hs
  ·cases hs
   generalize hvx:a.eval x=vx at hrx
   cases hrx
   exact a0O he (by rw[hvx];simp only[Op.unary,Op.intArith];rfl) (.int _ _)
  ·cases hs
   generalize hvx:a.eval x=vx at hrx
   cases hrx
   exact a0O he (by rw[hvx];simp only[Op.unary,intBits_xor];rfl) (.int _ _)
  ·cases hs
   generalize hvx:a.eval x=vx at hrx
   cases hrx
   exact a0O he (by rw[hvx];simp only[Op.unary];rfl) (.bool _)
  ·cases hs
 ·cases hs
theorem y0c(h:Slots n w K D ρ a.tmps) {op:BinOp} {t u:TypeId} {x y:Operand} (ho:o.op= .binOp op t x y u)(hx:Operand.inB n x=true)(hy:Operand.inB n y=true) {s:SV}
  (hs:a0k P o ρ=some s):f0y P w K D o a s:=by
 have he:execOp a.eval o=(do pure (Next.value (←(do eqGuard op t x y (a.eval x) (a.eval y);binOp op t (a.eval x) (a.eval y):Sem Value)))):=by unfold execOp;rw[ho]
 simp only[a0k,ho]at hs
 split at hs
 ·rename_i sa sb hxe hye
  exact q0K he (s0R (a0j h hx hxe) (a0j h hy hye) hs)
 ·cases hs
theorem v0H(h:Slots n w K D ρ a.tmps) {x:Operand} (ho:o.op= .move x∨o.op= .assign x)(hx:Operand.inB n x=true) {s:SV}
  (hs:a0k P o ρ=some s):f0y P w K D o a s:=by
 have he:(execOp a.eval o).run P w= .ok (.value (a.eval x)) w:=by unfold execOp;rcases ho with ho|ho<;>rw[ho]<;>rfl
 have hs':a0Y ρ x=some s:=by rcases ho with ho|ho<;>simpa only[a0k,ho]using hs
 exact⟨_,he,a0j h hx hs'⟩
theorem z0g(h:Slots n w K D ρ a.tmps) {c x y:Operand} (ho:o.op= .pick c x y)(hc:Operand.inB n c=true)(hx:Operand.inB n x=true)(hy:Operand.inB n y=true) {s:SV}
  (hs:a0k P o ρ=some s):f0y P w K D o a s:=by
 simp only[a0k,ho]at hs
 have he:execOp a.eval o=(do pure (.value (if←asBool (a.eval c)then a.eval x else a.eval y))):=by unfold execOp;rw[ho]
 split at hs
 ·rename_i hce
  have hrc:=a0j h hc hce
  generalize hvc:a.eval c=vc at hrc
  cases hrc
  exact⟨_,by rw[he,hvc];simp[asBool],a0j h hx hs⟩
 ·rename_i hce
  have hrc:=a0j h hc hce
  generalize hvc:a.eval c=vc at hrc
  cases hrc
  exact⟨_,by rw[he,hvc];simp[asBool],a0j h hy hs⟩
 ·cases hs
theorem s0j(h:Slots n w K D ρ a.tmps) {x:Operand} (ho:o.op= .nilCheck x)(hx:Operand.inB n x=true) {s:SV}
  (hs:a0k P o ρ=some s):f0y P w K D o a s:=by
 simp only[a0k,ho]at hs
 have he: ∀r,a.eval x=r→(match r with| .pointer (some _)=>True| .func (.func _) _ _=>True|_=>False)→(execOp a.eval o).run P w= .ok (.value r) w:=by
  intro r hr hm
  unfold execOp
  rw[ho]
  dsimp only
  rw[hr]
  split at hm
  ·rfl
  ·rfl
  ·exact hm.elim
 split at hs
 ·rename_i i off hxe
  cases hs
  have hrx:=a0j h hx hxe
  generalize hvx:a.eval x=vx at hrx
  cases hrx with
  |ptr _ _ b c m hb=>exact⟨_,he _ hvx trivial, .ptr _ _ _ _ _ hb⟩
 ·rename_i cs hxe
  cases hs
  have hrx:=a0j h hx hxe
  generalize hvx:a.eval x=vx at hrx
  have hrx':=hrx
  cases hrx with
  |ep=>exact⟨_,he _ hvx trivial,hrx'⟩
 ·rename_i f p q hxe
  cases hs
  have hrx:=a0j h hx hxe
  generalize hvx:a.eval x=vx at hrx
  have hrx':=hrx
  cases hrx with
  |fn=>exact⟨_,he _ hvx trivial,hrx'⟩
 ·cases hs
theorem m0d(h:Slots n w K D ρ a.tmps) {lo:Option Operand} {d m:Int} {y:Nat} {code:BoundsCode} (hx: ∀x,lo=some x→Operand.inB n x=true)
  (hl:g0t ρ lo d=some m) (h0:0≤m) (h1:m≤y):
  (lo=none∧m=d)∨ ∃l,lo=some l∧(Instr.sliceBound (a.eval l) y code).run P w= .ok m.toNat w:=by
 cases lo with
 |none=>simp[g0t]at hl;exact .inl ⟨rfl,hl.symm⟩
 |some l=>
  right
  refine⟨l,rfl, ?_⟩
  simp only[g0t]at hl
  split at hl<;>cases hl
  rename_i k hle
  have hr:=a0j h (hx l rfl) hle
  generalize hvl:a.eval l=vl at hr
  cases hr
  simp[Instr.sliceBound,asIntOf,h0,h1]
theorem x0n(h:Slots n w K D ρ a.tmps) {t:TypeId} {x:Operand} {lo hi mx:Option Operand} (ho:o.op= .slice t x lo hi mx)(hx:Operand.inB n x=true)
  (hlo: ∀x,lo=some x→Operand.inB n x=true) (hhi: ∀x,hi=some x→Operand.inB n x=true) {s:SV}
  (hs:a0k P o ρ=some s):f0y P w K D o a s:=by
 have he:execOp a.eval o=(do pure (Next.value (←Instr.sliceAt t (a.eval x) (lo.map a.eval) (hi.map a.eval) (mx.map a.eval)))):=by unfold execOp;rw[ho]
 simp only[a0k,ho]at hs
 split at hs
 ·rename_i e n k cs hu hxe
  split at hs
  ·rename_i l hh hle hhe
   split at hs<;>try cases hs
   rename_i hk
   unfold v0h at hs
   split at hs<;>cases hs
   rename_i hc
   obtain⟨hk0,hl0,hlh,hle'⟩:=hc
   have hrx:=a0j h hx hxe
   have hsz:(sizeOf e).run P w= .ok k w:=by rw[hk];exact c0D (by rw[←hk];exact hk0)
   have bounds: ∀cap:Nat,n≤cap→(Instr.sliceBounds true n cap (lo.map a.eval) (hi.map a.eval) none).run P w= .ok (l.toNat,hh.toNat,cap) w:=by
    intro cap hlc
    have b1:=m0d (P:=P) (code:= .sliceAcap) h hhi hhe (by omega) (show hh≤(cap:Int) by omega)
    have b2:=m0d (P:=P) (code:= .sliceB) (y:=hh.toNat) h hlo hle hl0 (by omega)
    rcases b1 with⟨rfl,e1⟩|⟨y1,rfl,e1⟩<;>rcases b2 with⟨rfl,e2⟩|⟨y2,rfl,e2⟩
    ·subst e1;subst e2;simp[Instr.sliceBounds]
    ·subst e1;simp at e2;simp[Instr.sliceBounds,e2]
    ·subst e2;simp[Instr.sliceBounds,e1]
    ·simp[Instr.sliceBounds,e1,e2]
   rcases i0z hrx with⟨ea,ecap,hv,hcs,hn0⟩|⟨b,off,cap,vs,hv,hrow,hK,_,hl,hcap,hp⟩
   ·subst hcs;subst hn0
    have hb:=bounds ecap (co _)
    have h0:hh.toNat=0:=by omega
    have h0':l.toNat=0:=by omega
    refine a0O he (r:= .slice ea 0 ecap) ?_ (by simpa [h0,h0']using Rep.emp k ea ecap)
    rw[hv]
    have hadd:ea.map (fun x=>x.add (0*k))=ea:=by cases ea<;>simp[Addr.add]
    have hadd':ea.map (fun x=>x.add 0)=ea:=by cases ea<;>simp[Addr.add]
    simp[Instr.sliceAt,Instr.slice,run_underlying hu,hb,hsz,h0,h0',hadd']
   ·have hb:=bounds cap hcap
    have hlk:l.toNat*k≤hh.toNat*k:=aR k (by omega)
    have hhk:hh.toNat*k≤n*k:=aR k (by omega)
    have hrow':=(hrow.take (hh.toNat*k)).drop (l.toNat*k)
    have hvl:((vs.take (hh.toNat*k)).drop (l.toNat*k)).length=(hh.toNat-l.toNat)*k:=by
     simp only[aO,aH,Nat.sub_mul];omega
    have hcl:(hh.toNat-l.toNat)≤cap-l.toNat:=by omega
    have hp':b0x ((cs.take (hh.toNat*k)).drop (l.toNat*k))=true:=i0B (i0A hp _) _
    by_cases hml:cap=l.toNat
    ·have hz:(hh.toNat-l.toNat)=0:=by omega
     have hnil:(cs.take (hh.toNat*k)).drop (l.toNat*k)=[]:=by
      apply al
      rw[hrow'.len,hvl,hz,Nat.zero_mul]
     refine a0O he (r:= .slice (some ⟨b,off,none⟩) (hh.toNat-l.toNat) (cap-l.toNat)) ?_ ?_
     ·rw[hv]
      subst hml
      simp[Instr.sliceAt,Instr.slice,run_underlying hu,hb,hsz]
     ·rw[hnil,hz]
      exact .emp _ _ _
    ·refine a0O he (r:= .slice (some ⟨b,off+l.toNat*k,none⟩) (hh.toNat-l.toNat) (cap-l.toNat)) ?_ (hrow'.lst (by rw[hvl,Nat.sub_mul];omega) hk0 hvl hcl hp')
     rw[hv]
     simp[Instr.sliceAt,Instr.slice,run_underlying hu,hb,hsz,hml,add_lit]
  ·cases hs
 ·rename_i l0 hu hxe
  split at hs
  ·rename_i l hh hle hhe
   split at hs<;>cases hs
   rename_i hc
   obtain⟨hl0,hlh,hle'⟩:=hc
   have hrx:=a0j h hx hxe
   generalize hvx:a.eval x=vx at hrx
   cases hrx with
   |str sb=>
    have hsl:hh.toNat≤sb.size:=by simpa using hle'
    have b1:=m0d (P:=P) (code:= .sliceAlen) h hhi hhe (by omega) (show hh≤(sb.size:Int) by omega)
    have b2:=m0d (P:=P) (code:= .sliceB) (y:=hh.toNat) h hlo hle hl0 (by omega)
    have hb:(Instr.sliceBounds false sb.size sb.size (lo.map a.eval) (hi.map a.eval) none).run P w= .ok (l.toNat,hh.toNat,sb.size) w:=by
     rcases b1 with⟨rfl,e1⟩|⟨y1,rfl,e1⟩<;>rcases b2 with⟨rfl,e2⟩|⟨y2,rfl,e2⟩
     ·subst e1;subst e2;simp[Instr.sliceBounds]
     ·subst e1;simp at e2;simp[Instr.sliceBounds,e2]
     ·subst e2;simp[Instr.sliceBounds,e1]
     ·simp[Instr.sliceBounds,e1,e2]
    have hex:(sb.extract l.toNat hh.toNat).data.toList=(sb.data.toList.take hh.toNat).drop l.toNat:=by
     simp[ByteArray.data_extract,bP,List.drop_take]
    refine a0O he (r:= .string (sb.extract l.toNat hh.toNat)) ?_ (by rw[←hex];exact .str _)
    rw[hvx]
    simp[Instr.sliceAt,Instr.slice,run_underlying hu,hb]
  ·cases hs
 ·cases hs
theorem s0n(h:Slots n w K D ρ a.tmps) {fn:Fn} {first captured:Array Operand} (ho:o.op= .makeFunc fn first captured)
  (hx: ∀x∈first,Operand.inB n x=true) (hy: ∀x∈captured,Operand.inB n x=true) {s:SV}
  (hs:a0k P o ρ=some s):f0y P w K D o a s:=by
 have he:execOp a.eval o=(do pure (Next.value (←Instr.makeFunc fn (first.map a.eval) (captured.map a.eval)))):=by unfold execOp;rw[ho]
 simp only[a0k,ho]at hs
 have key: ∀(l:List Operand) (r:List SV),(∀x∈l,Operand.inB n x=true)→l.mapM (a0Y ρ)=some r→r.length=(l.map a.eval).length∧
   ∀(j:Nat) (v:Value) (c:SV),(l.map a.eval)[j]?=some v→r[j]?=some c→Rep w K D v c:=by
  intro l
  induction l with
  |nil=>intro r _ hr;simp at hr;subst hr;exact⟨rfl,fun j v c e=>by simp at e⟩
  |cons x l ih=>
   intro r hb hr
   simp only[cv]at hr
   cases hx1:a0Y ρ x with
   |none=>rw[hx1]at hr;cases hr
   |some s1=>
    rw[hx1]at hr
    cases hr1:l.mapM (a0Y ρ)with
    |none=>rw[hr1]at hr;cases hr
    |some r1=>
     rw[hr1]at hr
     cases hr
     obtain⟨i1,i2⟩:=ih r1 (fun y hy=>hb y (ao _ hy)) hr1
     refine⟨by simp[i1],fun j v c hv hc=> ?_⟩
     cases j with
     |zero=>simp at hv hc;subst hv;subst hc;exact a0j h (hb x (ar ..)) hx1
     |succ j=>exact i2 j v c (by simpa using hv) (by simpa using hc)
 split at hs
 ·rename_i p q hp hq
  cases hs
  obtain⟨p1,p2⟩:=key _ _ (fun x hm=>hx x (aS.1 hm)) hp
  obtain⟨q1,q2⟩:=key _ _ (fun x hm=>hy x (aS.1 hm)) hq
  refine a0O he (r:= .func fn (first.map a.eval) (captured.map a.eval)) rfl ?_
  have:=Rep.fn (w:=w) (K:=K) (D:=D) fn (first.toList.map a.eval) (captured.toList.map a.eval) p q p1 q1 p2 q2
  rw[show first.map a.eval=(first.toList.map a.eval).toArray from by apply Array.ext';simp,show captured.map a.eval=(captured.toList.map a.eval).toArray from by apply Array.ext';simp]
  exact this
 ·cases hs
theorem CR.nil:CR w K D [] []:=⟨rfl,fun c h=>(by cases h),fun j v c h=>(by simp at h)⟩
theorem CR.append {vs us:List Value} {cs ds:List SV} (h:CR w K D vs cs)(g:CR w K D us ds):CR w K D (vs++us) (cs++ds):=by
 refine⟨by simp[h.len,g.len],fun c hc=> ?_,fun j v c hv hc=> ?_⟩
 ·rcases au.1 hc with hc|hc
  ·exact h.one c hc
  ·exact g.one c hc
 ·rw[aD]at hv hc
  rw[h.len]at hc
  split at hv
  ·rename_i hj;rw[if_pos hj]at hc;exact h.rep j v c hv hc
  ·rename_i hj;rw[if_neg hj]at hc;exact g.rep _ v c hv hc
theorem CR.take {vs:List Value} {cs:List SV} (h:CR w K D vs cs)(n:Nat):CR w K D (vs.take n) (cs.take n):=
 ⟨by simp[h.len],fun c hc=>h.one c (cf hc),fun j v c hv hc=>
  h.rep j v c (by rw[aX]at hv;split at hv<;>first|exact hv|cases hv) (by rw[aX]at hc;split at hc<;>first|exact hc|cases hc)⟩
theorem CR.drop {vs:List Value} {cs:List SV} (h:CR w K D vs cs)(n:Nat):CR w K D (vs.drop n) (cs.drop n):=
 ⟨by simp[h.len],fun c hc=>h.one c (bO hc),fun j v c hv hc=>h.rep (n+j) v c (by simpa using hv) (by simpa using hc)⟩
theorem CR.splice {vs us:List Value} {cs ds:List SV} (h:CR w K D vs cs)(g:CR w K D us ds)(off:Nat):CR w K D (vs.take off++(us++vs.drop (off+us.length))) (splice cs off ds):=by
 unfold Sy.splice
 rw[g.len]
 exact(h.take off).append (g.append (h.drop _))
theorem q0f {v:Value} {s:SV} {ps:List SV} (h:Rep w K D v s)(hp:s.cells?=some ps):CR w K D v.cells.toList ps:=by
 have single: ∀(u:Value),Rep w K D u s→u.cells= #[u]→u.oneCell'=true→CR w K D u.cells.toList [s]:=by
  intro u hu hc h1
  rw[hc]
  refine⟨rfl,fun c hm=> ?_,fun j x c hx hc=> ?_⟩
  ·simp at hm;subst hm;exact h1
  ·cases j with
   |zero=>simp at hx hc;subst hx;subst hc;exact hu
   |succ j=>simp at hx
 cases h with
 |agg vs cs hc h1 h=>cases hp;exact⟨hc,h1,h⟩
 |undef=>cases hp
 |tup=>cases hp
 |ep=>cases hp
 |bool b=>cases hp;exact single _ (.bool b) rfl rfl
 |int k n=>cases hp;exact single _ (.int k n) rfl rfl
 |str sb=>cases hp;exact single _ (.str sb) rfl rfl
 |nl a=>cases hp;exact single _ (.nl a) rfl rfl
 |emp k a cap=>cases hp;exact single _ (.emp k a cap) rfl rfl
 |lst k b off len cap vs cs hk hl hc hcap hm hK h1 hpl h=>cases hp;exact single _ (.lst k b off len cap vs cs hk hl hc hcap hm hK h1 hpl h) rfl rfl
 |ptr i off b c n hb=>cases hp;exact single _ (.ptr i off b c n hb) rfl rfl
 |vcn i a hd=>cases hp;exact single _ (.vcn i a hd) rfl rfl
 |vc i b c n hd=>cases hp;exact single _ (.vc i b c n hd) rfl rfl
 |sl i off n k b c m cap hd hn=>cases hp;exact single _ (.sl i off n k b c m cap hd hn) rfl rfl
 |mp i r c n hd=>cases hp;exact single _ (.mp i r c n hd) rfl rfl
 |fn f fs caps gs dcs hc hd h h'=>cases hp;exact single _ (.fn f fs caps gs dcs hc hd h h') rfl rfl
 |nilp=>cases hp;exact single _ .nilp rfl rfl
theorem s0B: ∀(l:List Value) (k off:Nat) (cells:Array Value),off+k+l.length≤cells.size→
  ((l.zipIdx k).foldl (fun cs x=>cs.setIfInBounds (off+x.2) x.1) cells).toList=cells.toList.take (off+k)++(l++cells.toList.drop (off+k+l.length)):=by
 intro l
 induction l with
 |nil=>intro k off cells _;simp
 |cons x l ih=>
  intro k off cells h
  simp only[List.zipIdx_cons,List.foldl_cons]
  rw[ih (k+1) off _ (by simp at h⊢;omega)]
  have hlt:off+k<cells.toList.length:=by simp at h⊢;omega
  simp only[Array.toList_setIfInBounds,aJ]
  rw[show off+(k+1)=off+k+1 from by omega,show off+k+1+l.length=off+k+(l.length+1)from by omega]
  rw[bc (by simpa using hlt),List.take_set_of_le (ak _),List.drop_set_of_lt (by omega)]
  simp
theorem s0F(h:Slots n w K D ρ a.tmps) {place:Nat→Option (Nat×Nat)} : ∀(parts:List (Nat×Operand)) (cells:Array Value) (cs cs':List SV),(∀p∈parts,Operand.inB n p.2=true)→
  CR w K D cells.toList cs→l0Z ρ place cs parts=some cs'→ ∃cells',Instr.fill place cells (parts.map fun p=>(p.1,a.eval p.2))=some cells'∧CR w K D cells'.toList cs':=by
 intro parts
 induction parts with
 |nil=>intro cells cs cs' _ hcr hs;cases hs;exact⟨cells,rfl,hcr⟩
 |cons p rest ih=>
  intro cells cs cs' hb hcr hs
  obtain⟨i,x⟩:=p
  simp only[l0Z]at hs
  split at hs
  ·rename_i off size ps hp hx
   split at hs
   ·rename_i hc
    obtain⟨hl,hle⟩:=hc
    cases hxe:a0Y ρ x with
    |none=>rw[hxe]at hx;cases hx
    |some sx=>
     rw[hxe]at hx
     have hrx:=a0j h (hb (i,x) (ar ..)) hxe
     have hcx:=q0f hrx hx
     have hvl:(a.eval x).cells.size=size:=by have:=hcx.len;simp at this;omega
     have hcl:cs.length=cells.size:=by simpa using hcr.len
     have hle':off+0+(a.eval x).cells.toList.length≤cells.size:=by simp;omega
     have hf:=s0B (a.eval x).cells.toList 0 off cells hle'
     have hcond: ¬(((a.eval x).cells.size≠size||off+(a.eval x).cells.size>cells.size)=true):=by simp;omega
     obtain⟨cells',h1,h2⟩:=ih ((a.eval x).cells.toList.zipIdx.foldl (fun cs x=>cs.setIfInBounds (off+x.2) x.1) cells) _ cs' (fun p hm=>hb p (ao _ hm)) (by
      rw[hf];simpa using hcr.splice hcx off) hs
     refine⟨cells', ?_,h2⟩
     simp only[ah,Instr.fill,hp]
     rw[if_neg (by simpa using hcond)]
     have hz:(a.eval x).cells.zipIdx.foldl (fun cs x=>cs.setIfInBounds (off+x.2) x.1) cells=(a.eval x).cells.toList.zipIdx.foldl (fun cs x=>cs.setIfInBounds (off+x.2) x.1) cells:=by
      rw[←Array.foldl_toList];simp
     rw[←hz]at h1
     exact h1
   ·cases hs
  ·cases hs
theorem t0S {x:Value} {s:SV} (h:u0P x=some s):Rep w K D x s∧x.oneCell'=true:=by
 unfold u0P at h
 split at h
 ·rename_i s' hx
  cases h
  have hpl:s.plain=true:=by unfold k0n at hx;split at hx<;>cases hx<;>rfl
  exact⟨i0N hx,q0N (w:=w) (K:=K) (D:=D) (i0N hx) hpl⟩
 ·split at h<;>cases h
  rename_i h1
  exact⟨.undef _,h1⟩
theorem p0Z {v:Value} {cs:List SV} (h:m0D v=some cs):CR w K D v.cells.toList cs:=by
 unfold m0D at h
 generalize v.cells.toList=l at h
 induction l generalizing cs with
 |nil=>simp at h;subst h;exact CR.nil
 |cons x l ih=>
  simp only[cv]at h
  cases hx:u0P x with
  |none=>rw[hx]at h;cases h
  |some s=>
   rw[hx]at h
   cases hl:l.mapM u0P with
   |none=>rw[hl]at h;cases h
   |some r=>
    rw[hl]at h
    cases h
    obtain⟨hz1,hz2⟩:=t0S (w:=w) (K:=K) (D:=D) hx
    have h1:CR w K D [x] [s]:=⟨rfl,fun c hm=>by simp at hm;subst hm;exact hz2,fun j v c hv hc=>by
     cases j with
     |zero=>simp at hv hc;subst hv;subst hc;exact hz1
     |succ j=>simp at hv⟩
    exact h1.append (ih hl)
theorem k0s {t:TypeId} {cs:List SV} (h:m0V P t=some cs): ∃i z,P.info? t=some i∧i.zero=some z∧cs.length=i.size∧P.cellsOf t=i.size∧True∧ ∀(w:World) (K:Nat→Nat) (D:DM),CR w K D z.cells.toList cs:=by
 unfold m0V at h
 split at h
 ·rename_i i hi
  split at h
  ·rename_i z hz
   split at h
   ·rename_i cs' hcs
    split at h<;>cases h
    rename_i hl
    exact⟨i,z,hi,hz,hl,by simp[Program.cellsOf,hi],trivial,fun w K D=>p0Z hcs⟩
   ·cases h
  ·cases h
 ·cases h
theorem y0a(h:Slots n w K D ρ a.tmps) {t:TypeId} {parts:Array (Nat×Operand)} (ho:o.op= .build t parts)(hb: ∀p∈parts.toList,Operand.inB n p.2=true) {s:SV}
  (hs:a0k P o ρ=some s):f0y P w K D o a s:=by
 have he:execOp a.eval o=(do pure (Next.value (←Instr.build t (parts.map fun p=>(p.1,a.eval p.2))))):=by unfold execOp;rw[ho]
 have hpl:(parts.map fun p=>(p.1,a.eval p.2)).toList=parts.toList.map fun p=>(p.1,a.eval p.2):=by simp
 simp only[a0k,ho]at hs
 split at hs
 ·rename_i zs pl hz hp
  cases hf:l0Z ρ (fun i=>pl[i]?) zs parts.toList with
  |none=>rw[hf]at hs;cases hs
  |some cs=>
   rw[hf]at hs;cases hs
   obtain⟨i,z,hi,hzz,hl,hc,_,hcr⟩:=k0s hz
   obtain⟨cells',h1,h2⟩:=s0F h parts.toList z.cells zs cs hb (hcr w K D) hf
   unfold t0o at hp
   split at hp
   ·rename_i fs hu
    refine a0O he (r:= .agg cells') (run_build w t _ _ ?_) (by have:=Rep.agg _ _ h2.len h2.one h2.rep;simpa using this)
    unfold Program.built
    simp only[hi,hu,hzz,hp,hpl]
    rw[←h1]
    congr 1
    funext j
    simp
   ·cases hp
 ·rename_i zs k hz hp hk
  cases hf:l0Z ρ (fun i=>some (i*k,k)) zs parts.toList with
  |none=>rw[hf]at hs;cases hs
  |some cs=>
   rw[hf]at hs;cases hs
   obtain⟨i,z,hi,hzz,hl,hc,_,hcr⟩:=k0s hz
   obtain⟨cells',h1,h2⟩:=s0F h parts.toList z.cells zs cs hb (hcr w K D) hf
   unfold r0x at hk
   split at hk
   ·rename_i n e hu
    cases hie:P.info? e with
    |none=>rw[hie]at hk;cases hk
    |some ie=>
     rw[hie]at hk;cases hk
     refine a0O he (r:= .agg cells') (run_build w t _ _ ?_) (by have:=Rep.agg _ _ h2.len h2.one h2.rep;simpa using this)
     unfold Program.built
     simp only[hi,hu,hzz,hie,hpl]
     exact h1
   ·cases hk
 ·cases hs
def Op.inB(n:Nat)(o:Op):Bool:=o.operands.all (Operand.inB n)
theorem u0p(h:Slots n w K D ρ a.tmps)(hb:Op.inB n o.op=true) {s:SV} (hs:a0k P o ρ=some s):f0y P w K D o a s:=by
 unfold Op.inB at hb
 rw[bp]at hb
 cases ho:o.op
 case move x=>exact v0H h (.inl ho) (hb x (by simp[ho,Op.operands])) hs
 case assign x=>exact v0H h (.inr ho) (hb x (by simp[ho,Op.operands])) hs
 case pick c x y=>exact z0g h ho (hb c (by simp[ho,Op.operands])) (hb x (by simp[ho,Op.operands])) (hb y (by simp[ho,Op.operands])) hs
 case binOp op t x y u=>exact y0c h ho (hb x (by simp[ho,Op.operands])) (hb y (by simp[ho,Op.operands])) hs
 case unOp op t x=>exact y0R h ho (hb x (by simp[ho,Op.operands])) hs
 case convert s d x=>exact u0F h ho (hb x (by simp[ho,Op.operands])) hs
 case extract x i=>exact u0B h ho (hb x (by simp[ho,Op.operands])) hs
 case nilCheck x=>exact s0j h ho (hb x (by simp[ho,Op.operands])) hs
 case indexAddr t x i=>exact r0p h ho (hb x (by simp[ho,Op.operands])) (hb i (by simp[ho,Op.operands])) hs
 case index t x i=>exact x0R h ho (hb x (by simp[ho,Op.operands])) (hb i (by simp[ho,Op.operands])) hs
 case fieldAddr t x f=>exact r0t h ho (hb x (by simp[ho,Op.operands])) hs
 case field t x f=>exact x0X h ho (hb x (by simp[ho,Op.operands])) hs
 case load t x=>exact z0x h ho (hb x (by simp[ho,Op.operands])) hs
 case slice t x lo hi mx=>
  exact x0n h ho (hb x (by simp[ho,Op.operands])) (fun y hy=>hb y (by subst hy;simp[ho,Op.operands])) (fun y hy=>hb y (by subst hy;simp[ho,Op.operands])) hs
 case makeFunc f p q=>exact s0n h ho (fun x hm=>hb x (by simp[ho,Op.operands,hm])) (fun x hm=>hb x (by simp[ho,Op.operands,hm])) hs
 case build t parts=>exact y0a h ho (fun p hp=>hb p.2 (by simp only[ho,Op.operands,cy,aK];exact⟨p,hp,rfl⟩)) hs
 case call c=>exact A0E h ho (fun x hm=>hb x (by simp[ho,Op.operands,Call.operands,hm])) hs
 all_goals(simp only[a0k,ho]at hs;cases hs)
end
end Go.Sy
