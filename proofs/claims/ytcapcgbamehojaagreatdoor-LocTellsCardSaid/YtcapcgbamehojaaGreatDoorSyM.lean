/-
 The second shadow machine, part 13: judgements that name the slots that are known, and their rules.
-/
import Derived.Test.YtcapcgbamehojaaGreatDoorSyL
import Derived.KernelRfl
namespace Go.Sy
open Go Go.RowKit
set_option linter.unusedSimpArgs false
set_option linter.unusedVariables false
set_option linter.unusedSectionVars false
variable [Inhabited GT]
abbrev LE:=List (Nat×SV)
def lk:LE→Nat→SV
 | [],_=> .undef
 |(i,v)::r,t=>bif Nat.beq t i then v else lk r t
def b0s(L:LE):Env:=fun t=>lk L t
def g0e(L:LE)(d:Option Nat)(v:SV):LE:=match d with
 |some d=>(d,v)::L
 |none=>L
theorem c0K(L:LE)(d:Option Nat)(v:SV):k0U (b0s L) d v=b0s (g0e L d v):=by
 cases d with
 |none=>rfl
 |some d=>
  funext t
  simp only[k0U,upd,g0e,b0s,lk]
  by_cases h:t=d
  ·subst h;simp
  ·have:Nat.beq t d=false:=by cases hb:Nat.beq t d with
    |false=>rfl
    |true=>exact absurd (af hb) h
   rw[if_neg h,this];rfl
def h0O(ts:List Nat)(L:LE):LE:=ts.map fun t=>(t,lk L t)
def Sees(F:Fr)(L:LE)(H:a0o)(a:Act)(w:World):Prop:=St F (b0s L) H a w
abbrev h0f:=Exit→Act→World→Prop
def d0e(n:Nat):Code→Bool
 | .region _ ops _=>ops.toList.all (Oper.inB n ops)
 | .seq a b=>d0e n a&&d0e n b
 | .cond c x y=>Operand.inB n c&&d0e n x&&d0e n y
 | .block _ c=>d0e n c
 | .loop c=>d0e n c
 | .scope c=>d0e n c
 |_=>true
def J(F:Fr)(P:Program)(c:Code)(L:LE)(H:a0o)(Q:h0f):Prop:=d0e F.n c=true→ ∀a w,Sees F L H a w→c.wp P Q a w
def PJ(F:Fr)(Q:h0f)(e:Exit)(L:LE)(H:a0o):Prop:= ∀a w,Sees F L H a w→Q e a w
def l0b(F:Fr)(P:Program)(c:Code)(Q:h0f):h0f:=Exit.then (fun a w=>d0e F.n c=true→c.wp P Q a w) Q
def RJ(F:Fr)(P:Program)(m:Option Nat)(ops:Array Oper)(p:Nat)(tr:List (List Nat×List Nat))(L:LE)(H:a0o)(Q:h0f):Prop:=
 match m with
 |none=>ops.toList.all (Oper.inB F.n ops)=true→ ∀a w,Sees F L H a w→wpList P ops Q (ops.toList.drop p) a w
 |some base=>tr.length=p→u0U P ops base tr (ops.toList.drop p) (fun ρ H=> ∀a w,St F ρ H a w→Q .normal a w) (b0s L) H
def y0y(m:Option Nat)(ops:Array Oper)(p:Nat)(H:a0o):Nat:=match m with
 |none=>H.length
 |some base=>e0T ops base p
def trM(m:Option Nat)(ops:Array Oper)(p:Nat)(o:Oper)(ef:Eff)(tr:List (List Nat×List Nat)):List (List Nat×List Nat):=match m with
 |none=>tr
 |some base=>tr++ [(k0H o ef,i0H ops base p o ef)]
def s0t(en:Option Ent):Bool:=match en with
 |some .res=>true
 |_=>false
def okM(m:Option Nat)(ops:Array Oper)(p:Nat)(o:Oper)(ef:Eff)(tr:List (List Nat×List Nat))(H:a0o):Bool:=match m with
 |none=>true
 |some base=>i0Z o (k0H o ef) (i0H ops base p o ef) tr 0&&(!d0F o||s0t (H[e0T ops base p]?))&&ef.wr.all (fun x=>Nat.blt x.1 H.length)
section
variable {F : Fr} {P : Program} {L : LE} {H : a0o} {Q : h0f} {m : Option Nat} {ops : Array Oper} {p : Nat} {tr : List (List Nat × List Nat)}
theorem Sees.keep {L2:LE} {a:Act} {w:World} (h:Sees F L H a w)(hk: ∀t,lk L2 t=lk L t∨lk L2 t= .undef):Sees F L2 H a w:=by
 obtain⟨hd,K,D,hi⟩:=h
 refine⟨hd,K,D,⟨⟨hi.slots.size,fun i hin=> ?_,hi.slots.glob⟩,hi.hinv,hi.grow⟩⟩
 have h1:=hi.slots.rep i hin
 show Rep w K D _ (lk L2 i)
 rcases hk i with e|e
 ·rw[e];exact h1
 ·rw[e];exact .undef _
theorem i0G(ts:List Nat)(L:LE)(t:Nat):lk (h0O ts L) t=lk L t∨lk (h0O ts L) t= .undef:=by
 induction ts with
 |nil=>exact .inr rfl
 |cons s ts ih=>
  simp only[h0O,ah,lk]at ih⊢
  cases hb:Nat.beq t s with
  |true=>have:=af hb;subst this;exact .inl rfl
  |false=>exact ih
theorem J.keep {c:Code} (ts:List Nat) {L2:LE} (h2:h0O ts L=L2)(h:J F P c L2 H Q):J F P c L H Q:=
 fun hin a w hs=>h hin a w (hs.keep (by rw[←h2];exact i0G ts L))
theorem PJ.keep {e:Exit} (ts:List Nat) {L2:LE} (h2:h0O ts L=L2)(h:PJ F Q e L2 H):PJ F Q e L H:=
 fun a w hs=>h a w (hs.keep (by rw[←h2];exact i0G ts L))
theorem RJ.keep(ts:List Nat) {L2:LE} (h2:h0O ts L=L2)(h:RJ F P none ops p tr L2 H Q):RJ F P none ops p tr L H Q:=
 fun hin a w hs=>h hin a w (hs.keep (by rw[←h2];exact i0G ts L))
theorem J.skip(h:PJ F Q .normal L H):J F P .skip L H Q:=fun _ a w hs=>wp_skip (h a w hs)
theorem J.ret(h:PJ F Q .ret L H):J F P .ret L H Q:=fun _ a w hs=>wp_ret (h a w hs)
theorem J.exit {id:Nat} (h:PJ F Q (.exit id) L H):J F P (.exit id) L H Q:=fun _ a w hs=>wp_exit (h a w hs)
theorem J.seq {c1 c2:Code} (h:J F P c1 L H (l0b F P c2 Q)):J F P (.seq c1 c2) L H Q:=fun hin a w hs=>by
 simp only[d0e,ac]at hin
 refine wp_seq (Code.wp_mono (fun e a' w' hq=> ?_) (h hin.1 a w hs))
 cases e<;>first|exact hq hin.2|exact hq
theorem PJ.next {c:Code} (h:J F P c L H Q):PJ F (l0b F P c Q) .normal L H:=fun a w hs hin=>h hin a w hs
theorem PJ.passRet {c:Code} (h:PJ F Q .ret L H):PJ F (l0b F P c Q) .ret L H:=h
theorem PJ.passExit {c:Code} {id:Nat} (h:PJ F Q (.exit id) L H):PJ F (l0b F P c Q) (.exit id) L H:=h
theorem J.block {id:Nat} {c:Code} (h:J F P c L H (Exit.inBlock id Q)):J F P (.block id c) L H Q:=fun hin a w hs=>wp_block (h hin a w hs)
theorem PJ.blockNormal {id:Nat} (h:PJ F Q .normal L H):PJ F (Exit.inBlock id Q) .normal L H:=h
theorem PJ.blockRet {id:Nat} (h:PJ F Q .ret L H):PJ F (Exit.inBlock id Q) .ret L H:=h
theorem PJ.blockOut {id:Nat} (h:PJ F Q .normal L H):PJ F (Exit.inBlock id Q) (.exit id) L H:=fun a w hs=>by
 show(if id=id then _ else _)
 rw[if_pos rfl];exact h a w hs
theorem PJ.blockPass {id id':Nat} (hne:Nat.beq id' id=false)(h:PJ F Q (.exit id') L H):PJ F (Exit.inBlock id Q) (.exit id') L H:=fun a w hs=>by
 show(if id'=id then _ else _)
 rw[if_neg (fun e=>by subst e;simp at hne)];exact h a w hs
theorem J.cond {c:Operand} {x y:Code} {b:Bool} (hv:a0Y (b0s L) c=some (.bool b))(h:J F P (bif b then x else y) L H Q):J F P (.cond c x y) L H Q:=fun hin a w hs=>by
 simp only[d0e,ac]at hin
 obtain⟨hd,K,D,hi⟩:=hs
 have hr:=a0j hi.slots hin.1.1 hv
 generalize hva:a.eval c=v at hr
 cases hr
 refine wp_cond hva ?_
 cases b
 ·exact h hin.2 a w ⟨hd,K,D,hi⟩
 ·exact h hin.1.2 a w ⟨hd,K,D,hi⟩
theorem J.region {id:Nat} (h:RJ F P none ops 0 [] L H Q):J F P (.region id ops false) L H Q:=fun hin a w hs=>by
 simp only[d0e]at hin
 exact wp_region_list (h hin a w hs)
theorem J.draw {id:Nat} (hm:P.follows .mixedOrders=true)(hB:Region.lexB .any ops=true)(h:RJ F P (some H.length) ops 0 [] L (H++List.replicate (k0w ops) .res) Q):J F P (.region id ops true) L H Q:=fun hin a w hs=>by
 simp only[d0e,List.all_eq_true]at hin
 exact s0I (KS:=fun ρ H=> ∀a w,St F ρ H a w→Q .normal a w) hm hB (fun ρ H a w hst hq=>hq a w hst) hin hs (by simpa using h rfl)
theorem RJ.done(hp:ops.size≤p)(h:PJ F Q .normal L H):RJ F P m ops p tr L H Q:=by
 have hd:ops.toList.drop p=[]:=aY (by simpa using hp)
 cases m with
 |none=>intro _ a w hs;rw[hd];exact h a w hs
 |some base=>intro _;rw[hd];exact fun a w hs=>h a w hs
theorem d0N {o:Oper} (ho:ops.toList[p]?=some o):ops.toList.drop p=o::ops.toList.drop (p+1):=by
 obtain⟨h1,h2⟩:=ab.1 ho
 rw[bl h1,h2]
theorem l0O {o:Oper} (ho:ops.toList[p]?=some o):o∈ops.toList:=aF ho
theorem RJ.step {o:Oper} {ef:Eff} (ho:ops.toList[p]?=some o)(hg:c0P ops (b0s L) o=some true)(hc:c0B o=false)(he:a0Z P o (b0s L) H (y0y m ops p H)=some ef)(hok:okM m ops p o ef tr H=true)
  (h:RJ F P m ops (p+1) (trM m ops p o ef tr) (g0e L o.dst ef.v) (b0M H ef.wr) Q):RJ F P m ops p tr L H Q:=by
 cases m with
 |none=>
  intro hin a w hs
  have hbo:Oper.inB F.n ops o=true:=List.all_eq_true.1 hin o (l0O ho)
  obtain⟨hd,K,D,hi⟩:=hs
  rw[d0N ho]
  refine wpList_step fun KK hKK=> ?_
  rw[c0h hi.slots (Oper.inB_guard hbo) hg,if_pos rfl]
  exact v0C hi hd (Oper.inB_op hbo) (.inl rfl) he fun a' w' hst'=>hKK _ _ (h hin a' w' (by rw[c0K]at hst';exact hst'))
 |some base=>
  intro hl
  rw[d0N ho]
  simp only[okM,ac,ba,List.all_eq_true]at hok
  obtain⟨⟨k1,k2⟩,k3⟩:=hok
  have k3': ∀x∈ef.wr,x.1<H.length:=fun x hx=>bY (aq (by simpa [Nat.blt]using k3 x hx))
  subst hl
  refine⟨ef, ?_,k1, ?_⟩
  ·unfold opD
   rw[hg]
   simp only
   rw[hc,if_neg (by simp)]
   refine⟨.inl he,fun hcr=> ?_,k3'⟩
   rcases k2 with k2|k2
   ·rw[hcr]at k2;cases k2
   ·unfold s0t at k2
    split at k2
    ·assumption
    ·cases k2
  ·have:=h (by simp[trM])
   rw[←m0e _ _ k3',c0K]
   exact this
theorem RJ.skip {o:Oper} (ho:ops.toList[p]?=some o)(hg:c0P ops (b0s L) o=some false)(hok:okM m ops p o ⟨.tup [],[],[]⟩ tr [.res]=true∨True)
  (hk: ∀base,m=some base→i0Z o (k0H o ⟨.tup [],[],[]⟩) (i0H ops base p o ⟨.tup [],[],[]⟩) tr 0=true)
  (h:RJ F P m ops (p+1) (trM m ops p o ⟨.tup [],[],[]⟩ tr) (g0e L o.dst (.tup [])) H Q):RJ F P m ops p tr L H Q:=by
 cases m with
 |none=>
  intro hin a w hs
  have hbo:Oper.inB F.n ops o=true:=List.all_eq_true.1 hin o (l0O ho)
  obtain⟨hd,K,D,hi⟩:=hs
  rw[d0N ho]
  refine wpList_step fun KK hKK=> ?_
  rw[c0h hi.slots (Oper.inB_guard hbo) hg,if_neg (by simp)]
  exact hKK _ _ (h hin _ w ⟨by rw[b0D];exact hd,K,D,by have:=t0n hi o.dst;rw[c0K]at this;exact this⟩)
 |some base=>
  intro hl
  rw[d0N ho]
  subst hl
  refine⟨⟨.tup [],[],[]⟩, ?_,hk base rfl, ?_⟩
  ·unfold opD;rw[hg]
  ·have:=h (by simp[trM])
   rw[c0K]
   exact this
theorem RJ.call {o:Oper} {f:FuncId} {args:List SV} {v:SV} {H':a0o} (ho:ops.toList[p]?=some o)(hg:c0P ops (b0s L) o=some true)(hc:g0s (b0s L) o=some (f,args))(hs:SC P f args H v H')
  (h:RJ F P none ops (p+1) tr (g0e L o.dst v) H' Q):RJ F P none ops p tr L H Q:=by
 intro hin a w hst
 have hbo:Oper.inB F.n ops o=true:=List.all_eq_true.1 hin o (l0O ho)
 obtain⟨hd,K,D,hi⟩:=hst
 rw[d0N ho]
 refine wpList_step fun KK hKK=> ?_
 rw[c0h hi.slots (Oper.inB_guard hbo) hg,if_pos rfl]
 exact o0w hi hd (Oper.inB_op hbo) hc hs fun a' w' hst'=>hKK _ _ (h hin a' w' (by rw[c0K]at hst';exact hst'))
theorem l0T {o:Oper} {ρ:Env} {r:FuncId×List SV} (h:g0s ρ o=some r):c0B o=true:=by
 unfold g0s at h
 split at h
 ·rename_i c ho
  unfold n0u at h
  split at h
  ·rename_i f hf
   simp[c0B,ho,hf]
  ·cases h
 ·cases h
theorem RJ.callD {o:Oper} {f:FuncId} {args args0:List SV} {g:Nat→Nat} {H0:a0o} {v0:SV} (ho:ops.toList[p]?=some o)(hg:c0P ops (b0s L) o=some true)(hc:g0s (b0s L) o=some (f,args))(ha:args=SV.rnL g args0)
  (hsel:Sel H g H0) (hlive: ∀en∈H0,g0K en=true) (hr:SV.refsL H0.length args0=true) (hv:SV.refs H0.length v0=true) (hs:SC P f args0 H0 v0 H0)
  (hk: ∀base,m=some base→i0Z o (k0H o ⟨SV.rn g v0,(List.range H0.length).map g,[]⟩) (i0H ops base p o ⟨SV.rn g v0,(List.range H0.length).map g,[]⟩) tr 0=true)
  (h:RJ F P m ops (p+1) (trM m ops p o ⟨SV.rn g v0,(List.range H0.length).map g,[]⟩ tr) (g0e L o.dst (SV.rn g v0)) H Q):RJ F P m ops p tr L H Q:=by
 cases m with
 |none=>
  have hfr:=SC.frame hs hsel hlive hr (ak _)
  rw[p0g hsel,←g0y (f:=g) (m:=H0.length) (fun i hi=>by simp[gOf,hi]) v0 hv,←ha]at hfr
  exact RJ.call ho hg hc hfr h
 |some base=>
  intro hl
  rw[d0N ho]
  subst hl
  refine⟨⟨SV.rn g v0,(List.range H0.length).map g,[]⟩, ?_,hk base rfl, ?_⟩
  ·unfold opD
   rw[hg]
   simp only
   rw[l0T hc,if_pos rfl]
   exact .inl ⟨f,args,g,args0,H0,v0,hc,ha,hsel,hlive,hr,hv,hs,rfl⟩
  ·have:=h (by simp[trM])
   rw[c0K]
   exact this
end
end Go.Sy
