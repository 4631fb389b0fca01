/-
 The second shadow machine, part 21: loops over natives; what parameters are; small facts.
-/
import Derived.Test.YtcapcgbamehojaaGreatDoorSyT
import Derived.Test.YtcapcgbamehojaaGreatDoorSyS
namespace Go.Sy
open Go Go.RowKit
set_option linter.unusedVariables false
set_option linter.unusedSimpArgs false
set_option linter.unusedSectionVars false
variable [Inhabited GT]
/-! Loops. -/
section
variable {S O : Type} {step : S → Option (S ⊕ O)}
theorem e0a {n:Nat} {s s':S} (h:step s=some (.inl s')):a0l step (n+1) s=a0l step n s':=by
 simp only[a0l,h]
theorem e0T {n:Nat} {s:S} {o:O} (h:step s=some (.inr o)):a0l step (n+1) s=some o:=by
 simp only[a0l,h]
theorem t0V(I:S→Prop)(g:S→Nat)(post:O→Prop)(hs: ∀s,I s→(∃s',step s=some (.inl s')∧I s'∧g s'<g s)∨(∃o,step s=some (.inr o)∧post o)):
  ∀(n:Nat) (s:S),I s→g s<n→ ∃o,a0l step n s=some o∧post o:=by
 intro n
 induction n with
 |zero=>intro s _ h;omega
 |succ n ih=>
  intro s hi hg
  rcases hs s hi with⟨s',h1,h2,h3⟩|⟨o,h1,h2⟩
  ·rw[e0a h1]
   exact ih s' h2 (by omega)
  ·exact⟨o,e0T h1,h2⟩
end
theorem y0H {n:Nat} (h:n<18446744073709551616):n<big:=h
theorem w64 {n:Int} (h1: -9223372036854775808≤n)(h2:n≤9223372036854775807):IntKind.i64.wrap n=n:=by
 unfold IntKind.wrap
 simp only[IntKind.signed,IntKind.bits,bI,bR,aE,if_false,decide_eq_true_eq]
 first|omega|(split<;>rename_i hc<;>simp at hc<;>omega)
theorem w32 {n:Int} (h1: -2147483648≤n)(h2:n≤2147483647):IntKind.i32.wrap n=n:=by
 unfold IntKind.wrap
 simp only[IntKind.signed,IntKind.bits,bI,bR,aE,if_false,decide_eq_true_eq]
 first|omega|(split<;>rename_i hc<;>simp at hc<;>omega)
theorem w8 {n:Int} (h1:0≤n)(h2:n≤255):IntKind.u8.wrap n=n:=by
 unfold IntKind.wrap
 simp only[IntKind.signed,IntKind.bits,bI,bR,aE,if_false,decide_eq_true_eq]
 first|omega|(split<;>rename_i hc<;>simp at hc<;>omega)
theorem e0v {i n:Nat} (h:i<n):inR (i:Int) n=true:=e0w.2 ⟨by omega,by omega⟩
theorem a0r {i:Int} {n:Nat} (h1:0≤i)(h:i<n):inR i n=true:=e0w.2 ⟨h1,h⟩
theorem g0o {T:Type} [Inhabited T] {xs:List T} {i:Nat} (h:i<xs.length):nth xs (i:Int)=xs[i]:=by
 unfold nth
 rw[aR,aw,ac h];rfl
theorem v0G {n:Nat} (h:n≤140737488400000):i0k n=true:=by simp[i0k,cF,h]
theorem a0v {n:Nat} (h:n≤4294967296):room n=true:=by simp[room,cF,h]
theorem i0a {l h:Int} {n:Nat} (h1:0≤l)(h2:l≤h)(h3:h≤n):inS l h n=true:=i0R.2 ⟨h1,h2,h3⟩
theorem dT {p:Prop} [Decidable p](h:p):decide p=true:=decide_eq_true h
theorem dF {p:Prop} [Decidable p](h: ¬p):decide p=false:=decide_eq_false h
/-! Parameters. -/
section
open Go.ChangeShapes Go.WideShapes Go.ChangeAt
variable {P : Program} {H : Type}
def l0L(P:Program) {H:Type} (t:TypeId)(d:DataW H):Prop:= ∀n∈d.weights P t,n≤reachBytes
theorem q0f {ts:List TypeId} {ds:List (DataW H)} (h:(DataW.weightsEach P ts ds).all (· ≤reachBytes)=true) {j:Nat} {t:TypeId} {d:DataW H} (ht:ts[j]?=some t)(hd:ds[j]?=some d):l0L P t d:=
 fun n hn=>by
  have:=List.all_eq_true.1 h _ (DataW.weights_mem_each ht hd n hn)
  simpa using this
theorem g0L {e:TypeId} {n:Nat} : ∀(l:List (DataW H)) (y:DataW H),y∈l→n∈y.weights P e→n∈DataW.weightsAll P e l
 | [],y,h,_=>by cases h
 |x::l,y,h,hn=>by
  simp only[DataW.weightsAll,ay]
  rcases aN.1 h with rfl|h
  ·exact .inl hn
  ·exact .inr (g0L l y h hn)
theorem v0x {t e:TypeId} {elems rest:List (DataW H)} (hu:P.underlying t=some (.slice e))(h:l0L P t (.slice elems rest)) {y:DataW H} (hy:y∈elems):l0L P e y:=fun n hn=>by
 refine h n ?_
 simp only[DataW.weights,hu,aN,ay]
 exact .inr (.inl (g0L elems y hy hn))
theorem t0g {t e:TypeId} {elems rest:List (DataW H)} (hu:P.underlying t=some (.slice e))(hb:0<P.bytesOf e)(h:l0L P t (.slice elems rest)):elems.length≤140737488355328:=by
 have h1:=h ((elems.length+rest.length)*P.bytesOf e) (by simp[DataW.weights,hu])
 have h2:=reachBytes_lt
 have h3:elems.length≤(elems.length+rest.length)*P.bytesOf e:=aH (Nat.le_add_right _ _) (Nat.le_mul_of_pos_right _ hb)
 omega
theorem r0S {t:TypeId} {fs:Array Field} {parts:List (DataW H)} (hu:P.underlying t=some (.struct fs))(h:l0L P t (.agg parts)) {i:Nat} {f:Field} {p:DataW H} (hf:fs[i]?=some f)(hp:parts[i]?=some p):l0L P f.type p:=fun n hn=>by
 refine h n ?_
 simp only[DataW.weights,hu]
 exact DataW.weights_mem_each (j:=i) (by simp[hf]) hp n hn
def n0d(P:Program)(n:Nat)(t:TypeId) {T:Type} (enc:T→List SV)(Wf:T→Prop):Prop:= ∀ {H:Type} (d:DataW H) (cs:List SV),d0k P n t d cs→l0L P t d→ ∃x:T,cs=enc x∧Wf x
def WfL {T:Type} (Wf:T→Prop)(zs:List T):Prop:=zs.length≤140737488355328∧ ∀z∈zs,Wf z
def WfI(k:IntKind)(z:Int):Prop:=(Lit.int k z).wf=true
def WfT(s:List UInt8):Prop:=s.length≤140737488355328
theorem d0I {n:Nat} {t:TypeId} {k:IntKind} (hu:P.underlying t=some (.int k)):n0d P (n+1) t (a0q k) (WfI k):=fun d cs h _=>by
 unfold d0k at h
 rw[hu]at h
 obtain⟨z,_,h2,hw⟩:=h
 exact⟨z,h2,hw⟩
theorem e0L {n:Nat} {t:TypeId} (hu:P.underlying t=some .string):n0d P (n+1) t n0w WfT:=fun d cs h hs=>by
 unfold d0k at h
 rw[hu]at h
 obtain⟨z,h1,h2⟩:=h
 subst h1
 refine⟨z,h2, ?_⟩
 have h3:=hs z.length (by simp[DataW.weights])
 have h4:=reachBytes_lt
 unfold WfT
 omega
theorem k0U {T:Type} {enc:T→List SV} {Wf:T→Prop} {n:Nat} {t e:TypeId} (hu:P.underlying t=some (.slice e)) {k:Nat} (hc:P.cellsOf e=k)(hb:Nat.blt 0 (P.bytesOf e)=true)(hel:n0d P n e enc Wf):
  n0d P (n+1) t (c0q enc k) (WfL Wf):=fun {H} d cs h hs=>by
 unfold d0k at h
 rw[hu]at h
 simp only at h
 rcases h with⟨rfl,h2⟩|⟨elems,rest,xs,rfl,h2,hl,hx,hall⟩
 ·exact⟨[],by rw[h2,hc];rfl,by simp,fun z hz=>(by cases hz)⟩
 ·rw[hc]at h2
  have hlen:=t0g hu (by simpa [Nat.blt_eq]using hb) hs
  have key: ∀(xs:List (List SV)) (elems:List (DataW H)),(∀y∈elems,l0L P e y)→xs.length=elems.length→(∀(i:Nat) y x,elems[i]?=some y→xs[i]?=some x→d0k P n e y x)→ ∃zs:List T,xs.flatten=zs.flatMap enc∧(∀z∈zs,Wf z)∧elems.length=zs.length:=by
   intro xs
   induction xs with
   |nil=>intro elems _ hl _;exact⟨[],rfl,fun z hz=>(by cases hz),by simpa using hl.symm⟩
   |cons x xs ih=>
    intro elems hsz hl h
    cases elems with
    |nil=>simp at hl
    |cons y elems=>
     obtain⟨zs,e1,e2,e3⟩:=ih elems (fun y hy=>hsz y (aj _ hy)) (by simpa using hl) (fun i y x hy hx=>h (i+1) y x (by simpa using hy) (by simpa using hx))
     obtain⟨z,rfl,hw⟩:=hel y x (h 0 y x rfl rfl) (hsz y (ap ..))
     refine⟨z::zs,by simp[e1],fun z' hz'=> ?_,by simp[e3]⟩
     rcases aN.1 hz' with rfl|hm
     ·exact hw
     ·exact e2 _ hm
  obtain⟨zs,e1,e2,e3⟩:=key xs elems (fun y hy=>v0x hu hs hy) hl hall
  exact⟨zs,by rw[h2,e1];unfold c0q;rw[hl,e3],by omega,e2⟩
theorem n0L {n:Nat} {t:TypeId} {fs:Array Field} {d:DataW H} {s:SV} (hu:P.underlying t=some (.struct fs))(h:h0B P n t d s): ∃cs,s= .agg cs∧d0k P n t d cs:=by
 unfold h0B at h
 rw[hu]at h
 exact h
theorem a0S {n:Nat} {t:TypeId} {fs:Array Field} {d:DataW H} {cs:List SV} (hu:P.underlying t=some (.struct fs))(h:d0k P (n+1) t d cs)(hs:l0L P t d)(i:Nat)(ty:TypeId)(cs':List SV)
  (hf:(fs[i]?).map (fun f=>(f.type,(cs.drop f.offset).take (P.cellsOf f.type)))=some (ty,cs')): ∃p:DataW H,d0k P n ty p cs'∧l0L P ty p:=by
 unfold d0k at h
 rw[hu]at h
 obtain⟨_,parts,rfl,hl,hall⟩:=h
 cases hfi:fs[i]? with
 |none=>rw[hfi]at hf;cases hf
 |some f=>
  rw[hfi]at hf
  simp only[aO,ai,aF]at hf
  obtain⟨rfl,rfl⟩:=hf
  have hi:=(aq.1 hfi).1
  have hi':i<parts.length:=by omega
  exact⟨parts[i],hall i f _ hfi (ac hi'),r0S hu hs hfi (ac hi')⟩
theorem i0x {n:Nat} {t:TypeId} {fs:Array Field} {d:DataW H} {cs:List SV} (hu:P.underlying t=some (.struct fs))(h:d0k P (n+1) t d cs):cs.length=P.cellsOf t:=by
 unfold d0k at h
 rw[hu]at h
 exact h.1
theorem j0k {n m:Nat} {t e:TypeId} {d:DataW H} {cs:List SV} (hu:P.underlying t=some (.array m e))(h:d0k P (n+1) t d cs)(hs:l0L P t d)(i:Nat)(cs':List SV)(hi:Nat.blt i m=true)
  (hf:(cs.drop (i*P.cellsOf e)).take (P.cellsOf e)=cs'): ∃p:DataW H,d0k P n e p cs'∧l0L P e p:=by
 unfold d0k at h
 rw[hu]at h
 obtain⟨_,parts,rfl,hl,hall⟩:=h
 have hi':i<parts.length:=by rw[hl];simpa [Nat.blt_eq]using hi
 refine⟨parts[i],by rw[←hf];exact hall i _ (ac hi'),fun n hn=>hs n ?_⟩
 simp only[DataW.weights,hu]
 exact g0L parts _ (bW hi') hn
theorem r0T {n m:Nat} {t e:TypeId} {d:DataW H} {cs:List SV} (hu:P.underlying t=some (.array m e))(h:d0k P (n+1) t d cs):cs.length=P.cellsOf t:=by
 unfold d0k at h
 rw[hu]at h
 exact h.1
end
theorem l1 {α:Type} {l:List α} (h:l.length=1): ∃a,l=[a]:=by
 match l,h with
 | [a],_=>exact⟨a,rfl⟩
theorem l2 {α:Type} {l:List α} (h:l.length=2): ∃a b,l=[a,b]:=by
 match l,h with
 | [a,b],_=>exact⟨a,b,rfl⟩
theorem l3 {α:Type} {l:List α} (h:l.length=3): ∃a b c,l=[a,b,c]:=by
 match l,h with
 | [a,b,c],_=>exact⟨a,b,c,rfl⟩
theorem l4 {α:Type} {l:List α} (h:l.length=4): ∃a b c d,l=[a,b,c,d]:=by
 match l,h with
 | [a,b,c,d],_=>exact⟨a,b,c,d,rfl⟩
theorem l5 {α:Type} {l:List α} (h:l.length=5): ∃a b c d e,l=[a,b,c,d,e]:=by
 match l,h with
 | [a,b,c,d,e],_=>exact⟨a,b,c,d,e,rfl⟩
end Go.Sy
