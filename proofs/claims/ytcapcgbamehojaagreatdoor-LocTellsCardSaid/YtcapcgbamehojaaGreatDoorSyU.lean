/-
 The second shadow machine, part 21: loops over natives; what parameters are; small facts.
-/
import Derived.Test.YtcapcgbamehojaaGreatDoorSyT
import Derived.Test.YtcapcgbamehojaaGreatDoorSyS
namespace Go.Sy
open Go Go.RowKit
set_option linter.unusedVariables false
set_option linter.unusedSimpArgs false
set_option linter.unusedSectionVars false
variable [Inhabited GT]
/-! Loops. -/
section
variable {S O : Type} {step : S → Option (S ⊕ O)}
theorem b0v {n:Nat} {s s':S} (h:step s=some (.inl s')):a0s step (n+1) s=a0s step n s':=by
 simp only[a0s,h]
theorem b0F {n:Nat} {s:S} {o:O} (h:step s=some (.inr o)):a0s step (n+1) s=some o:=by
 simp only[a0s,h]
theorem v0K(I:S→Prop)(g:S→Nat)(post:O→Prop)(hs: ∀s,I s→(∃s',step s=some (.inl s')∧I s'∧g s'<g s)∨(∃o,step s=some (.inr o)∧post o)):
  ∀(n:Nat) (s:S),I s→g s<n→ ∃o,a0s step n s=some o∧post o:=by
 intro n
 induction n with
 |zero=>intro s _ h;omega
 |succ n ih=>
  intro s hi hg
  rcases hs s hi with⟨s',h1,h2,h3⟩|⟨o,h1,h2⟩
  ·rw[b0v h1]
   exact ih s' h2 (by omega)
  ·exact⟨o,b0F h1,h2⟩
end
theorem z0V {n:Nat} (h:n<18446744073709551616):n<big:=h
theorem w64 {n:Int} (h1: -9223372036854775808≤n)(h2:n≤9223372036854775807):IntKind.i64.wrap n=n:=by
 unfold IntKind.wrap
 simp only[IntKind.signed,IntKind.bits,bI,Bool.false_and,aE,if_false,decide_eq_true_eq]
 first|omega|(split<;>rename_i hc<;>simp at hc<;>omega)
theorem w32 {n:Int} (h1: -2147483648≤n)(h2:n≤2147483647):IntKind.i32.wrap n=n:=by
 unfold IntKind.wrap
 simp only[IntKind.signed,IntKind.bits,bI,Bool.false_and,aE,if_false,decide_eq_true_eq]
 first|omega|(split<;>rename_i hc<;>simp at hc<;>omega)
theorem g0Y {i n:Nat} (h:i<n):inR (i:Int) n=true:=f0Q.2 ⟨by omega,by omega⟩
theorem a0J {i:Int} {n:Nat} (h1:0≤i)(h:i<n):inR i n=true:=f0Q.2 ⟨h1,h⟩
theorem d0M {T:Type} [Inhabited T] {xs:List T} {i:Nat} (h:i<xs.length):nth xs (i:Int)=xs[i]:=by
 unfold nth
 rw[Int.toNat_natCast,av,ae h];rfl
theorem a0h {n:Nat} (h:n≤4294967296):room n=true:=by simp[room,Nat.ble_eq,h]
theorem m0O {l h:Int} {n:Nat} (h1:0≤l)(h2:l≤h)(h3:h≤n):inS l h n=true:=p0X.2 ⟨h1,h2,h3⟩
theorem dT {p:Prop} [Decidable p](h:p):decide p=true:=decide_eq_true h
theorem dF {p:Prop} [Decidable p](h: ¬p):decide p=false:=decide_eq_false h
/-! Parameters. -/
section
open Go.ChangeShapes Go.WideShapes Go.ChangeAt
variable {P : Program} {H : Type}
def o0Q(P:Program) {H:Type} (t:TypeId)(d:DataW H):Prop:= ∀n∈d.weights P t,n≤reachBytes
theorem r0S {ts:List TypeId} {ds:List (DataW H)} (h:(DataW.weightsEach P ts ds).all (· ≤reachBytes)=true) {j:Nat} {t:TypeId} {d:DataW H} (ht:ts[j]?=some t)(hd:ds[j]?=some d):o0Q P t d:=
 fun n hn=>by
  have:=List.all_eq_true.1 h _ (DataW.weights_mem_each ht hd n hn)
  simpa using this
theorem k0R {e:TypeId} {n:Nat} : ∀(l:List (DataW H)) (y:DataW H),y∈l→n∈y.weights P e→n∈DataW.weightsAll P e l
 | [],y,h,_=>by cases h
 |x::l,y,h,hn=>by
  simp only[DataW.weightsAll,au]
  rcases aG.1 h with rfl|h
  ·exact .inl hn
  ·exact .inr (k0R l y h hn)
theorem x0o {t e:TypeId} {elems rest:List (DataW H)} (hu:P.underlying t=some (.slice e))(h:o0Q P t (.slice elems rest)) {y:DataW H} (hy:y∈elems):o0Q P e y:=fun n hn=>by
 refine h n ?_
 simp only[DataW.weights,hu,aG,au]
 exact .inr (.inl (k0R elems y hy hn))
theorem v0i {t e:TypeId} {elems rest:List (DataW H)} (hu:P.underlying t=some (.slice e))(hb:0<P.bytesOf e)(h:o0Q P t (.slice elems rest)):elems.length≤140737488355328:=by
 have h1:=h ((elems.length+rest.length)*P.bytesOf e) (by simp[DataW.weights,hu])
 have h2:=reachBytes_lt
 have h3:elems.length≤(elems.length+rest.length)*P.bytesOf e:=aV (Nat.le_add_right _ _) (Nat.le_mul_of_pos_right _ hb)
 omega
theorem u0a {t:TypeId} {fs:Array Field} {parts:List (DataW H)} (hu:P.underlying t=some (.struct fs))(h:o0Q P t (.agg parts)) {i:Nat} {f:Field} {p:DataW H} (hf:fs[i]?=some f)(hp:parts[i]?=some p):o0Q P f.type p:=fun n hn=>by
 refine h n ?_
 simp only[DataW.weights,hu]
 exact DataW.weights_mem_each (j:=i) (by simp[hf]) hp n hn
def s0U(P:Program)(n:Nat)(t:TypeId) {T:Type} (enc:T→List SV)(Wf:T→Prop):Prop:= ∀ {H:Type} (d:DataW H) (cs:List SV),e0s P n t d cs→o0Q P t d→ ∃x:T,cs=enc x∧Wf x
def WfL {T:Type} (Wf:T→Prop)(zs:List T):Prop:=zs.length≤140737488355328∧ ∀z∈zs,Wf z
def WfI(k:IntKind)(z:Int):Prop:=(Lit.int k z).wf=true
def WfT(s:List UInt8):Prop:=s.length≤140737488355328
theorem d0Z {n:Nat} {t:TypeId} {k:IntKind} (hu:P.underlying t=some (.int k)):s0U P (n+1) t (a0u k) (WfI k):=fun d cs h _=>by
 unfold e0s at h
 rw[hu]at h
 obtain⟨z,_,h2,hw⟩:=h
 exact⟨z,h2,hw⟩
theorem q0y {n:Nat} {t:TypeId} (hu:P.underlying t=some .string):s0U P (n+1) t A0i WfT:=fun d cs h hs=>by
 unfold e0s at h
 rw[hu]at h
 obtain⟨z,h1,h2⟩:=h
 subst h1
 refine⟨z,h2, ?_⟩
 have h3:=hs z.length (by simp[DataW.weights])
 have h4:=reachBytes_lt
 unfold WfT
 omega
theorem t0Y {T:Type} {enc:T→List SV} {Wf:T→Prop} {n:Nat} {t e:TypeId} (hu:P.underlying t=some (.slice e)) {k:Nat} (hc:P.cellsOf e=k)(hb:Nat.blt 0 (P.bytesOf e)=true)(hel:s0U P n e enc Wf):
  s0U P (n+1) t (k0P enc k) (WfL Wf):=fun {H} d cs h hs=>by
 unfold e0s at h
 rw[hu]at h
 simp only at h
 rcases h with⟨rfl,h2⟩|⟨elems,rest,xs,rfl,h2,hl,hx,hall⟩
 ·exact⟨[],by rw[h2,hc];rfl,by simp,fun z hz=>(by cases hz)⟩
 ·rw[hc]at h2
  have hlen:=v0i hu (by simpa [Nat.blt_eq]using hb) hs
  have key: ∀(xs:List (List SV)) (elems:List (DataW H)),(∀y∈elems,o0Q P e y)→xs.length=elems.length→(∀(i:Nat) y x,elems[i]?=some y→xs[i]?=some x→e0s P n e y x)→ ∃zs:List T,xs.flatten=zs.flatMap enc∧(∀z∈zs,Wf z)∧elems.length=zs.length:=by
   intro xs
   induction xs with
   |nil=>intro elems _ hl _;exact⟨[],rfl,fun z hz=>(by cases hz),by simpa using hl.symm⟩
   |cons x xs ih=>
    intro elems hsz hl h
    cases elems with
    |nil=>simp at hl
    |cons y elems=>
     obtain⟨zs,e1,e2,e3⟩:=ih elems (fun y hy=>hsz y (ao _ hy)) (by simpa using hl) (fun i y x hy hx=>h (i+1) y x (by simpa using hy) (by simpa using hx))
     obtain⟨z,rfl,hw⟩:=hel y x (h 0 y x rfl rfl) (hsz y (ar ..))
     refine⟨z::zs,by simp[e1],fun z' hz'=> ?_,by simp[e3]⟩
     rcases aG.1 hz' with rfl|hm
     ·exact hw
     ·exact e2 _ hm
  obtain⟨zs,e1,e2,e3⟩:=key xs elems (fun y hy=>x0o hu hs hy) hl hall
  exact⟨zs,by rw[h2,e1];unfold k0P;rw[hl,e3],by omega,e2⟩
theorem p0z {n:Nat} {t:TypeId} {fs:Array Field} {d:DataW H} {s:SV} (hu:P.underlying t=some (.struct fs))(h:i0p P n t d s): ∃cs,s= .agg cs∧e0s P n t d cs:=by
 unfold i0p at h
 rw[hu]at h
 exact h
theorem b0I {n:Nat} {t:TypeId} {fs:Array Field} {d:DataW H} {cs:List SV} (hu:P.underlying t=some (.struct fs))(h:e0s P (n+1) t d cs)(hs:o0Q P t d)(i:Nat)(ty:TypeId)(cs':List SV)
  (hf:(fs[i]?).map (fun f=>(f.type,(cs.drop f.offset).take (P.cellsOf f.type)))=some (ty,cs')): ∃p:DataW H,e0s P n ty p cs'∧o0Q P ty p:=by
 unfold e0s at h
 rw[hu]at h
 obtain⟨_,parts,rfl,hl,hall⟩:=h
 cases hfi:fs[i]? with
 |none=>rw[hfi]at hf;cases hf
 |some f=>
  rw[hfi]at hf
  simp only[aI,ai,aP]at hf
  obtain⟨rfl,rfl⟩:=hf
  have hi:=(aj.1 hfi).1
  have hi':i<parts.length:=by omega
  exact⟨parts[i],hall i f _ hfi (ae hi'),u0a hu hs hfi (ae hi')⟩
theorem n0J {n:Nat} {t:TypeId} {fs:Array Field} {d:DataW H} {cs:List SV} (hu:P.underlying t=some (.struct fs))(h:e0s P (n+1) t d cs):cs.length=P.cellsOf t:=by
 unfold e0s at h
 rw[hu]at h
 exact h.1
end
theorem l1 {α:Type} {l:List α} (h:l.length=1): ∃a,l=[a]:=by
 match l,h with
 | [a],_=>exact⟨a,rfl⟩
theorem l2 {α:Type} {l:List α} (h:l.length=2): ∃a b,l=[a,b]:=by
 match l,h with
 | [a,b],_=>exact⟨a,b,rfl⟩
theorem l3 {α:Type} {l:List α} (h:l.length=3): ∃a b c,l=[a,b,c]:=by
 match l,h with
 | [a,b,c],_=>exact⟨a,b,c,rfl⟩
theorem l4 {α:Type} {l:List α} (h:l.length=4): ∃a b c d,l=[a,b,c,d]:=by
 match l,h with
 | [a,b,c,d],_=>exact⟨a,b,c,d,rfl⟩
end Go.Sy
