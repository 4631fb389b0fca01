/-
 Loops over natives that go through a row, and what common loops come to.
-/
import Derived.Test.YtcapcgbamehojaaGreatDoorSyU
import Derived.Test.YtcapcgbamehojaaGreatDoorSyV
namespace Go.Sy
open Go Go.RowKit
set_option linter.unusedVariables false
set_option linter.unusedSimpArgs false
set_option linter.unusedSectionVars false
variable [Inhabited GT]
section
variable {T S O : Type} {step : S → Option (S ⊕ O)}
theorem g0B(xs:List T)(st:List T→S)(I:List T→Prop)(post:O→Prop) {s0:S} (h0:s0=st [])(hI:I [])
  (hs: ∀pre x suf,xs=pre++x::suf→I pre→(step (st pre)=some (.inl (st (pre++ [x])))∧I (pre++ [x]))∨ ∃o,step (st pre)=some (.inr o)∧post o)
  (he:I xs→ ∃o,step (st xs)=some (.inr o)∧post o) (hl:xs.length<18446744073709551616):
  ∃o,a0s step big s0=some o∧post o:=by
 have key: ∀(suf pre:List T) (n:Nat),xs=pre++suf→I pre→suf.length<n→ ∃o,a0s step n (st pre)=some o∧post o:=by
  intro suf
  induction suf with
  |nil=>
   intro pre n hx hi hn
   obtain⟨m,rfl⟩: ∃m,n=m+1:=⟨n-1,by simp at hn;omega⟩
   rw[bE]at hx;subst hx
   obtain⟨o,h1,h2⟩:=he hi
   exact⟨o,b0F h1,h2⟩
  |cons x suf ih=>
   intro pre n hx hi hn
   obtain⟨m,rfl⟩: ∃m,n=m+1:=⟨n-1,by simp at hn;omega⟩
   rcases hs pre x suf hx hi with⟨h1,h2⟩|⟨o,h1,h2⟩
   ·rw[b0v h1]
    exact ih (pre++ [x]) m (by rw[hx];simp) h2 (by simp at hn;omega)
   ·exact⟨o,b0F h1,h2⟩
 subst h0
 exact key xs [] big rfl hI hl
theorem i0E(p:T→Bool)(xs:List T)(st:List T→S)(ok bad:O) {s0:S} (h0:s0=st [])
  (hs: ∀pre x suf,xs=pre++x::suf→step (st pre)=some (if p x=true then .inl (st (pre++ [x]))else .inr bad)) (he:step (st xs)=some (.inr ok)) (hl:xs.length<18446744073709551616):
  a0s step big s0=some (if xs.all p=true then ok else bad):=by
 obtain⟨o,h1,h2⟩:=g0B (step:=step) xs st (fun pre=>pre.all p=true) (fun o=>o=if xs.all p=true then ok else bad) h0 rfl (fun pre x suf h hi=>by
  rw[hs pre x suf h]
  cases hp:p x with
  |true=>exact .inl ⟨by simp,by simp[aN,hi,hp]⟩
  |false=>exact .inr ⟨bad,by simp,by subst h;simp[hp]⟩) (fun hi=>⟨ok,he,by simp[hi]⟩) hl
 rw[h1,h2]
theorem d0t(n:Nat)(st:Nat→S)(I:Nat→Prop)(post:O→Prop) {s0:S} (h0:s0=st 0)(hI:I 0)
  (hs: ∀i,i<n→I i→(step (st i)=some (.inl (st (i+1)))∧I (i+1))∨ ∃o,step (st i)=some (.inr o)∧post o)
  (he:I n→ ∃o,step (st n)=some (.inr o)∧post o) (hl:n<18446744073709551616):
  ∃o,a0s step big s0=some o∧post o:=by
 have key: ∀(k i m:Nat),i+k=n→I i→k<m→ ∃o,a0s step m (st i)=some o∧post o:=by
  intro k
  induction k with
  |zero=>
   intro i m hx hi hn
   obtain⟨m,rfl⟩: ∃q,m=q+1:=⟨m-1,by omega⟩
   obtain rfl:i=n:=by omega
   obtain⟨o,h1,h2⟩:=he hi
   exact⟨o,b0F h1,h2⟩
  |succ k ih=>
   intro i m hx hi hn
   obtain⟨m,rfl⟩: ∃q,m=q+1:=⟨m-1,by omega⟩
   rcases hs i (by omega) hi with⟨h1,h2⟩|⟨o,h1,h2⟩
   ·rw[b0v h1]
    exact ih (i+1) m (by omega) h2 (by omega)
   ·exact⟨o,b0F h1,h2⟩
 subst h0
 exact key n 0 big (by omega) hI hl
end
section
variable {T : Type} [Inhabited T]
theorem e0S {pre suf:List T} {x:T} :nth (pre++x::suf) (pre.length:Int)=x:=by
 rw[d0M (by simp)];simp
theorem f0P {T:Type} {pre suf:List T} {x:T} :inR (pre.length:Int) (pre++x::suf).length=true:=g0Y (by simp)
theorem h0p {T:Type} {pre suf:List T} {x:T} :decide ((pre.length:Int)<((pre++x::suf).length:Int))=true:=dT (by simp;omega)
theorem g0m {T:Type} {xs:List T} :decide ((xs.length:Int)<(xs.length:Int))=false:=dF (by omega)
theorem m0X {T:Type} {pre suf:List T} {x:T} (h:(pre++x::suf).length≤4611686018427387904):IntKind.wrap .i64 ((pre.length:Int)+1)=((pre++ [x]).length:Int):=by
 simp at h⊢
 exact w64 (by omega) (by omega)
end
theorem f0T {α β:Type} {x:Option α} {k:α→Option β} {r:Option β} (post:α→Prop)(h: ∃o,x=some o∧post o)(hk: ∀o,post o→k o=r):Option.bind x k=r:=by
 obtain⟨o,rfl,h2⟩:=h
 exact hk o h2
/-! Bytes as numbers. -/
end Go.Sy
