/-
 The second shadow machine, part 19: lists that are told by native ones.
-/
import Derived.Test.YtcapcgbamehojaaGreatDoorSyP
namespace Go.Sy
open Go Go.RowKit
set_option linter.unusedSimpArgs false
set_option linter.unusedVariables false
set_option linter.unusedSectionVars false
variable [Inhabited GT]
def a0q(k:IntKind):Int→List SV:=fun x=> [.int k x]
def n0w:List UInt8→List SV:=fun x=> [.str x]
def lsv {T:Type} (enc:T→List SV)(k:Nat)(xs:List T):SV:= .lst xs.length k (xs.flatMap enc)
def c0q {T:Type} (enc:T→List SV)(k:Nat):List T→List SV:=fun xs=> [.lst xs.length k (xs.flatMap enc)]
def a0A {T:Type} (enc:T→List SV)(k e:Nat)(xs:List T):Ent:= .vec xs.length k e (xs.flatMap enc)
def nth {T:Type} [Inhabited T](xs:List T)(j:Int):T:=xs.getD j.toNat default
def cut {T:Type} (xs:List T)(l h:Int):List T:=(xs.take h.toNat).drop l.toNat
def rep {T:Type} (l:Int)(z:T):List T:=List.replicate l.toNat z
def b0u {T:Type} (xs:List T)(j:Int)(y:T):List T:=xs.set j.toNat y
def s0E {T:Type} (xs ys:List T):List T:=ys.take xs.length++xs.drop ys.length
def a0k(s:List UInt8):List Int:=s.map fun b=>(b.toNat:Int)
def b0s(xs:List Int):List UInt8:=xs.map fun x=>UInt8.ofNat x.toNat
def v0Y(a b:Int):Int:=if a<b then b else a
def A0u(a b:Int):Int:=if b<a then b else a
theorem z0s {T:Type} [Inhabited T] {xs:List T} {j:Int} (h:inR j xs.length=true):xs[j.toNat]?=some (nth xs j):=by
 have:=e0w.1 h
 have hl:j.toNat<xs.length:=by omega
 unfold nth
 rw[aw,ac hl];rfl
section
variable {T : Type} {enc : T → List SV} {k : Nat}
theorem k0J(hk: ∀x,(enc x).length=k): ∀xs:List T,(xs.flatMap enc).length=xs.length*k
 | []=>by simp
 |x::xs=>by rw[aL,ao,hk,k0J hk xs,ak,bp];omega
theorem h0u(hk: ∀x,(enc x).length=k): ∀(xs:List T) (n:Nat),(xs.flatMap enc).drop (n*k)=(xs.drop n).flatMap enc
 | [],n=>by simp
 |x::xs,0=>by simp
 |x::xs,n+1=>by
  rw[aL,cK,hk,bp,bh (by rw[hk];omega),bc]
  rw[show n*k+k-k=n*k from by omega,h0u hk xs n,List.drop_succ_cons]
theorem i0T(hk: ∀x,(enc x).length=k): ∀(xs:List T) (n:Nat),(xs.flatMap enc).take (n*k)=(xs.take n).flatMap enc
 | [],n=>by simp
 |x::xs,0=>by simp
 |x::xs,n+1=>by
  rw[aL,List.take_append,hk,bp,List.take_of_length_le (by rw[hk];omega)]
  rw[show n*k+k-k=n*k from by omega,i0T hk xs n,List.take_succ_cons,aL]
theorem q0K [Inhabited T](hk: ∀x,(enc x).length=k) {xs:List T} {j:Int} (h:inR j xs.length=true):((xs.flatMap enc).drop (j.toNat*k)).take k=enc (nth xs j):=by
 have hn:=z0s h
 rw[h0u hk]
 have hl:=(ab.1 hn).1
 rw[bQ hl,aL,(ab.1 hn).2,←hk (nth xs j),List.take_left]
theorem N.idx [Inhabited T](hk: ∀x,(enc x).length=k) {xs:List T} {j:Int} (h:inR j xs.length=true):(⟨.ep (((xs.flatMap enc).drop (j.toNat*k)).take k),[],[]⟩:Eff)=⟨.ep (enc (nth xs j)),[],[]⟩:=by
 rw[q0K hk h]
theorem N.slice(hk: ∀x,(enc x).length=k) {xs:List T} {l h:Int} (hb:inS l h xs.length=true):
  (⟨.lst (h.toNat-l.toNat) k (((xs.flatMap enc).take (h.toNat*k)).drop (l.toNat*k)),[],[]⟩:Eff)=⟨.lst (cut xs l h).length k ((cut xs l h).flatMap enc),[],[]⟩:=by
 have:=i0R.1 hb
 rw[i0T hk,h0u hk]
 have:(cut xs l h).length=h.toNat-l.toNat:=by
  unfold cut;rw[aV,aJ];omega
 rw[this]
 rfl
theorem N.app {v:SV} {rd:List Nat} {xs ys:List T} {i idx e:Nat} :(⟨v,rd,[(i, .gone),(idx, .vec (xs.length+ys.length) k e (xs.flatMap enc++ys.flatMap enc))]⟩:Eff)=⟨v,rd,[(i, .gone),(idx, .vec (xs++ys).length k e ((xs++ys).flatMap enc))]⟩:=by
 rw[ao,bJ]
theorem o0K(hk: ∀x,(enc x).length=k) {xs:List T} {j:Int} {y:T} (h:inR j xs.length=true):splice (xs.flatMap enc) (j.toNat*k) (enc y)=(b0u xs j y).flatMap enc:=by
 have hj:=e0w.1 h
 have hl:j.toNat<xs.length:=by omega
 unfold splice b0u
 rw[hk,i0T hk,show j.toNat*k+k=(j.toNat+1)*k from(bp _ _).symm,h0u hk]
 rw[List.set_eq_take_append_cons_drop,if_pos hl,bJ,aL]
theorem x0M(hk: ∀x,(enc x).length=k) {xs ys:List T} :splice (xs.flatMap enc) 0 ((ys.flatMap enc).take (min ys.length xs.length*k))=(s0E xs ys).flatMap enc:=by
 unfold splice s0E
 rw[i0T hk,List.take_zero,bc,be,k0J hk,aJ,h0u hk,bJ]
 congr 1
 ·congr 1
  rw[Nat.min_comm,←List.take_eq_take_min]
 ·congr 1
  rcases Nat.le_total ys.length xs.length with h|h
  ·congr 1;omega
  ·rw[bh (by omega),bh (by omega)]
theorem v0U {xs ys:List T} :(s0E xs ys).length=xs.length:=by
 unfold s0E;rw[ao,aJ,aV];omega
end
theorem N.store {T:Type} {enc:T→List SV} {k:Nat} (hk: ∀x,(enc x).length=k) {v:SV} {rd:List Nat} {i e:Nat} {xs:List T} {j:Int} {y:T} (h:inR j xs.length=true):
  (⟨v,rd,[(i, .vec xs.length k e (splice (xs.flatMap enc) (j.toNat*k) (enc y)))]⟩:Eff)=⟨v,rd,[(i,a0A enc k e (b0u xs j y))]⟩:=by
 rw[o0K hk h]
 unfold a0A b0u
 rw[List.length_set]
theorem o0I {T:Type} {enc:T→List SV} {k:Nat} (hk: ∀x,(enc x).length=k) {xs:List T} {j:Int} {y:T} (h:inR j xs.length=true):Nat.ble (j.toNat*k+(enc y).length) (xs.flatMap enc).length=true:=by
 have hj:=e0w.1 h
 rw[k0J hk,hk,cF,show j.toNat*k+k=(j.toNat+1)*k from(bp _ _).symm]
 exact aP _ (by omega)
theorem o0h {T:Type} {enc:T→List SV} {k:Nat} (hk: ∀x,(enc x).length=k)(hk0:k=1) {xs:List T} {j:Int} (h:inR j xs.length=true):Nat.blt (j.toNat*k) (xs.flatMap enc).length=true:=by
 have hj:=e0w.1 h
 subst hk0
 rw[k0J hk,Nat.blt_eq]
 omega
theorem N.load1 {T:Type} [Inhabited T] {enc:T→List SV} {rd:List Nat} {f:T→SV} (hk: ∀x,(enc x).length=1)(hf: ∀x,enc x=[f x]) {xs:List T} {j:Int} (h:inR j xs.length=true):
  (⟨((xs.flatMap enc).drop (j.toNat*1)).headD .undef,rd,[]⟩:Eff)=⟨f (nth xs j),rd,[]⟩:=by
 have h1:=q0K hk h
 rw[hf]at h1
 cases hd:(xs.flatMap enc).drop (j.toNat*1)with
 |nil=>rw[hd]at h1;simp at h1
 |cons c r=>rw[hd]at h1;simp at h1;rw[h1];rfl
theorem N.copy {T:Type} {enc:T→List SV} {k:Nat} (hk: ∀x,(enc x).length=k) {v:SV} {rd:List Nat} {i e:Nat} {xs ys:List T} :
  (⟨v,rd,[(i, .vec xs.length k e (splice (xs.flatMap enc) 0 ((ys.flatMap enc).take (min ys.length xs.length*k))))]⟩:Eff)=⟨v,rd,[(i,a0A enc k e (s0E xs ys))]⟩:=by
 rw[x0M hk]
 unfold a0A
 rw[v0U]
theorem a0x(k:IntKind)(x:Int):(a0q k x).length=1:=rfl
theorem e0Z {T:Type} (enc:T→List SV)(k:Nat)(x:List T):(c0q enc k x).length=1:=rfl
theorem g0J(s:List UInt8):s.map f0a=(a0k s).flatMap (a0q .u8):=by
 induction s with
 |nil=>rfl
 |cons b s ih=>rw[ah,a0k,ah,aL,ih];rfl
theorem a0K(s:List UInt8):(a0k s).length=s.length:=by simp[a0k]
theorem N.toBytes {s:List UInt8} :(⟨.lst s.length 1 (s.map f0a),[],[]⟩:Eff)=⟨lsv (a0q .u8) 1 (a0k s),[],[]⟩:=by
 unfold lsv
 rw[g0J,a0K]
def k0s(xs:List Int):List UInt8:=xs.flatMap fun x=>(Utf8.encode x).data.toList
theorem y0O(xs:List Int):(xs.flatMap (a0q .i32)).all i0Q=true:=by
 induction xs with
 |nil=>rfl
 |cons x xs ih=>rw[aL,bq,ih];rfl
theorem N.toRStr {xs:List Int} {rd:List Nat} :(⟨.str ((xs.flatMap (a0q .i32)).flatMap runeB),rd,[]⟩:Eff)=⟨.str (k0s xs),rd,[]⟩:=by
 have:(xs.flatMap (a0q .i32)).flatMap runeB=k0s xs:=by
  unfold k0s
  induction xs with
  |nil=>rfl
  |cons x xs ih=>rw[aL,bJ,ih,aL];simp[a0q,runeB]
 rw[this]
theorem o0x(xs:List Int):(xs.flatMap (a0q .u8)).all h0Z=true:=by
 induction xs with
 |nil=>rfl
 |cons x xs ih=>rw[aL,bq,ih];rfl
theorem N.toStr {xs:List Int} {rd:List Nat} :(⟨.str ((xs.flatMap (a0q .u8)).map byteOf),rd,[]⟩:Eff)=⟨.str (b0s xs),rd,[]⟩:=by
 have:(xs.flatMap (a0q .u8)).map byteOf=b0s xs:=by
  induction xs with
  |nil=>rfl
  |cons x xs ih=>rw[aL,cB,ih];rfl
 rw[this]
section
variable {F : Fr} {P : Program} {L : LE} {H : a0m}
theorem Wk.le(t:Nat) {v v':SV} (ht:lk L t=v)(hle:Le v v'):Wk F L H ((t,v')::L) H:=by
 intro a w hs
 obtain⟨hd,K,D,h⟩:=hs
 refine⟨hd,K,D,⟨⟨h.slots.size,fun i hin=> ?_,h.slots.glob⟩,h.hinv,h.grow⟩⟩
 have hr:=h.slots.rep i hin
 show Rep w K D _ (lk _ i)
 simp only[lk]
 cases hb:Nat.beq i t with
 |true=>
  have:=af hb
  subst this
  rw[show b0n L i=lk L i from rfl,ht]at hr
  exact hle _ _ _ _ hr
 |false=>exact hr
end
end Go.Sy
