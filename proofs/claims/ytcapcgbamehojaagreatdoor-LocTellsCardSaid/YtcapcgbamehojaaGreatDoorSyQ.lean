/-
 The second shadow machine, part 19: lists that are told by native ones.
-/
import Derived.Test.YtcapcgbamehojaaGreatDoorSyP
namespace Go.Sy
open Go Go.RowKit
set_option linter.unusedSimpArgs false
set_option linter.unusedVariables false
set_option linter.unusedSectionVars false
variable [Inhabited GT]
def a0u(k:IntKind):Int→List SV:=fun x=> [.int k x]
def B0Q:Bool→List SV:=fun x=> [.bool x]
def A0i:List UInt8→List SV:=fun x=> [.str x]
def lsv {T:Type} (enc:T→List SV)(k:Nat)(xs:List T):SV:= .lst xs.length k (xs.flatMap enc)
def k0P {T:Type} (enc:T→List SV)(k:Nat):List T→List SV:=fun xs=> [.lst xs.length k (xs.flatMap enc)]
def a0z {T:Type} (enc:T→List SV)(k e:Nat)(xs:List T):Ent:= .vec xs.length k e (xs.flatMap enc)
def nth {T:Type} [Inhabited T](xs:List T)(j:Int):T:=xs.getD j.toNat default
def cut {T:Type} (xs:List T)(l h:Int):List T:=(xs.take h.toNat).drop l.toNat
def rep {T:Type} (l:Int)(z:T):List T:=List.replicate l.toNat z
def n0L {T:Type} (xs:List T)(j:Int)(y:T):List T:=xs.set j.toNat y
def v0B {T:Type} (xs ys:List T):List T:=ys.take xs.length++xs.drop ys.length
def a0N(s:List UInt8):List Int:=s.map fun b=>(b.toNat:Int)
def a0q(xs:List Int):List UInt8:=xs.map fun x=>UInt8.ofNat x.toNat
def t0q(a b:Int):Int:=if a<b then b else a
def B0f(a b:Int):Int:=if b<a then b else a
theorem A0x {T:Type} [Inhabited T] {xs:List T} {j:Int} (h:inR j xs.length=true):xs[j.toNat]?=some (nth xs j):=by
 have:=f0Q.1 h
 have hl:j.toNat<xs.length:=by omega
 unfold nth
 rw[av,ae hl];rfl
section
variable {T : Type} {enc : T → List SV} {k : Nat}
theorem n0q(hk: ∀x,(enc x).length=k): ∀xs:List T,(xs.flatMap enc).length=xs.length*k
 | []=>by simp
 |x::xs=>by rw[aC,ag,hk,n0q hk xs,aJ,bH];omega
theorem j0W(hk: ∀x,(enc x).length=k): ∀(xs:List T) (n:Nat),(xs.flatMap enc).drop (n*k)=(xs.drop n).flatMap enc
 | [],n=>by simp
 |x::xs,0=>by simp
 |x::xs,n+1=>by
  rw[aC,cz,hk,bH,aY (by rw[hk];omega),bu]
  rw[show n*k+k-k=n*k from by omega,j0W hk xs n,List.drop_succ_cons]
theorem l0Y(hk: ∀x,(enc x).length=k): ∀(xs:List T) (n:Nat),(xs.flatMap enc).take (n*k)=(xs.take n).flatMap enc
 | [],n=>by simp
 |x::xs,0=>by simp
 |x::xs,n+1=>by
  rw[aC,List.take_append,hk,bH,List.take_of_length_le (by rw[hk];omega)]
  rw[show n*k+k-k=n*k from by omega,l0Y hk xs n,List.take_succ_cons,aC]
theorem s0E [Inhabited T](hk: ∀x,(enc x).length=k) {xs:List T} {j:Int} (h:inR j xs.length=true):((xs.flatMap enc).drop (j.toNat*k)).take k=enc (nth xs j):=by
 have hn:=A0x h
 rw[j0W hk]
 have hl:=(ab.1 hn).1
 rw[bl hl,aC,(ab.1 hn).2,←hk (nth xs j),List.take_left]
theorem N.idx [Inhabited T](hk: ∀x,(enc x).length=k) {xs:List T} {j:Int} (h:inR j xs.length=true):(⟨.ep (((xs.flatMap enc).drop (j.toNat*k)).take k),[],[]⟩:Eff)=⟨.ep (enc (nth xs j)),[],[]⟩:=by
 rw[s0E hk h]
theorem N.slice(hk: ∀x,(enc x).length=k) {xs:List T} {l h:Int} (hb:inS l h xs.length=true):
  (⟨.lst (h.toNat-l.toNat) k (((xs.flatMap enc).take (h.toNat*k)).drop (l.toNat*k)),[],[]⟩:Eff)=⟨.lst (cut xs l h).length k ((cut xs l h).flatMap enc),[],[]⟩:=by
 have:=p0X.1 hb
 rw[l0Y hk,j0W hk]
 have:(cut xs l h).length=h.toNat-l.toNat:=by
  unfold cut;rw[aO,aH];omega
 rw[this]
 rfl
theorem N.app {v:SV} {rd:List Nat} {xs ys:List T} {i idx e:Nat} :(⟨v,rd,[(i, .gone),(idx, .vec (xs.length+ys.length) k e (xs.flatMap enc++ys.flatMap enc))]⟩:Eff)=⟨v,rd,[(i, .gone),(idx, .vec (xs++ys).length k e ((xs++ys).flatMap enc))]⟩:=by
 rw[ag,bd]
theorem v0f(hk: ∀x,(enc x).length=k) {xs:List T} {j:Int} {y:T} (h:inR j xs.length=true):splice (xs.flatMap enc) (j.toNat*k) (enc y)=(n0L xs j y).flatMap enc:=by
 have hj:=f0Q.1 h
 have hl:j.toNat<xs.length:=by omega
 unfold splice n0L
 rw[hk,l0Y hk,show j.toNat*k+k=(j.toNat+1)*k from(bH _ _).symm,j0W hk]
 rw[List.set_eq_take_append_cons_drop,if_pos hl,bd,aC]
theorem z0k(hk: ∀x,(enc x).length=k) {xs ys:List T} :splice (xs.flatMap enc) 0 ((ys.flatMap enc).take (min ys.length xs.length*k))=(v0B xs ys).flatMap enc:=by
 unfold splice v0B
 rw[l0Y hk,List.take_zero,bu,aU,n0q hk,aH,j0W hk,bd]
 congr 1
 ·congr 1
  rw[Nat.min_comm,←List.take_eq_take_min]
 ·congr 1
  rcases Nat.le_total ys.length xs.length with h|h
  ·congr 1;omega
  ·rw[aY (by omega),aY (by omega)]
theorem x0H {xs ys:List T} :(v0B xs ys).length=xs.length:=by
 unfold v0B;rw[ag,aH,aO];omega
end
theorem N.store {T:Type} {enc:T→List SV} {k:Nat} (hk: ∀x,(enc x).length=k) {v:SV} {rd:List Nat} {i e:Nat} {xs:List T} {j:Int} {y:T} (h:inR j xs.length=true):
  (⟨v,rd,[(i, .vec xs.length k e (splice (xs.flatMap enc) (j.toNat*k) (enc y)))]⟩:Eff)=⟨v,rd,[(i,a0z enc k e (n0L xs j y))]⟩:=by
 rw[v0f hk h]
 unfold a0z n0L
 rw[List.length_set]
theorem v0b {T:Type} {enc:T→List SV} {k:Nat} (hk: ∀x,(enc x).length=k) {xs:List T} {j:Int} {y:T} (h:inR j xs.length=true):Nat.ble (j.toNat*k+(enc y).length) (xs.flatMap enc).length=true:=by
 have hj:=f0Q.1 h
 rw[n0q hk,hk,Nat.ble_eq,show j.toNat*k+k=(j.toNat+1)*k from(bH _ _).symm]
 exact aR _ (by omega)
theorem h0s {T:Type} {enc:T→List SV} {k:Nat} (hk: ∀x,(enc x).length=k)(hk0:k=1) {xs:List T} {j:Int} (h:inR j xs.length=true):Nat.blt (j.toNat*k) (xs.flatMap enc).length=true:=by
 have hj:=f0Q.1 h
 subst hk0
 rw[n0q hk,Nat.blt_eq]
 omega
theorem N.load1 {T:Type} [Inhabited T] {enc:T→List SV} {rd:List Nat} {f:T→SV} (hk: ∀x,(enc x).length=1)(hf: ∀x,enc x=[f x]) {xs:List T} {j:Int} (h:inR j xs.length=true):
  (⟨((xs.flatMap enc).drop (j.toNat*1)).headD .undef,rd,[]⟩:Eff)=⟨f (nth xs j),rd,[]⟩:=by
 have h1:=s0E hk h
 rw[hf]at h1
 cases hd:(xs.flatMap enc).drop (j.toNat*1)with
 |nil=>rw[hd]at h1;simp at h1
 |cons c r=>rw[hd]at h1;simp at h1;rw[h1];rfl
theorem N.copy {T:Type} {enc:T→List SV} {k:Nat} (hk: ∀x,(enc x).length=k) {v:SV} {rd:List Nat} {i e:Nat} {xs ys:List T} :
  (⟨v,rd,[(i, .vec xs.length k e (splice (xs.flatMap enc) 0 ((ys.flatMap enc).take (min ys.length xs.length*k))))]⟩:Eff)=⟨v,rd,[(i,a0z enc k e (v0B xs ys))]⟩:=by
 rw[z0k hk]
 unfold a0z
 rw[x0H]
theorem a0v(k:IntKind)(x:Int):(a0u k x).length=1:=rfl
theorem d0W(x:Bool):(B0Q x).length=1:=rfl
theorem n0t {T:Type} (enc:T→List SV)(k:Nat)(x:List T):(k0P enc k x).length=1:=rfl
theorem n0v(s:List UInt8):s.map h0c=(a0N s).flatMap (a0u .u8):=by
 induction s with
 |nil=>rfl
 |cons b s ih=>rw[ah,a0N,ah,aC,ih];rfl
theorem f0S(s:List UInt8):(a0N s).length=s.length:=by simp[a0N]
theorem N.toBytes {s:List UInt8} :(⟨.lst s.length 1 (s.map h0c),[],[]⟩:Eff)=⟨lsv (a0u .u8) 1 (a0N s),[],[]⟩:=by
 unfold lsv
 rw[n0v,f0S]
def m0H(xs:List Int):List UInt8:=xs.flatMap fun x=>(Utf8.encode x).data.toList
theorem A0a(xs:List Int):(xs.flatMap (a0u .i32)).all j0U=true:=by
 induction xs with
 |nil=>rfl
 |cons x xs ih=>rw[aC,aN,ih];rfl
theorem N.toRStr {xs:List Int} {rd:List Nat} :(⟨.str ((xs.flatMap (a0u .i32)).flatMap runeB),rd,[]⟩:Eff)=⟨.str (m0H xs),rd,[]⟩:=by
 have:(xs.flatMap (a0u .i32)).flatMap runeB=m0H xs:=by
  unfold m0H
  induction xs with
  |nil=>rfl
  |cons x xs ih=>rw[aC,bd,ih,aC];simp[a0u,runeB]
 rw[this]
theorem w0T(xs:List Int):(xs.flatMap (a0u .u8)).all l0U=true:=by
 induction xs with
 |nil=>rfl
 |cons x xs ih=>rw[aC,aN,ih];rfl
theorem N.toStr {xs:List Int} {rd:List Nat} :(⟨.str ((xs.flatMap (a0u .u8)).map byteOf),rd,[]⟩:Eff)=⟨.str (a0q xs),rd,[]⟩:=by
 have:(xs.flatMap (a0u .u8)).map byteOf=a0q xs:=by
  induction xs with
  |nil=>rfl
  |cons x xs ih=>rw[aC,cC,ih];rfl
 rw[this]
section
variable {F : Fr} {P : Program} {L : LE} {H : a0o}
theorem Wk.le(t:Nat) {v v':SV} (ht:lk L t=v)(hle:Le v v'):Wk F L H ((t,v')::L) H:=by
 intro a w hs
 obtain⟨hd,K,D,h⟩:=hs
 refine⟨hd,K,D,⟨⟨h.slots.size,fun i hin=> ?_,h.slots.glob⟩,h.hinv,h.grow⟩⟩
 have hr:=h.slots.rep i hin
 show Rep w K D _ (lk _ i)
 simp only[lk]
 cases hb:Nat.beq i t with
 |true=>
  have:=af hb
  subst this
  rw[show b0s L i=lk L i from rfl,ht]at hr
  exact hle _ _ _ _ hr
 |false=>exact hr
end
end Go.Sy
