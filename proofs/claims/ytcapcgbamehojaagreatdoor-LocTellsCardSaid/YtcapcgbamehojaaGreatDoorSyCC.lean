/-
 Ways that are not gone (their mirror is none), and maps whose keys are numbers that are not known.
-/
import Derived.Test.YtcapcgbamehojaaGreatDoorSyKK
namespace Go.Sy
open Go Go.RowKit
set_option linter.unusedVariables false
set_option linter.unusedSimpArgs false
set_option linter.unusedSectionVars false
variable [Inhabited GT]
section
variable {F : Fr} {P : Program} {m : Option Nat} {L : LE} {H : a0o} {Q : h0f} {ops : Array Oper} {p : Nat} {tr : List (List Nat × List Nat)} {c : Code}
theorem cF {α:Type} {b:Bool} {X:Option α} {r:α} (d:Nat)(h:(bif b then X else none)=some r)(k:X=some r→J F P c ((d, .bool true)::L) H Q)(hd:lk L d= .bool b:=by kernel_rfl):J F P c L H Q:=by
 cases b with
 |false=>cases h
 |true=>exact J.caseB d hd (fun _=>k h) (fun hb=>by cases hb)
theorem cT {α:Type} {b:Bool} {X:Option α} {r:α} (d:Nat)(h:(bif b then none else X)=some r)(k:X=some r→J F P c ((d, .bool false)::L) H Q)(hd:lk L d= .bool b:=by kernel_rfl):J F P c L H Q:=by
 cases b with
 |true=>cases h
 |false=>exact J.caseB d hd (fun hb=>by cases hb) (fun _=>k h)
theorem cFR {α:Type} {b:Bool} {X:Option α} {r:α} (d:Nat)(h:(bif b then X else none)=some r)(k:X=some r→RJ F P m ops p tr ((d, .bool true)::L) H Q)(hd:lk L d= .bool b:=by kernel_rfl):RJ F P m ops p tr L H Q:=by
 cases b with
 |false=>cases h
 |true=>exact RJ.caseB d hd (fun _=>k h) (fun hb=>by cases hb)
theorem cTR {α:Type} {b:Bool} {X:Option α} {r:α} (d:Nat)(h:(bif b then none else X)=some r)(k:X=some r→RJ F P m ops p tr ((d, .bool false)::L) H Q)(hd:lk L d= .bool b:=by kernel_rfl):RJ F P m ops p tr L H Q:=by
 cases b with
 |true=>cases h
 |false=>exact RJ.caseB d hd (fun hb=>by cases hb) (fun _=>k h)
theorem k0A {K V:Type} {ek:K→SV} {ev:V→SV} {eq:K→K→Bool} (heq: ∀a b,e0F (ek a) (ek b)=some (eq a b))(x:K): ∀ms:List (K×V),e0K (c0a ek ev ms) (ek x)=some ((f0z eq ms x).map ev)
 | []=>rfl
 |p::ms=>by
  have ih:=k0A (ev:=ev) heq x ms
  simp only[c0a,ah,e0K,heq,f0z]at ih⊢
  cases eq x p.1 with
  |true=>rfl
  |false=>exact ih
def v0M(P:Program)(o:Oper)(ρ:Env)(H:a0o):Option (Nat×List (SV×SV)×IntKind×Int×SV×Bool):=
 match o.op with
 | .lookup t m k ok=>match P.underlying t,a0Y ρ m,a0Y ρ k with
  |some (.map kt et),some (.mp i),some (.int kd a)=>match H[i]?,t0T P et with
   |some (.map es),some z=>if o0k P kt (.int kd a)=true then some (i,es,kd,a,z,ok)else none
   |_,_=>none
  |_,_,_=>none
 |_=>none
theorem r0e {o:Oper} {ρ:Env} {idx:Nat} {i:Nat} {es:List (SV×SV)} {kd:IntKind} {a:Int} {z:SV} {ok:Bool} (h:v0M P o ρ H=some (i,es,kd,a,z,ok)) {r:Option SV} (hf:e0K es (.int kd a)=some r):
  a0Z P o ρ H idx=some ⟨i0U ok (r.getD z) r.isSome,[i],[]⟩:=by
 unfold v0M at h
 split at h
 ·rename_i t m k ok' ho
  split at h
  ·rename_i kt' et i' kd' a' hu hm hk
   split at h
   ·rename_i es' z' hH hz
    split at h<;>cases h
    rename_i hkey
    unfold a0Z a0k a0w
    simp only[ho]
    unfold h0K
    rw[hu,hm,hk]
    simp only[hH]
    rw[if_pos hkey]
    have:k0J P kt' es (.int kd a)=some r:=hf
    rw[this,hz]
    cases r<;>rfl
   ·cases h
  ·cases h
 ·cases h
def v0N(P:Program)(m:Option Nat)(ops:Array Oper)(p:Nat)(tr:List (List Nat×List Nat))(L:LE)(H:a0o):Option (Option Nat×Nat×List (SV×SV)×IntKind×Int×SV×Bool×List (List Nat×List Nat)):=
 match ops.toList[p]? with
 |none=>none
 |some o=>match c0P ops (b0s L) o with
  |some true=>bif c0B o then none else match v0M P o (b0s L) H with
   |some (i,es,kd,a,z,ok)=>bif okM m ops p o ⟨.undef,[i],[]⟩ tr H then some (o.dst,i,es,kd,a,z,ok,trM m ops p o ⟨.undef,[i],[]⟩ tr)else none
   |none=>none
  |_=>none
theorem RJ.lookK {V:Type} (kd:IntKind)(ev:V→SV)(ms:List (Int×V))(x:Int)(zv:V) {d:Option Nat} {i:Nat} {ok:Bool} {tr2:List (List Nat×List Nat)}
  (h:v0N P m ops p tr L H=some (d,i,c0a (fun k:Int=> .int kd k) ev ms,kd,x,ev zv,ok,tr2))
  (k:RJ F P m ops (p+1) tr2 (g0e L d (i0U ok (ev ((f0z (fun a b:Int=>a==b) ms x).getD zv)) (f0z (fun a b:Int=>a==b) ms x).isSome)) H Q):RJ F P m ops p tr L H Q:=by
 unfold v0N at h
 split at h
 ·cases h
 ·rename_i o ho
  split at h
  ·rename_i hg
   cases hcc:c0B o with
   |true=>rw[hcc]at h;cases h
   |false=>
    rw[hcc]at h
    simp only[cond_false]at h
    split at h
    ·rename_i i2 es2 kd2 a2 z2 ok2 he
     cases hok:okM m ops p o ⟨.undef,[i2],[]⟩ tr H with
     |false=>rw[hok]at h;cases h
     |true=>
      rw[hok]at h
      simp only[cond_true,ai,aP]at h
      obtain⟨rfl,rfl,rfl,rfl,rfl,rfl,rfl,rfl⟩:=h
      have hf:=k0A (ek:=fun k:Int=>SV.int kd2 k) (ev:=ev) (eq:=fun a b:Int=>a==b) (fun a b=>by simp[e0F]) a2 ms
      have hs:=r0e (idx:=y0y m ops p H) he hf
      have e1:((f0z (fun a b:Int=>a==b) ms a2).map ev).getD (ev zv)=ev ((f0z (fun a b:Int=>a==b) ms a2).getD zv):=by cases f0z (fun a b:Int=>a==b) ms a2<;>rfl
      have e2:((f0z (fun a b:Int=>a==b) ms a2).map ev).isSome=(f0z (fun a b:Int=>a==b) ms a2).isSome:=by cases f0z (fun a b:Int=>a==b) ms a2<;>rfl
      rw[e1,e2]at hs
      exact RJ.step ho hg hcc hs hok k
    ·cases h
  ·cases h
def w0g(P:Program)(o:Oper)(ρ:Env)(H:a0o):Option (Nat×List (SV×SV)×IntKind×Int×SV):=
 match o.op with
 | .mapUpdate t m k v=>match P.underlying t,a0Y ρ m,a0Y ρ k,a0Y ρ v with
  |some (.map kt _),some (.mp i),some (.int kd a),some sv=>match H[i]? with
   |some (.map es)=>if o0k P kt (.int kd a)=true then some (i,es,kd,a,sv)else none
   |_=>none
  |_,_,_,_=>none
 |_=>none
theorem s0v {o:Oper} {ρ:Env} {idx:Nat} {i:Nat} {es:List (SV×SV)} {kd:IntKind} {a:Int} {sv:SV} (h:w0g P o ρ H=some (i,es,kd,a,sv))(hf:e0K es (.int kd a)=some none):
  a0Z P o ρ H idx=some ⟨.undef,[i],[(i, .map (es++ [(.int kd a,sv)]))]⟩:=by
 unfold w0g at h
 split at h
 ·rename_i t m k v ho
  split at h
  ·rename_i kt' et i' kd' a' sv' hu hm hk hv
   split at h
   ·rename_i es' hH
    split at h<;>cases h
    rename_i hkey
    unfold a0Z a0k a0w
    simp only[ho]
    unfold h0P
    rw[hu,hm,hk,hv]
    simp only[hH]
    rw[if_pos hkey]
    have:k0J P kt' es (.int kd a)=some none:=hf
    rw[this]
   ·cases h
  ·cases h
 ·cases h
def t0x(P:Program)(m:Option Nat)(ops:Array Oper)(p:Nat)(tr:List (List Nat×List Nat))(L:LE)(H:a0o):Option (Option Nat×Nat×List (SV×SV)×IntKind×Int×SV×List (List Nat×List Nat)):=
 match ops.toList[p]? with
 |none=>none
 |some o=>match c0P ops (b0s L) o with
  |some true=>bif c0B o then none else match w0g P o (b0s L) H with
   |some (i,es,kd,a,sv)=>bif okM m ops p o ⟨.undef,[i],[(i, .map [])]⟩ tr H then some (o.dst,i,es,kd,a,sv,trM m ops p o ⟨.undef,[i],[(i, .map [])]⟩ tr)else none
   |none=>none
  |_=>none
theorem RJ.insK {V:Type} (kd:IntKind)(ev:V→SV)(ms:List (Int×V))(x:Int)(y:V) {d:Option Nat} {i:Nat} {sv:SV} {tr2:List (List Nat×List Nat)} {H2:a0o}
  (h:t0x P m ops p tr L H=some (d,i,c0a (fun k:Int=> .int kd k) ev ms,kd,x,sv,tr2)) (hsv:sv=ev y) (hm:(f0z (fun a b:Int=>a==b) ms x).isNone=true)
  (hH:g0w H i (.map (c0a (fun k:Int=> .int kd k) ev (ms++ [(x,y)])))=H2) (k:RJ F P m ops (p+1) tr2 (g0e L d .undef) H2 Q):RJ F P m ops p tr L H Q:=by
 subst hH
 unfold t0x at h
 split at h
 ·cases h
 ·rename_i o ho
  split at h
  ·rename_i hg
   cases hcc:c0B o with
   |true=>rw[hcc]at h;cases h
   |false=>
    rw[hcc]at h
    simp only[cond_false]at h
    split at h
    ·rename_i i2 es2 kd2 a2 sv2 he
     cases hok:okM m ops p o ⟨.undef,[i2],[(i2, .map [])]⟩ tr H with
     |false=>rw[hok]at h;cases h
     |true=>
      rw[hok]at h
      simp only[cond_true,ai,aP]at h
      obtain⟨rfl,rfl,rfl,rfl,rfl,rfl,rfl⟩:=h
      have hf:=k0A (ek:=fun k:Int=>SV.int kd2 k) (ev:=ev) (eq:=fun a b:Int=>a==b) (fun a b=>by simp[e0F]) a2 ms
      have hn:f0z (fun a b:Int=>a==b) ms a2=none:=by simpa using hm
      rw[hn]at hf
      have hs:=s0v (idx:=y0y m ops p H) he hf
      have e1:c0a (fun k:Int=> .int kd2 k) ev ms++ [(SV.int kd2 a2,sv2)]=c0a (fun k:Int=> .int kd2 k) ev (ms++ [(a2,y)]):=by simp[c0a,hsv]
      rw[e1]at hs
      exact RJ.step ho hg hcc hs hok k
    ·cases h
  ·cases h
def r0K {V:Type} (y:V)(x:Int):List (Int×V)→List (Int×V)
 | []=> [(x,y)]
 |p::r=>bif x==p.1 then(p.1,y)::r else p::r0K y x r
def x0s(es:List (SV×SV))(k v:SV):List (SV×SV):=match e0K es k with
 |some (some _)=>x0g es k v
 |_=>es++ [(k,v)]
theorem u0e {V:Type} {kd:IntKind} {ev:V→SV} (x:Int)(y:V)(ms:List (Int×V)):x0s (c0a (fun k:Int=> .int kd k) ev ms) (.int kd x) (ev y)=c0a (fun k:Int=> .int kd k) ev (r0K y x ms):=by
 induction ms with
 |nil=>rfl
 |cons p ms ih=>
  unfold x0s at ih⊢
  simp only[c0a,ah,e0K,e0F,if_pos,r0K]at ih⊢
  cases hx:(x==p.1)with
  |true=>simp[x0g,e0F,hx]
  |false=>
   simp only[cond_false,ah,←ih]
   split<;>simp[x0g,e0F,hx, *]
theorem r0T {o:Oper} {ρ:Env} {idx:Nat} {i:Nat} {es:List (SV×SV)} {kd:IntKind} {a:Int} {sv:SV} {q:Option SV} (h:w0g P o ρ H=some (i,es,kd,a,sv))(hf:e0K es (.int kd a)=some q):
  a0Z P o ρ H idx=some ⟨.undef,[i],[(i, .map (x0s es (.int kd a) sv))]⟩:=by
 unfold w0g at h
 split at h
 ·rename_i t m k v ho
  split at h
  ·rename_i kt' et i' kd' a' sv' hu hm hk hv
   split at h
   ·rename_i es' hH
    split at h<;>cases h
    rename_i hkey
    unfold a0Z a0k a0w
    simp only[ho]
    unfold h0P
    rw[hu,hm,hk,hv]
    simp only[hH]
    rw[if_pos hkey]
    have:k0J P kt' es (.int kd a)=some q:=hf
    rw[this]
    unfold x0s
    rw[hf]
    cases q<;>rfl
   ·cases h
  ·cases h
 ·cases h
theorem RJ.setK {V:Type} (kd:IntKind)(ev:V→SV)(ms:List (Int×V))(x:Int)(y:V) {d:Option Nat} {i:Nat} {sv:SV} {tr2:List (List Nat×List Nat)} {H2:a0o}
  (h:t0x P m ops p tr L H=some (d,i,c0a (fun k:Int=> .int kd k) ev ms,kd,x,sv,tr2)) (hsv:sv=ev y)
  (hH:g0w H i (.map (c0a (fun k:Int=> .int kd k) ev (r0K y x ms)))=H2) (k:RJ F P m ops (p+1) tr2 (g0e L d .undef) H2 Q):RJ F P m ops p tr L H Q:=by
 subst hH
 unfold t0x at h
 split at h
 ·cases h
 ·rename_i o ho
  split at h
  ·rename_i hg
   cases hcc:c0B o with
   |true=>rw[hcc]at h;cases h
   |false=>
    rw[hcc]at h
    simp only[cond_false]at h
    split at h
    ·rename_i i2 es2 kd2 a2 sv2 he
     cases hok:okM m ops p o ⟨.undef,[i2],[(i2, .map [])]⟩ tr H with
     |false=>rw[hok]at h;cases h
     |true=>
      rw[hok]at h
      simp only[cond_true,ai,aP]at h
      obtain⟨rfl,rfl,rfl,rfl,rfl,rfl,rfl⟩:=h
      have hf:=k0A (ek:=fun k:Int=>SV.int kd2 k) (ev:=ev) (eq:=fun a b:Int=>a==b) (fun a b=>by simp[e0F]) a2 ms
      have hs:=r0T (idx:=y0y m ops p H) he hf
      rw[hsv,u0e]at hs
      exact RJ.step ho hg hcc hs hok k
    ·cases h
  ·cases h
def v0Q(P:Program)(o:Oper)(ρ:Env)(H:a0o):Option (Nat×Nat×Nat×List SV):=
 match o.op with
 | .load t x=>match a0Y ρ x with
  |some (.ptr i off)=>match H[i]? with
   |some (.vec _ _ _ cs)=>match P.underlying t with
    |some (.struct _)=>some (i,off,P.cellsOf t,cs)
    |_=>none
   |_=>none
  |_=>none
 |_=>none
theorem r0i {o:Oper} {ρ:Env} {idx:Nat} {i off n:Nat} {cs:List SV} (h:v0Q P o ρ H=some (i,off,n,cs))(hl:n≤(cs.drop off).length):
  a0Z P o ρ H idx=some ⟨.agg ((cs.drop off).take n),[i],[]⟩:=by
 unfold v0Q at h
 split at h
 ·rename_i t x ho
  split at h
  ·rename_i i' off' h1
   split at h
   ·rename_i n' k' e' cs' h2
    split at h
    ·rename_i fs hu
     cases h
     unfold a0Z a0k a0w
     simp only[ho,h1,h2,aa,d0E]
     unfold b0T
     rw[hu]
     simp only[if_pos hl]
     rfl
    ·cases h
   ·cases h
  ·cases h
 ·cases h
def v0R(P:Program)(m:Option Nat)(ops:Array Oper)(p:Nat)(tr:List (List Nat×List Nat))(L:LE)(H:a0o):Option (Option Nat×Nat×Nat×Nat×List SV×List (List Nat×List Nat)):=
 match ops.toList[p]? with
 |none=>none
 |some o=>match c0P ops (b0s L) o with
  |some true=>bif c0B o then none else match v0Q P o (b0s L) H with
   |some (i,off,n,cs)=>bif okM m ops p o ⟨.undef,[i],[]⟩ tr H then some (o.dst,i,off,n,cs,trM m ops p o ⟨.undef,[i],[]⟩ tr)else none
   |none=>none
  |_=>none
theorem RJ.loadS {T:Type} [Inhabited T] {enc:T→List SV} {k:Nat} {xs:List T} {j:Int} {d:Option Nat} {i:Nat} {tr2:List (List Nat×List Nat)} (h:v0R P m ops p tr L H=some (d,i,j.toNat*k,k,xs.flatMap enc,tr2))
  (hk: ∀x,(enc x).length=k) (hj:inR j xs.length=true) (kk:RJ F P m ops (p+1) tr2 (g0e L d (.agg (enc (nth xs j)))) H Q):RJ F P m ops p tr L H Q:=by
 unfold v0R at h
 split at h
 ·cases h
 ·rename_i o ho
  split at h
  ·rename_i hg
   cases hcc:c0B o with
   |true=>rw[hcc]at h;cases h
   |false=>
    rw[hcc]at h
    simp only[cond_false]at h
    split at h
    ·rename_i i2 off2 n2 cs2 he
     cases hok:okM m ops p o ⟨.undef,[i2],[]⟩ tr H with
     |false=>rw[hok]at h;cases h
     |true=>
      rw[hok]at h
      simp only[cond_true,ai,aP]at h
      obtain⟨rfl,rfl,rfl,rfl,rfl,rfl⟩:=h
      have hf:=s0E hk hj
      have hl:n2≤((xs.flatMap enc).drop (j.toNat*n2)).length:=by
       have:=congrArg List.length hf
       rw[aH,hk]at this
       omega
      have hs:=r0i (idx:=y0y m ops p H) he hl
      rw[hf]at hs
      exact RJ.step ho hg hcc hs hok kk
    ·cases h
  ·cases h
end
end Go.Sy
