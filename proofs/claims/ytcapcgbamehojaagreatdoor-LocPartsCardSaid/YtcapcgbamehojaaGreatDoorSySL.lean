/-
 The second shadow machine: arrays that are written at running places, and told as a row.
-/
import Derived.Test.YtcapcgbamehojaaGreatDoorSyMP
namespace Go.Sy
open Go Go.RowKit
set_option linter.unusedSimpArgs false
set_option linter.unusedVariables false
set_option linter.unusedSectionVars false
variable [Inhabited GT]
def q0q(P:Program)(o:Oper)(ρ:Env)(H:a0m)(idx:Nat):Option (Eff×Bool):=
 match o.op with
 | .slice t x none hi none=>match P.underlying t,a0P ρ x with
  |some (.array len e),some (.ptr i off)=>match f0y ρ hi (len:Int)with
   |some h=>bif Nat.blt 0 (P.cellsOf e)then some (⟨.sl i off h.toNat (P.cellsOf e),[],[]⟩,inS 0 h len)else none
   |none=>none
  |_,_=>none
 | .store t x y=>match a0P ρ x,(a0P ρ y).bind SV.cells? with
  |some (.ptr i off),some ps=>match H[i]? with
   |some (.box cs)=>bif Nat.beq ps.length (P.cellsOf t)&&Nat.blt 0 ps.length then some (⟨.undef,[i],[(i, .box (splice cs off ps))]⟩,Nat.ble (off+ps.length) cs.length)else none
   |_=>none
  |_,_=>none
 | .convert src dst x=>match P.underlying src,P.underlying dst,a0P ρ x with
  |some (.slice e),some .string,some (.sl j off n k)=>match P.underlying e,H[j]? with
   |some (.int .u8),some (.box cs)=>bif f0L P src (.sl j off n k)&&Nat.beq k 1 then some (⟨.str (((cs.drop off).take (n*1)).map byteOf),[j],[]⟩,Nat.ble (off+n*1) cs.length&&(a0Y ((cs.drop off).take (n*1))&&((cs.drop off).take (n*1)).all h0Z))else none
   |_,_=>none
  |_,_,_=>none
 | .call c=>match c.callee with
  | .builtin .append=>match c.args.toList,c.argTypes.toList with
   | [x,y],[t,tx]=>match P.underlying t,a0P ρ x,a0P ρ y with
    |some (.slice e),some .nl,some (.sl j off n k)=>match H[j]? with
     |some (.box cs)=>bif f0L P tx (.sl j off n k)&&(Nat.beq k (P.cellsOf e)&&f0x P e (P.cellsOf e))then some (⟨.vc idx,[j],[(idx, .vec n (P.cellsOf e) e ((cs.drop off).take (n*P.cellsOf e)))]⟩,Nat.ble (off+n*P.cellsOf e) cs.length&&(a0Y ((cs.drop off).take (n*P.cellsOf e))&&r0Z P e n))else none
     |_=>none
    |some (.slice e),some (.vc i),some (.sl j off n k)=>match H[i]?,H[j]? with
     |some (.vec n' k' e' cs'),some (.box cs)=>bif f0L P tx (.sl j off n k)&&(Nat.beq k k'&&(Nat.beq e e'&&f0x P e k'))then some (⟨.vc idx,[i,j],[(i, .gone),(idx, .vec (n'+n) k' e (cs'++(cs.drop off).take (n*k')))]⟩,Nat.ble (off+n*k') cs.length&&(a0Y ((cs.drop off).take (n*k'))&&r0Z P e (n'+n)))else none
     |_,_=>none
    |_,_,_=>none
   |_,_=>none
  |_=>none
 |_=>none
theorem n0X {P:Program} {o:Oper} {ρ:Env} {H:a0m} {idx:Nat} {ef:Eff} {b:Bool} (h:q0q P o ρ H idx=some (ef,b))(hb:b=true):a0L P o ρ H idx=some ef:=by
 unfold q0q at h
 split at h
 ·rename_i t x hi ho
  split at h
  ·rename_i len e i off hu hx
   split at h
   ·rename_i hh hbd
    cases hk:Nat.blt 0 (P.cellsOf e)with
    |false=>rw[hk]at h;cases h
    |true=>
     rw[hk]at h
     simp only[cond_true,ai,aF]at h
     obtain⟨rfl,rfl⟩:=h
     obtain⟨q1,q2,q3⟩:=i0R.1 hb
     have hk':0<P.cellsOf e:=al hk
     unfold a0L a0g a0p
     simp only[ho,hu,hx,hbd]
     rw[if_pos ⟨q2,q3,hk'⟩]
   ·cases h
  ·cases h
 ·rename_i t x y ho
  split at h
  ·rename_i i off ps h1 h2
   split at h
   ·rename_i cs h3
    cases hk:(Nat.beq ps.length (P.cellsOf t)&&Nat.blt 0 ps.length)with
    |false=>rw[hk]at h;cases h
    |true=>
     rw[hk]at h
     simp only[cond_true,ai,aF]at h
     obtain⟨rfl,rfl⟩:=h
     simp only[ae]at hk
     have hle:off+ps.length≤cs.length:=al hb
     unfold a0L a0g a0p
     simp only[ho,h1,h2,h3,d0c]
     rw[if_pos ⟨af hk.1,al hk.2,hle,fun h=>by cases h⟩]
     rfl
   ·cases h
  ·cases h
 ·rename_i src dst x ho
  split at h
  ·rename_i e j off n k h1 h2 h3
   split at h
   ·rename_i cs he hj
    cases hk:(f0L P src (.sl j off n k)&&Nat.beq k 1)with
    |false=>rw[hk]at h;cases h
    |true=>
     rw[hk]at h
     simp only[cond_true,ai,aF]at h
     obtain⟨rfl,rfl⟩:=h
     simp only[ae]at hk hb
     have hk1:=af hk.2
     subst hk1
     have hle:=al hb.1
     have hsc:o0z 1 (.sl j off n 1) H=some (n,(cs.drop off).take (n*1),[j]):=by
      unfold o0z
      simp only[hj]
      rw[if_pos ⟨trivial,hle,hb.2.1⟩]
     unfold a0L a0g a0p
     simp only[ho,h1,h2,h3,he,hsc,n0y]
     rw[if_pos ⟨hk.1,hb.2.2⟩]
   ·cases h
  ·cases h
 ·rename_i c ho
  split at h
  ·rename_i hc
   split at h
   ·rename_i x y t tx ha ht
    split at h
    ·rename_i e j off n k hu hx hy
     split at h
     ·rename_i cs hj
      cases hk:(f0L P tx (.sl j off n k)&&(Nat.beq k (P.cellsOf e)&&f0x P e (P.cellsOf e)))with
      |false=>rw[hk]at h;cases h
      |true=>
       rw[hk]at h
       simp only[cond_true,ai,aF]at h
       obtain⟨rfl,rfl⟩:=h
       simp only[ae]at hk hb
       obtain⟨k1,k2,k3⟩:=hk
       have k2:=af k2
       have hle:=al hb.1
       have hsc:r0R P e (P.cellsOf e) tx (.sl j off n k) H=some (n,(cs.drop off).take (n*P.cellsOf e),[j]):=by
        unfold r0R
        simp only[k1,if_true]
        unfold o0z
        simp only[hj]
        rw[if_pos ⟨k2,hle,hb.2.1⟩]
       unfold a0L a0g a0p
       simp only[ho,hc,q0T]
       unfold j0g
       simp only[ha,ht,hu,hx,hy,hsc]
       rw[if_pos ⟨k3,rfl,l0N hb.2.2⟩]
     ·cases h
    ·rename_i e i j off n k hu hx hy
     split at h
     ·rename_i n' k' e' cs' cs hi hj
      cases hk:(f0L P tx (.sl j off n k)&&(Nat.beq k k'&&(Nat.beq e e'&&f0x P e k')))with
      |false=>rw[hk]at h;cases h
      |true=>
       rw[hk]at h
       simp only[cond_true,ai,aF]at h
       obtain⟨rfl,rfl⟩:=h
       simp only[ae]at hk hb
       obtain⟨k1,k2,k3,k4⟩:=hk
       have k2:=af k2
       have k3:=af k3
       have hle:=al hb.1
       have hsc:r0R P e k' tx (.sl j off n k) H=some (n,(cs.drop off).take (n*k'),[j]):=by
        unfold r0R
        simp only[k1,if_true]
        unfold o0z
        simp only[hj]
        rw[if_pos ⟨k2,hle,hb.2.1⟩]
       unfold a0L a0g a0p
       simp only[ho,hc,q0T]
       unfold j0g
       simp only[ha,ht,hu,hx,hy,hi,hsc]
       rw[if_pos ⟨k3,k4,rfl,l0N hb.2.2⟩]
     ·cases h
    ·cases h
   ·cases h
  ·cases h
 ·cases h
section
variable {F : Fr} {P : Program} {L : LE} {H : a0m} {Q : g0t} {m : Option Nat} {ops : Array Oper} {p : Nat} {tr : List (List Nat × List Nat)}
def t0z(P:Program)(m:Option Nat)(ops:Array Oper)(p:Nat)(tr:List (List Nat×List Nat))(L:LE)(H:a0m):Option (Option Nat×Eff×Bool×List (List Nat×List Nat)):=
 match ops.toList[p]? with
 |none=>none
 |some o=>match c0y ops (b0n L) o with
  |some true=>bif c0l o then none else match q0q P o (b0n L) H (w0n m ops p H)with
   |some (ef,c)=>bif okM m ops p o ef tr H then some (o.dst,ef,c,trM m ops p o ef tr)else none
   |none=>none
  |_=>none
theorem RJ.relS {d:Option Nat} {ef ef':Eff} {c:Bool} {tr2:List (List Nat×List Nat)} {H2:a0m} (h:t0z P m ops p tr L H=some (d,ef,c,tr2))(hc:c=true)(hn:c=true→ef=ef')(hH:b0E H ef'.wr=H2)(k:RJ F P m ops (p+1) tr2 (f0s L d ef'.v) H2 Q):RJ F P m ops p tr L H Q:=by
 unfold t0z at h
 have hn':=hn hc
 subst hn'
 subst hH
 split at h
 ·cases h
 ·rename_i o ho
  split at h
  ·rename_i hg
   cases hcc:c0l o with
   |true=>rw[hcc]at h;cases h
   |false=>
    rw[hcc]at h
    simp only[cond_false]at h
    split at h
    ·rename_i ef2 c2 he
     cases hok:okM m ops p o ef2 tr H with
     |false=>rw[hok]at h;cases h
     |true=>
      rw[hok]at h
      simp only[cond_true,ai,aF]at h
      obtain⟨rfl,rfl,rfl,rfl⟩:=h
      exact RJ.step ho hg hcc (n0X he hc) hok k
    ·cases h
  ·cases h
end
def inP(o:Nat)(j:Int)(n:Nat):Bool:=decide (0≤j)&&decide ((o:Int)+j<n)
theorem u0u {o:Nat} {j:Int} {n:Nat} :inP o j n=true↔0≤j∧(o:Int)+j<n:=by simp[inP]
section
variable {T : Type} {enc : T → List SV} {k : Nat}
theorem N.storeB(hk: ∀x,(enc x).length=k) {v:SV} {rd:List Nat} {i o:Nat} {xs:List T} {j:Int} {y:T} (h:inP o j xs.length=true):
  (⟨v,rd,[(i, .box (splice (xs.flatMap enc) (o*k+j.toNat*k) (enc y)))]⟩:Eff)=⟨v,rd,[(i, .box ((b0u xs ((o:Int)+j) y).flatMap enc))]⟩:=by
 obtain⟨h1,h2⟩:=u0u.1 h
 rw[←cd,show o+j.toNat=((o:Int)+j).toNat by omega,o0K hk (e0w.2 ⟨by omega,h2⟩)]
theorem t0b(hk: ∀x,(enc x).length=k) {o:Nat} {xs:List T} {j:Int} {y:T} (h:inP o j xs.length=true):Nat.ble (o*k+j.toNat*k+(enc y).length) (xs.flatMap enc).length=true:=by
 obtain⟨h1,h2⟩:=u0u.1 h
 rw[←cd,show o+j.toNat=((o:Int)+j).toNat by omega]
 exact o0I hk (e0w.2 ⟨by omega,h2⟩)
theorem o0G(hk: ∀x,(enc x).length=k)(xs:List T)(o:Nat) {n:Int} (hn:0≤n):((xs.flatMap enc).drop (o*k)).take (n.toNat*k)=(cut xs o ((o:Int)+n)).flatMap enc:=by
 rw[h0u hk,i0T hk]
 unfold cut
 rw[show((o:Int)+n).toNat=o+n.toNat by omega,aR,List.drop_take]
 congr 2
 omega
theorem w0d(hk: ∀x,(enc x).length=k) {xs:List T} {o:Nat} {n:Int} (h:inS o ((o:Int)+n) xs.length=true):Nat.ble (o*k+n.toNat*k) (xs.flatMap enc).length=true:=by
 obtain⟨_,h1,h2⟩:=i0R.1 h
 rw[←cd,k0J hk,cF]
 exact aP k (by omega)
theorem y0w {xs:List T} {o:Nat} {n:Int} (h:inS o ((o:Int)+n) xs.length=true):(cut xs o ((o:Int)+n)).length=n.toNat:=by
 obtain⟨_,h1,h2⟩:=i0R.1 h
 simp[cut];omega
theorem s0h(hp: ∀x,a0Y (enc x)=true)(xs:List T):a0Y (xs.flatMap enc)=true:=by
 induction xs with
 |nil=>rfl
 |cons x xs ih=>
  rw[aL]
  unfold a0Y at*
  rw[bq,hp x,ih];rfl
theorem z0I {o:Nat} {n:Int} {len:Nat} (h:inS o ((o:Int)+n) len=true):0≤n:=by
 obtain⟨_,h1,_⟩:=i0R.1 h;omega
end
section
variable {T : Type} {enc : T → List SV} {k : Nat}
theorem N.appB(hk: ∀x,(enc x).length=k) {v:SV} {rd:List Nat} {i idx e o:Nat} {xs ys:List T} {n:Int} (h:inS o ((o:Int)+n) xs.length=true):
  (⟨v,rd,[(i, .gone),(idx, .vec (ys.length+n.toNat) k e (ys.flatMap enc++((xs.flatMap enc).drop (o*k)).take (n.toNat*k)))]⟩:Eff)=⟨v,rd,[(i, .gone),(idx, .vec (ys++cut xs o ((o:Int)+n)).length k e ((ys++cut xs o ((o:Int)+n)).flatMap enc))]⟩:=by
 rw[o0G hk xs o (z0I h),ao,y0w h,bJ]
theorem y0L(hk: ∀x,(enc x).length=k)(hp: ∀x,a0Y (enc x)=true) {xs:List T} {o:Nat} {n:Int} {r:Bool} (h:inS o ((o:Int)+n) xs.length=true)(hr:r=true):
  (Nat.ble (o*k+n.toNat*k) (xs.flatMap enc).length&&(a0Y (((xs.flatMap enc).drop (o*k)).take (n.toNat*k))&&r))=true:=by
 rw[o0G hk xs o (z0I h),w0d hk h,s0h hp,hr];rfl
end
section
variable {F : Fr} {P : Program} {L : LE} {H : a0m} {Q : g0t} {ops : Array Oper} {p : Nat} {tr : List (List Nat × List Nat)}
end
theorem n0i(f:Nat→Nat): ∀a b:List SV,SV.rnL f (a++b)=SV.rnL f a++SV.rnL f b
 | [],b=>rfl
 |x::a,b=>by simp only[aY,SV.rnL,n0i f a b]
theorem l0p(m:Nat): ∀a b:List SV,SV.refsL m (a++b)=(SV.refsL m a&&SV.refsL m b)
 | [],b=>by simp[SV.refsL]
 |x::a,b=>by simp only[aY,SV.refsL,l0p m a b,Bool.and_assoc]
theorem n0Q {T:Type} {enc:T→List SV} (h: ∀f x,SV.rnL f (enc x)=enc x)(f:Nat→Nat)(xs:List T):Ent.rn f (.box (xs.flatMap enc))= .box (xs.flatMap enc):=by
 simp only[Ent.rn]
 congr 1
 induction xs with
 |nil=>rfl
 |cons x xs ih=>rw[aL,n0i,h,ih]
theorem m0j {T:Type} {enc:T→List SV} (h: ∀m x,SV.refsL m (enc x)=true)(m:Nat)(xs:List T):Ent.refs m (.box (xs.flatMap enc))=true:=by
 simp only[Ent.refs]
 induction xs with
 |nil=>rfl
 |cons x xs ih=>rw[aL,l0p,h,ih];rfl
end Go.Sy
