/-
 The second shadow machine, part 18: operations whose going well is a condition; cuts.
-/
import Derived.Test.YtcapcgbamehojaaGreatDoorSyO
namespace Go.Sy
open Go Go.RowKit
set_option linter.unusedSimpArgs false
set_option linter.unusedVariables false
set_option linter.unusedSectionVars false
variable [Inhabited GT]
def inR(j:Int)(n:Nat):Bool:=decide (0≤j)&&decide (j<n)
def inS(l h:Int)(n:Nat):Bool:=decide (0≤l)&&(decide (l≤h)&&decide (h≤n))
def room(n:Nat):Bool:=Nat.ble n 4294967296
def q0G(n:Nat):Bool:=Nat.ble n 140737488400000
def x0x(P:Program)(e:TypeId)(n:Nat):Bool:=bif k0C P e then q0G n else room n
def nz(y:Int):Bool:= !decide (y=0)
def sh(y:Int):Bool:= !decide (y<0)
def mk(l c:Int):Bool:=decide (0≤l)&&(decide (l≤c)&&decide (c≤4294967296))
theorem f0Q {j:Int} {n:Nat} :inR j n=true↔0≤j∧j<n:=by simp[inR]
theorem p0X {l h:Int} {n:Nat} :inS l h n=true↔0≤l∧l≤h∧h≤n:=by simp[inS]
theorem t0k {n:Nat} :room n=true↔u0O n:=by simp[room,u0O,Nat.ble_eq]
theorem g0x {n:Nat} (h:room n=true):q0G n=true:=by
 simp only[room,q0G,Nat.ble_eq]at*;omega
theorem t0l {P:Program} {e:TypeId} {n:Nat} (h:x0x P e n=true):RoomE P e n:=by
 unfold x0x at h
 unfold RoomE
 cases hb:k0C P e with
 |true=>rw[hb]at h;simp only[q0G,cond_true,Nat.ble_eq]at h;exact .inr ⟨rfl,h⟩
 |false=>rw[hb]at h;exact .inl (t0k.1 h)
theorem y0s {y:Int} :nz y=true↔y≠0:=by simp[nz]
theorem y0l {y:Int} :sh y=true↔0≤y:=by simp[sh]
theorem A0A {l c:Int} :mk l c=true↔0≤l∧l≤c∧c≤4294967296:=by simp[mk]
def s0S(P:Program)(c:Call)(ρ:Env)(H:a0o)(idx:Nat):Option (Eff×Bool):=
 match c.args.toList,c.argTypes.toList with
 | [x,y],[t,tx]=>match P.underlying t,a0Y ρ x,a0Y ρ y with
  |some (.slice e),some .nl,some sy=>match x0m P e (P.cellsOf e) tx sy H with
   |some (m,cs2,rd)=>if i0l P e (P.cellsOf e)=true then some (⟨.vc idx,rd,[(idx, .vec m (P.cellsOf e) e cs2)]⟩,A0r sy&&x0x P e m)else none
   |none=>none
  |some (.slice e),some (.vc i),some sy=>match H[i]? with
   |some (.vec n k e' cs)=>match x0m P e k tx sy H with
    |some (m,cs2,rd)=>if e=e'∧i0l P e k=true then some (⟨.vc idx,i::rd,[(i, .gone),(idx, .vec (n+m) k e (cs++cs2))]⟩,A0r sy&&x0x P e (n+m))else none
    |none=>none
   |_=>none
  |_,_,_=>none
 |_,_=>none
theorem q0m {P:Program} {c:Call} {ρ:Env} {H:a0o} {idx:Nat} {ef:Eff} {b:Bool} (h:s0S P c ρ H idx=some (ef,b))(hb:b=true):m0F P c ρ H idx=some ef:=by
 unfold s0S at h
 unfold m0F
 split at h
 ·rename_i x y t tx hx hy
  rw[hx,hy]
  simp only
  split at h
  ·rename_i e sy h1 h2 h3
   rw[h1,h2,h3]
   simp only
   split at h
   ·rename_i m cs2 rd h4
    rw[h4]
    simp only
    split at h
    ·rename_i h5
     cases h
     rw[if_pos ⟨h5,(ci.1 hb).1,t0l (ci.1 hb).2⟩]
    ·cases h
   ·cases h
  ·rename_i e i sy h1 h2 h3
   rw[h1,h2,h3]
   simp only
   split at h
   ·rename_i n k e' cs h4
    rw[h4]
    simp only
    split at h
    ·rename_i m cs2 rd h6
     rw[h6]
     simp only
     split at h
     ·rename_i h5
      cases h
      rw[if_pos ⟨h5.1,h5.2,(ci.1 hb).1,t0l (ci.1 hb).2⟩]
     ·cases h
    ·cases h
   ·cases h
  ·cases h
 ·cases h
def w0h(P:Program)(t:TypeId)(sx sj:SV)(H:a0o):Option (Eff×Bool):=
 match P.underlying t,sx,sj with
 |some (.slice e), .lst n k cs, .int _ j=>if k=P.cellsOf e∧0<k then some (⟨.ep ((cs.drop (j.toNat*k)).take k),[],[]⟩,inR j n)else none
 |some (.slice e), .vc i, .int _ j=>match H[i]? with
  |some (.vec n k _ _)=>if k=P.cellsOf e∧0<k then some (⟨.ptr i (j.toNat*k),[i],[]⟩,inR j n)else none
  |_=>none
 |some (.slice e), .sl b off n k, .int _ j=>if k=P.cellsOf e∧0<k then some (⟨.ptr b (off+j.toNat*k),[],[]⟩,inR j n)else none
 |some (.array len e), .ptr b off, .int _ j=>if 0<P.cellsOf e then some (⟨.ptr b (off+j.toNat*P.cellsOf e),[],[]⟩,inR j len)else none
 |some (.array len e), .ep cs, .int _ j=>if 0<P.cellsOf e∧len*P.cellsOf e≤cs.length then some (⟨.ep ((cs.drop (j.toNat*P.cellsOf e)).take (P.cellsOf e)),[],[]⟩,inR j len)else none
 |_,_,_=>none
theorem r0o {P:Program} {t:TypeId} {x y:Operand} {o:Oper} {ρ:Env} {H:a0o} {idx:Nat} {sx sj:SV} {ef:Eff} {b:Bool} (ho:o.op= .indexAddr t x y)(hx:a0Y ρ x=some sx)(hy:a0Y ρ y=some sj)(h:w0h P t sx sj H=some (ef,b))(hb:b=true):a0Z P o ρ H idx=some ef:=by
 unfold w0h at h
 unfold a0Z a0k a0w
 simp only[ho,hx,hy]
 split at h
 ·rename_i e n k cs k' j hu
  rw[hu]
  simp only
  split at h
  ·rename_i hk
   cases h
   have:=f0Q.1 hb
   rw[if_pos hk.1]
   unfold B0q
   rw[if_pos ⟨hk.2,this⟩]
  ·cases h
 ·rename_i e i k' j hu
  rw[hu]
  simp only
  split at h
  ·rename_i n k e2 cs hH
   rw[hH]
   simp only
   split at h
   ·rename_i hk
    cases h
    have:=f0Q.1 hb
    rw[if_pos ⟨hk.1,hk.2,this⟩]
   ·cases h
  ·cases h
 ·rename_i e bb off n k k' j hu
  rw[hu]
  simp only
  split at h
  ·rename_i hk
   cases h
   have:=f0Q.1 hb
   rw[if_pos ⟨hk.1,hk.2,this⟩]
  ·cases h
 ·rename_i len e bb off k' j hu
  rw[hu]
  simp only
  split at h
  ·rename_i hk
   cases h
   have:=f0Q.1 hb
   rw[if_pos ⟨this.1,this.2,hk⟩]
  ·cases h
 ·rename_i len e cs k' j hu
  rw[hu]
  simp only
  split at h
  ·rename_i hk
   cases h
   have hj:=f0Q.1 hb
   have:(j.toNat+1)*P.cellsOf e≤cs.length:=aV (aR _ (by omega)) hk.2
   rw[if_pos ⟨hj.1,hj.2,this,hk.1⟩]
  ·cases h
 ·cases h
def v0g(P:Program)(t:TypeId)(sx:SV)(ρ:Env)(lo hi:Option Operand):Option (Eff×Bool):=
 match P.underlying t,sx with
 |some (.slice e), .lst n k cs=>match g0t ρ lo 0,g0t ρ hi (n:Int)with
  |some l,some h=>if k=P.cellsOf e∧0<k then some (⟨.lst (h.toNat-l.toNat) k ((cs.take (h.toNat*k)).drop (l.toNat*k)),[],[]⟩,inS l h n)else none
  |_,_=>none
 |some .string, .str s=>match g0t ρ lo 0,g0t ρ hi (s.length:Int)with
  |some l,some h=>some (⟨.str ((s.take h.toNat).drop l.toNat),[],[]⟩,inS l h s.length)
  |_,_=>none
 |_,_=>none
theorem q0B {P:Program} {t:TypeId} {x:Operand} {lo hi:Option Operand} {o:Oper} {ρ:Env} {H:a0o} {idx:Nat} {sx:SV} {ef:Eff} {b:Bool} (ho:o.op= .slice t x lo hi none)(hx:a0Y ρ x=some sx)(h:v0g P t sx ρ lo hi=some (ef,b))(hb:b=true):a0Z P o ρ H idx=some ef:=by
 unfold v0g at h
 unfold a0Z a0k
 simp only[ho,hx]
 split at h
 ·rename_i e n k cs hu
  rw[hu]
  simp only
  split at h
  ·rename_i l hh h1 h2
   rw[h1,h2]
   simp only
   split at h
   ·rename_i hk
    cases h
    have:=p0X.1 hb
    rw[if_pos hk.1]
    unfold v0h
    rw[if_pos ⟨hk.2,this⟩]
   ·cases h
  ·cases h
 ·rename_i s hu
  rw[hu]
  simp only
  split at h
  ·rename_i l hh h1 h2
   rw[h1,h2]
   simp only
   cases h
   have:=p0X.1 hb
   rw[if_pos ⟨this.1,this.2.1,by omega⟩]
  ·cases h
 ·cases h
def B0t(op:BinOp)(a b:SV):Option (SV×Bool):=
 match op,a,b with
 | .quo, .int k x, .int k' y=>if k=k' then some (.int k (k.wrap (x.tdiv y)),nz y)else none
 | .rem, .int k x, .int k' y=>if k=k' then some (.int k (x.tmod y),nz y)else none
 | .shl, .int k x, .int _ y=>some (.int k (k.wrap (x*2^(min y.toNat k.bits))),sh y)
 | .shr, .int k x, .int _ y=>some (.int k (x.fdiv (2^(min y.toNat k.bits))),sh y)
 | .add, .str s, .str t=>some (.str (s++t),room (s.length+t.length))
 |_,_,_=>none
theorem u0H {bt:Bool} {op:BinOp} {a b v:SV} {c:Bool} (h:B0t op a b=some (v,c))(hc:c=true):h0n bt op a b=some v:=by
 unfold B0t at h
 split at h
 ·split at h
  ·rename_i hk;cases h;simp only[h0n];rw[if_pos hk,if_neg (y0s.1 hc)]
  ·cases h
 ·split at h
  ·rename_i hk;cases h;simp only[h0n];rw[if_pos hk,if_neg (y0s.1 hc)]
  ·cases h
 ·cases h;simp only[h0n];rw[if_neg (by have:=y0l.1 hc;omega)]
 ·cases h;simp only[h0n];rw[if_neg (by have:=y0l.1 hc;omega)]
 ·cases h;simp only[h0n];rw[if_pos (t0k.1 hc)]
 ·cases h
def B0l(P:Program)(t:TypeId):Bool:=match P.underlying t with
 |some (.int _)=>true
 |some .bool=>true
 |some .string=>true
 |some (.slice _)=>true
 |_=>false
def p0M(P:Program)(o:Oper)(ρ:Env)(H:a0o)(idx:Nat):Option (Eff×Bool):=
 match o.op with
 | .indexAddr t x y=>match a0Y ρ x,a0Y ρ y with
  |some sx,some sj=>w0h P t sx sj H
  |_,_=>none
 | .slice t x lo hi none=>match a0Y ρ x with
  |some sx=>v0g P t sx ρ lo hi
  |none=>none
 | .index t x i=>match P.underlying t,a0Y ρ x,a0Y ρ i with
  |some .string,some (.str s),some (.int _ j)=>some (⟨.int .u8 (s.getD j.toNat 0).toNat,[],[]⟩,inR j s.length)
  |some (.array n e),some (.agg cs),some (.int _ j)=>bif B0l P e&&(Nat.beq (P.cellsOf e) 1&&Nat.ble n cs.length)then some (⟨(cs.drop (j.toNat*1)).headD .undef,[],[]⟩,inR j n)else none
  |_,_,_=>none
 | .binOp op t x y _=>match a0Y ρ x,a0Y ρ y with
  |some a,some b=>match B0t op a b with
   |some (v,c)=>some (⟨v,[],[]⟩,c)
   |none=>none
  |_,_=>none
 | .makeSlice t x y=>match P.underlying t,a0Y ρ x,a0Y ρ y with
  |some (.slice e),some (.int _ l),some (.int _ c)=>match m0V P e with
   |some zs=>if i0l P e (P.cellsOf e)=true∧b0x zs=true then some (⟨.vc idx,[],[(idx, .vec l.toNat (P.cellsOf e) e (List.replicate l.toNat zs).flatten)]⟩,mk l c)else none
   |none=>none
  |_,_,_=>none
 | .load t x=>match a0Y ρ x with
  |some (.ptr i off)=>match H[i]? with
   |some (.vec n k e cs)=>match P.underlying t with
    |some (.int _)=>some (⟨(cs.drop off).headD .undef,[i],[]⟩,Nat.blt off cs.length)
    |some .bool=>some (⟨(cs.drop off).headD .undef,[i],[]⟩,Nat.blt off cs.length)
    |some .string=>some (⟨(cs.drop off).headD .undef,[i],[]⟩,Nat.blt off cs.length)
    |some (.slice _)=>some (⟨(cs.drop off).headD .undef,[i],[]⟩,Nat.blt off cs.length)
    |_=>none
   |_=>none
  |_=>none
 | .store t x y=>match a0Y ρ x,(a0Y ρ y).bind SV.cells? with
  |some (.ptr i off),some ps=>match H[i]? with
   |some (.vec n k e cs)=>if ps.length=P.cellsOf t∧0<ps.length∧b0x ps=true then some (⟨.undef,[i],[(i, .vec n k e (splice cs off ps))]⟩,Nat.ble (off+ps.length) cs.length)else none
   |_=>none
  |_,_=>none
 | .convert src dst x=>match P.underlying src,P.underlying dst,a0Y ρ x with
  |some .string,some (.slice e),some (.str s)=>match P.underlying e with
   |some (.int .u8)=>some (⟨.lst s.length 1 (s.map h0c),[],[]⟩,true)
   |_=>none
  |some (.slice e),some .string,some s=>match P.underlying e,t0e 1 s H with
   |some (.int .u8),some (_,cs,rd)=>if j0d P src s=true then some (⟨.str (cs.map byteOf),rd,[]⟩,cs.all l0U)else none
   |some (.int .i32),some (_,cs,rd)=>if j0d P src s=true then some (⟨.str (cs.flatMap runeB),rd,[]⟩,cs.all j0U)else none
   |_,_=>none
  |_,_,_=>none
 | .call c=>match c.callee with
  | .builtin .append=>s0S P c ρ H idx
  | .builtin .copy=>match w0E P c ρ H with
   |some ef=>some (ef,true)
   |none=>none
  |_=>none
 |_=>none
theorem l0L {P:Program} {o:Oper} {ρ:Env} {H:a0o} {idx:Nat} {ef:Eff} {b:Bool} (h:p0M P o ρ H idx=some (ef,b))(hb:b=true):a0Z P o ρ H idx=some ef:=by
 unfold p0M at h
 split at h
 ·rename_i t x y ho
  split at h
  ·rename_i sx sj h1 h2
   exact r0o ho h1 h2 h hb
  ·cases h
 ·rename_i t x lo hi ho
  split at h
  ·rename_i sx h1
   exact q0B ho h1 h hb
  ·cases h
 ·rename_i t x i ho
  split at h
  ·rename_i s k j h1 h2 h3
   cases h
   obtain⟨q1,q2⟩:=f0Q.1 hb
   unfold a0Z a0k
   simp only[ho,h1,h2,h3]
   rw[if_pos q1]
   have hl:j.toNat<s.length:=by omega
   rw[ae hl]
   simp only[av,ae hl,bJ]
  ·rename_i n e cs k j h1 h2 h3
   cases h4:(B0l P e&&(Nat.beq (P.cellsOf e) 1&&Nat.ble n cs.length))with
   |false=>rw[h4]at h;cases h
   |true=>
    rw[h4]at h
    simp only[cond_true,ai,aP]at h
    obtain⟨rfl,rfl⟩:=h
    simp only[ac]at h4
    obtain⟨p1,p2,p3⟩:=h4
    have p2:=af p2
    have p3:=aq p3
    obtain⟨q1,q2⟩:=f0Q.1 hb
    unfold a0Z a0k
    simp only[ho,h1,h2,h3]
    rw[if_pos ⟨q1,q2⟩,p2]
    have hl:j.toNat*1<cs.length:=by omega
    rw[bl hl]
    unfold B0l at p1
    simp only[b0T,List.headD]
    split at p1<;>first|(rename_i hu;simp only[hu];done)|(rename_i hu;simp only[hu];rfl)|cases p1
  ·cases h
 ·rename_i op t x y tt ho
  split at h
  ·rename_i a b' h1 h2
   split at h
   ·rename_i v c h3
    cases h
    unfold a0Z a0k
    simp only[ho,h1,h2,u0H h3 hb]
   ·cases h
  ·cases h
 ·rename_i t x y ho
  split at h
  ·rename_i e k1 l k2 c h1 h2 h3
   split at h
   ·rename_i zs h4
    split at h
    ·rename_i h5
     cases h
     obtain⟨q1,q2,q3⟩:=A0A.1 hb
     unfold a0Z a0k a0w
     simp only[ho,h1,h2,h3,h4]
     rw[if_pos ⟨h5.1,q1,q2,q3,h5.2⟩]
    ·cases h
   ·cases h
  ·cases h
 ·rename_i t x ho
  split at h
  ·rename_i i off h1
   split at h
   ·rename_i n k e cs h2
    have fin: ∀(ut:_),P.underlying t=some ut→(∀f,ut≠ .struct f)→(∀m e,ut≠ .array m e)→Nat.blt off cs.length=true→a0Z P o ρ H idx=some ⟨(cs.drop off).headD .undef,[i],[]⟩:=by
     intro ut hu hn1 hn2 hlt
     unfold a0Z a0k a0w
     simp only[ho,h1,h2,aa,d0E]
     have hl:off<cs.length:=bY (aq (by simpa [Nat.blt]using hlt))
     rw[bl hl]
     have hcv:b0T P t (cs[off]::cs.drop (off+1))=some cs[off]:=by
      unfold b0T
      rw[hu]
      cases ut<;>first|rfl|exact absurd rfl (hn1 _)|exact absurd rfl (hn2 _ _)
     rw[hcv]
     rfl
    split at h
    ·rename_i hu;cases h;exact fin _ hu (fun _=>by simp) (fun _ _=>by simp) hb
    ·rename_i hu;cases h;exact fin _ hu (fun _=>by simp) (fun _ _=>by simp) hb
    ·rename_i hu;cases h;exact fin _ hu (fun _=>by simp) (fun _ _=>by simp) hb
    ·rename_i hu;cases h;exact fin _ hu (fun _=>by simp) (fun _ _=>by simp) hb
    ·cases h
   ·cases h
  ·cases h
 ·rename_i t x y ho
  split at h
  ·rename_i i off ps h1 h2
   split at h
   ·rename_i n k e cs h3
    split at h
    ·rename_i h4
     cases h
     have hle:off+ps.length≤cs.length:=aq hb
     unfold a0Z a0k a0w
     simp only[ho,h1,h2,h3,d0E]
     rw[if_pos ⟨h4.1,h4.2.1,hle,fun _=>h4.2.2⟩]
     rfl
    ·cases h
   ·cases h
  ·cases h
 ·rename_i src dst x ho
  split at h
  ·rename_i e s h1 h2 h3
   split at h
   ·rename_i he
    cases h
    unfold a0Z a0k a0w
    simp only[ho,h1,h2,h3,he,r0y]
   ·cases h
  ·rename_i e s h1 h2 h3
   split at h
   ·rename_i m cs rd he hsc
    split at h
    ·rename_i hty
     cases h
     unfold a0Z a0k a0w
     simp only[ho,h1,h2,h3,he,hsc,r0y]
     rw[if_pos ⟨hty,hb⟩]
    ·cases h
   ·rename_i m cs rd he hsc
    split at h
    ·rename_i hty
     cases h
     unfold a0Z a0k a0w
     simp only[ho,h1,h2,h3,he,hsc,r0y]
     rw[if_pos ⟨hty,hb⟩]
    ·cases h
   ·cases h
  ·cases h
 ·rename_i c ho
  split at h
  ·rename_i hc
   unfold a0Z a0k a0w
   simp only[ho,hc,w0I]
   exact q0m h hb
  ·rename_i hc
   split at h
   ·rename_i ef2 he
    cases h
    unfold a0Z a0k a0w
    simp only[ho,hc,w0I]
    exact he
   ·cases h
  ·cases h
 ·cases h
section
variable {F : Fr} {P : Program} {L : LE} {H : a0o} {Q : h0f} {m : Option Nat} {ops : Array Oper} {p : Nat} {tr : List (List Nat × List Nat)}
def p0E(P:Program)(m:Option Nat)(ops:Array Oper)(p:Nat)(tr:List (List Nat×List Nat))(L:LE)(H:a0o):Option (Option Nat×Eff×Bool×List (List Nat×List Nat)):=
 match ops.toList[p]? with
 |none=>none
 |some o=>match c0P ops (b0s L) o with
  |some true=>bif c0B o then none else match p0M P o (b0s L) H (y0y m ops p H)with
   |some (ef,c)=>bif okM m ops p o ef tr H then some (o.dst,ef,c,trM m ops p o ef tr)else none
   |none=>none
  |_=>none
theorem RJ.rel {d:Option Nat} {ef ef':Eff} {c:Bool} {tr2:List (List Nat×List Nat)} {H2:a0o} (h:p0E P m ops p tr L H=some (d,ef,c,tr2))(hc:c=true)(hn:c=true→ef=ef')(hH:b0M H ef'.wr=H2)(k:RJ F P m ops (p+1) tr2 (g0e L d ef'.v) H2 Q):RJ F P m ops p tr L H Q:=by
 unfold p0E at h
 have hn':=hn hc
 subst hn'
 subst hH
 split at h
 ·cases h
 ·rename_i o ho
  split at h
  ·rename_i hg
   cases hcc:c0B o with
   |true=>rw[hcc]at h;cases h
   |false=>
    rw[hcc]at h
    simp only[cond_false]at h
    split at h
    ·rename_i ef2 c2 he
     cases hok:okM m ops p o ef2 tr H with
     |false=>rw[hok]at h;cases h
     |true=>
      rw[hok]at h
      simp only[cond_true,ai,aP]at h
      obtain⟨rfl,rfl,rfl,rfl⟩:=h
      exact RJ.step ho hg hcc (l0L he hc) hok k
    ·cases h
  ·cases h
def p0L(P:Program)(o:Oper)(ρ:Env)(H:a0o)(idx:Nat):Option (Eff×Bool):=
 match p0M P o ρ H idx with
 |some r=>some r
 |none=>(a0Z P o ρ H idx).map fun ef=>(ef,true)
theorem o0I {P:Program} {o:Oper} {ρ:Env} {H:a0o} {idx:Nat} {ef:Eff} {b:Bool} (h:p0L P o ρ H idx=some (ef,b))(hb:b=true):a0Z P o ρ H idx=some ef:=by
 unfold p0L at h
 split at h
 ·rename_i r hr;cases h;exact l0L hr hb
 ·cases he:a0Z P o ρ H idx with
  |none=>rw[he]at h;cases h
  |some e=>rw[he]at h;cases h;rfl
def y0o(P:Program)(base:Nat)(ops:Array Oper)(p:Nat)(tr:List (List Nat×List Nat))(L:LE)(H:a0o):Option (Option Nat×Eff×Bool×List (List Nat×List Nat)):=
 match ops.toList[p]? with
 |none=>none
 |some o=>match c0P ops (b0s L) o with
  |some true=>bif c0B o then none else bif d0F o then(match p0L P o (b0s L) H (e0T ops base p)with
   |some (ef,c)=>match o0n ef (e0T ops base p) H with
    |some efz=>bif okM (some base) ops p o efz tr H then some (o.dst,efz,c,trM (some base) ops p o efz tr)else none
    |none=>none
   |none=>none)else none
  |_=>none
theorem RJ.relZ {base:Nat} {d:Option Nat} {ef ef':Eff} {c:Bool} {tr2:List (List Nat×List Nat)} {H2:a0o} (h:y0o P base ops p tr L H=some (d,ef,c,tr2))(hc:c=true)(hn:c=true→ef=ef')(hH:b0M H ef'.wr=H2)(k:RJ F P (some base) ops (p+1) tr2 (g0e L d ef'.v) H2 Q):RJ F P (some base) ops p tr L H Q:=by
 unfold y0o at h
 have hn':=hn hc
 subst hn'
 subst hH
 split at h
 ·cases h
 ·rename_i o ho
  split at h
  ·rename_i hg
   cases hcc:c0B o with
   |true=>rw[hcc]at h;cases h
   |false=>
    rw[hcc]at h
    cases hcr:d0F o with
    |false=>rw[hcr]at h;cases h
    |true=>
     rw[hcr]at h
     simp only[cond_false,cond_true]at h
     split at h
     ·rename_i ef2 c2 he
      split at h
      ·rename_i efz hz
       cases hok:okM (some base) ops p o efz tr H with
       |false=>rw[hok]at h;cases h
       |true=>
        rw[hok]at h
        simp only[cond_true,ai,aP]at h
        obtain⟨rfl,rfl,rfl,rfl⟩:=h
        intro hl
        rw[d0N ho]
        simp only[okM,ac,ba,List.all_eq_true]at hok
        obtain⟨⟨k1,k2⟩,k3⟩:=hok
        have k3': ∀x∈efz.wr,x.1<H.length:=fun x hx=>bY (aq (by simpa [Nat.blt]using k3 x hx))
        subst hl
        refine⟨efz, ?_,k1, ?_⟩
        ·unfold opD
         rw[hg]
         simp only
         rw[hcc,if_neg (by simp)]
         refine⟨.inr ⟨?_,hcr⟩,fun _=> ?_,k3'⟩
         ·unfold j0O
          rw[o0I he hc]
          exact hz
         ·rcases k2 with k2|k2
          ·rw[hcr]at k2;cases k2
          ·unfold s0t at k2
           split at k2
           ·assumption
           ·cases k2
        ·have:=k (by simp[trM])
         rw[←m0e _ _ k3',c0K]
         exact this
      ·cases h
     ·cases h
  ·cases h
/-! Cuts. -/
def a0g {S X:Type} (k:S→Option X):S⊕X→Option X
 | .inl s=>k s
 | .inr x=>some x
theorem a0f {α β:Type} {m:Option α} {k:α→Option β} {r:β} (h:m.bind k=some r): ∃y,m=some y∧k y=some r:=by
 cases m with
 |none=>cases h
 |some y=>exact⟨y,rfl,h⟩
theorem condT {α:Type} {b:Bool} {x y:α} {r:α} (hb:b=true)(h:(bif b then x else y)=r):x=r:=by subst hb;exact h
theorem condF {α:Type} {b:Bool} {x y:α} {r:α} (hb:b=false)(h:(bif b then x else y)=r):y=r:=by subst hb;exact h
theorem b0y {α:Type} {b:Bool} {x:Option α} {r:α} (h:(bif b then x else none)=some r):b=true∧x=some r:=by
 cases b with
 |true=>exact⟨rfl,h⟩
 |false=>cases h
def cutN {S:Type} (F:Fr)(R:S→LE×a0o)(st:S):h0f:=fun e a w=>e= .normal∧Sees F (R st).1 (R st).2 a w
def cutX {S X:Type} (F:Fr)(R:S→LE×a0o)(Q:h0f)(x:S⊕X):h0f:=fun e a w=>match x with
 | .inl st=>e= .normal∧Sees F (R st).1 (R st).2 a w
 | .inr _=>e≠ .normal∧Q e a w
theorem J.cutN {S:Type} {c1 c2:Code} (R:S→LE×a0o)(st:S)(h1:J F P c1 L H (cutN F R st))(h2:J F P c2 (R st).1 (R st).2 Q):J F P (.seq c1 c2) L H Q:=fun hin a w hs=>by
 simp only[d0e,ac]at hin
 refine wp_seq (Code.wp_mono (fun e a' w' hq=> ?_) (h1 hin.1 a w hs))
 obtain⟨rfl,hq⟩:=hq
 exact h2 hin.2 a' w' hq
theorem J.cutX {S X:Type} {c1 c2:Code} (R:S→LE×a0o)(x:S⊕X)(h1:J F P c1 L H (cutX F R Q x))(h2: ∀st,x= .inl st→J F P c2 (R st).1 (R st).2 Q):J F P (.seq c1 c2) L H Q:=fun hin a w hs=>by
 simp only[d0e,ac]at hin
 refine wp_seq (Code.wp_mono (fun e a' w' hq=> ?_) (h1 hin.1 a w hs))
 cases x with
 |inl st=>
  obtain⟨rfl,hq⟩:=hq
  exact h2 st rfl hin.2 a' w' hq
 |inr r=>
  obtain⟨hne,hq⟩:=hq
  cases e<;>first|exact absurd rfl hne|exact hq
theorem PJ.cutN {S:Type} {R:S→LE×a0o} {st:S} (ts:List Nat)(hL:h0O ts L=(R st).1)(hH:H=(R st).2):PJ F (cutN F R st) .normal L H:=fun a w hs=>by
 subst hH
 exact⟨rfl,by rw[←hL];exact hs.keep (i0G ts L)⟩
theorem PJ.cutXl {S X:Type} {R:S→LE×a0o} {st:S} (ts:List Nat)(hL:h0O ts L=(R st).1)(hH:H=(R st).2):PJ F (cutX (X:=X) F R Q (.inl st)) .normal L H:=fun a w hs=>by
 subst hH
 exact⟨rfl,by rw[←hL];exact hs.keep (i0G ts L)⟩
theorem PJ.cutXr {S X:Type} {R:S→LE×a0o} {x:X} {e:Exit} (hne:e≠ .normal)(h:PJ F Q e L H):PJ F (cutX F R Q (.inr x:S⊕X)) e L H:=fun a w hs=>⟨hne,h a w hs⟩
def p0P {S O:Type} (F:Fr)(R:S→LE×a0o)(Q:h0f)(o:O)(x:S⊕O):h0f:=fun e a w=>match x with
 | .inl s'=>e= .normal∧Sees F (R s').1 (R s').2 a w
 | .inr o'=>e≠ .normal∧(o'=o→Q e a w)
theorem J.loopR {S O:Type} {c:Code} {step:S→Option (S⊕O)} {n:Nat} {s0:S} {o:O} (R:S→LE×a0o)(ho:a0s step n s0=some o)(ts:List Nat)(hL:h0O ts L=(R s0).1)(hH:H=(R s0).2)
  (body: ∀s x,step s=some x→J F P c (R s).1 (R s).2 (p0P F R Q o x)):J F P (.loop c) L H Q:=
 J.keep ts hL (J.loop R ho rfl hH body)
theorem PJ.loopNext {S O:Type} {R:S→LE×a0o} {o:O} {s':S} (ts:List Nat)(hL:h0O ts L=(R s').1)(hH:H=(R s').2):PJ F (p0P F R Q o (.inl s')) .normal L H:=fun a w hs=>by
 subst hH
 exact⟨rfl,by rw[←hL];exact hs.keep (i0G ts L)⟩
theorem PJ.loopOut {S O:Type} {R:S→LE×a0o} {o o':O} {e:Exit} (hne:e≠ .normal)(h:o'=o→PJ F Q e L H):PJ F (p0P F R Q o (.inr o')) e L H:=fun a w hs=>⟨hne,fun he=>h he a w hs⟩
def h0b(m:Option Nat)(ops:Array Oper)(p:Nat)(tr:List (List Nat×List Nat))(L:LE)(rd:List Nat)(wr:List (Nat×Ent):=[]):Option (Option Nat×FuncId×List SV×List (List Nat×List Nat)):=
 match ops.toList[p]? with
 |none=>none
 |some o=>match c0P ops (b0s L) o with
  |some true=>match g0s (b0s L) o with
   |some (f,args)=>bif(match m with|none=>true|some base=>i0Z o (k0H o ⟨.undef,rd,wr⟩) (i0H ops base p o ⟨.undef,rd,wr⟩) tr 0)then some (o.dst,f,args,trM m ops p o ⟨.undef,rd,wr⟩ tr)else none
   |none=>none
  |_=>none
theorem e0V {d:Option Nat} {f:FuncId} {args:List SV} {rd:List Nat} {wr:List (Nat×Ent)} {tr2:List (List Nat×List Nat)} (h:h0b m ops p tr L rd wr=some (d,f,args,tr2)):
  ∃o,ops.toList[p]?=some o∧c0P ops (b0s L) o=some true∧g0s (b0s L) o=some (f,args)∧o.dst=d∧trM m ops p o ⟨.undef,rd,wr⟩ tr=tr2∧(∀base,m=some base→i0Z o (k0H o ⟨.undef,rd,wr⟩) (i0H ops base p o ⟨.undef,rd,wr⟩) tr 0=true):=by
 unfold h0b at h
 split at h
 ·cases h
 ·rename_i o ho
  split at h
  ·rename_i hg
   split at h
   ·rename_i f2 args2 hc
    cases hk:(match m with|none=>true|some base=>i0Z o (k0H o ⟨.undef,rd,wr⟩) (i0H ops base p o ⟨.undef,rd,wr⟩) tr 0)with
    |false=>rw[hk]at h;cases h
    |true=>
     rw[hk]at h
     simp only[cond_true,ai,aP]at h
     obtain⟨rfl,rfl,rfl,rfl⟩:=h
     exact⟨o,ho,hg,hc,rfl,rfl,fun base hb=>by subst hb;exact hk⟩
   ·cases h
  ·cases h
theorem s0Z {o:Oper} {v:SV} {rd:List Nat} {wr:List (Nat×Ent)} :trM m ops p o ⟨v,rd,wr⟩ tr=trM m ops p o ⟨.undef,rd,wr⟩ tr:=by cases m<;>rfl
mutual
theorem v0s {m:Nat} : ∀ {s:SV},SV.refs 0 s=true→SV.refs m s=true
 | .agg cs,h=>by simp only[SV.refs]at h⊢;exact l0G h
 | .tup cs,h=>by simp only[SV.refs]at h⊢;exact l0G h
 | .ptr i off,h=>by simp[SV.refs]at h
 | .vc i,h=>by simp[SV.refs]at h
 | .sl i off n k,h=>by simp[SV.refs]at h
 | .mp i,h=>by simp[SV.refs]at h
 | .fn q a b,h=>by simp only[SV.refs,ac]at h⊢;exact⟨l0G h.1,l0G h.2⟩
 | .undef,_=>rfl
 | .bool _,_=>rfl
 | .int _ _,_=>rfl
 | .str _,_=>rfl
 | .nl,_=>rfl
 | .lst _ _ _,_=>rfl
 | .ep _,_=>rfl
 | .nilp,_=>rfl
theorem l0G {m:Nat} : ∀ {cs:List SV},SV.refsL 0 cs=true→SV.refsL m cs=true
 | [],_=>rfl
 |c::cs,h=>by simp only[SV.refsL,ac]at h⊢;exact⟨v0s h.1,l0G h.2⟩
end
theorem Sel.nil {H:a0o} {g:Nat→Nat} :Sel H g []:=⟨fun j en hj=>by simp at hj,fun i j hi=>by simp at hi,fun j en hj=>by simp at hj⟩
theorem r0W {g:Nat→Nat} {s:SV} (h:SV.refs 0 s=true):SV.rn g s=s:=by
 rw[g0y (f:=g) (g:=fun j=>j) (m:=0) (fun i hi=>by omega) s h,x0y]
theorem x0z {g:Nat→Nat} {s:List SV} (h:SV.refsL 0 s=true):SV.rnL g s=s:=by
 rw[g0P (f:=g) (g:=fun j=>j) (m:=0) (fun i hi=>by omega) s h,n0R]
theorem RJ.call0 {d:Option Nat} {f:FuncId} {args args':List SV} {v:SV} {tr2:List (List Nat×List Nat)} (h:h0b m ops p tr L []=some (d,f,args,tr2))(hr:SV.refsL 0 args=true)(hle:LeL args args')(hs:SC P f args' [] v [])(hv:SV.refs 0 v=true)
  (k:RJ F P m ops (p+1) tr2 (g0e L d v) H Q):RJ F P m ops p tr L H Q:=by
 obtain⟨o,ho,hg,hc,rfl,rfl,hk⟩:=e0V h
 refine RJ.callD (g:=fun j=>j) (args0:=args) (H0:=[]) (v0:=v) ho hg hc (by rw[x0z hr]) Sel.nil (fun en hm=>by cases hm) hr hv (SC.weak hs hle) hk ?_
 rw[r0W hv,bX,List.range_zero,ay,s0Z]
 exact k
theorem RJ.callL {d:Option Nat} {f:FuncId} {args args0 args1 args':List SV} {v:SV} {tr2:List (List Nat×List Nat)} {H0:a0o} (σ:List Nat)(h:h0b m ops p tr L σ=some (d,f,args,tr2))(ha:args=SV.rnL (b0Z σ) args0)(hl:σ.length=H0.length)(hg:σ.map (fun i=>H[i]?)=H0.map (fun en=>some (Ent.rn (b0Z σ) en)))(hn:σ.Nodup)(hr0:H0.all (Ent.refs H0.length)=true)
  (hlive:H0.all g0K=true) (hr:SV.refsL H0.length args0=true) (hfz:SV.fzAL H0 args0=args1) (hle:LeL args1 args') (hs:SC P f args' [] v []) (hsc:l0C v=true) (hv:SV.refs 0 v=true)
  (k:RJ F P m ops (p+1) tr2 (g0e L d v) H Q):RJ F P m ops p tr L H Q:=by
 obtain⟨o,ho,hgd,hc,rfl,rfl,hk⟩:=e0V h
 have hσ:(List.range H0.length).map (b0Z σ)=σ:=by
  apply bC
  intro i
  rw[am]
  by_cases hi:i<H0.length
  ·rw[bG hi]
   simp only[aI,b0Z,av]
   rw[ae (by omega)];rfl
  ·rw[aw (by simpa using hi),aw (by omega)];rfl
 have hv':SV.refs H0.length v=true:=v0s hv
 refine RJ.callD (g:=b0Z σ) (args0:=args0) (H0:=H0) (v0:=v) ho hgd hc ha (Sel.of σ hl hg hn hr0) (fun en hm=>List.all_eq_true.1 hlive en hm) hr hv' (SC.lend hsc (by rw[hfz];exact SC.weak hs hle)) (fun base hb=> ?_) ?_
 ·rw[hσ,r0W hv]
  exact hk base hb
 ·rw[r0W hv,hσ,s0Z]
  exact k
theorem RJ.callM {base:Nat} {d:Option Nat} {f:FuncId} {args args':List SV} {v0 v:SV} {en0:Ent} {tr2:List (List Nat×List Nat)} {H2:a0o} (idx:Nat)(hidx:e0T ops base p=idx)(hres:s0t (H[idx]?)=true)
  (h:h0b (some base) ops p tr L [] [(idx,en0)]=some (d,f,args,tr2)) (hr:SV.refsL 0 args=true) (hle:LeL args args') (hs:SC P f args' [] v0 [en0]) (hv:SV.rn (fun _=>idx) v0=v) (hH:H.set idx en0=H2)
  (kk:RJ F P (some base) ops (p+1) tr2 (g0e L d v) H2 Q) (hE: ∀g,Ent.rn g en0=en0:=by exact fun _=>rfl):RJ F P (some base) ops p tr L H Q:=by
 obtain⟨o,ho,hg,hc,rfl,rfl,hk⟩:=e0V h
 subst hv;subst hH;subst hidx
 intro hl
 rw[d0N ho]
 subst hl
 have hres':H[e0T ops base tr.length]?=some .res:=by
  unfold s0t at hres
  split at hres
  ·assumption
  ·cases hres
 refine⟨⟨SV.rn (fun _=>e0T ops base tr.length) v0,[],[(e0T ops base tr.length,en0)]⟩, ?_,hk base rfl, ?_⟩
 ·unfold opD
  rw[hg]
  simp only
  rw[l0T hc,if_pos rfl]
  exact .inr (.inl ⟨f,args,v0,en0,hc,hr,SC.weak hs hle,⟨hres',hE⟩,rfl⟩)
 ·have:=kk (by simp[trM])
  rw[c0K]
  exact this
theorem RJ.callG {d:Option Nat} {f:FuncId} {args args0 args':List SV} {v0 v:SV} {tr2:List (List Nat×List Nat)} {H0 H0' H2:a0o} (σ:List Nat)(h:h0b none ops p tr L []=some (d,f,args,tr2))(ha:args=SV.rnL (b0Z σ) args0)(hl:σ.length=H0.length)(hg:σ.map (fun i=>H[i]?)=H0.map (fun en=>some (Ent.rn (b0Z σ) en)))(hn:σ.Nodup)(hr0:H0.all (Ent.refs H0.length)=true)
  (hlive:H0.all g0K=true) (hr:SV.refsL H0.length args0=true) (hle:LeL args0 args') (hs:SC P f args' H0 v0 H0') (hle':Nat.ble H0.length H0'.length=true)
  (hv:SV.rn (gOf (b0Z σ) H0.length H.length) v0=v) (hH:d0Q (b0Z σ) H0.length H H0'=H2)
  (k:RJ F P none ops (p+1) tr2 (g0e L d v) H2 Q):RJ F P none ops p tr L H Q:=by
 obtain⟨o,ho,hgd,hc,rfl,rfl,hk⟩:=e0V h
 subst hv;subst hH
 refine RJ.call ho hgd hc ?_ k
 rw[ha]
 exact SC.frame (SC.weak hs hle) (Sel.of σ hl hg hn hr0) (fun en hm=>List.all_eq_true.1 hlive en hm) hr (aq hle')
end
end Go.Sy
