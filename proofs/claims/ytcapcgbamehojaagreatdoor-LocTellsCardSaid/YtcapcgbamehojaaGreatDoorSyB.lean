/-
 The second shadow machine, part 2: operations on shadow values, and that the model's operations do what they say.
-/
import Derived.Test.YtcapcgbamehojaaGreatDoorSyA
namespace Go.Sy
open Go Go.RowKit
set_option linter.unusedSimpArgs false
set_option linter.unusedVariables false
def k0n:Value→Option SV
 | .bool b=>some (.bool b)
 | .int k n=>some (.int k n)
 | .string s=>some (.str s.data.toList)
 | .slice none 0 0=>some .nl
 | .pointer none=>some .nilp
 |_=>none
structure GT where
 tab:Nat→Option (List SV)
def B0h [G:Inhabited GT](g:Nat):Option (List SV):=G.default.tab g
set_option linter.unusedSectionVars false
variable [Inhabited GT]
def a0Y(ρ:Nat→SV):Operand→Option SV
 | .tmp t=>some (ρ t)
 | .const v=>some ((k0n v).getD .undef)
 | .func f=>some (.fn (.func f) [] [])
 | .global g=>(B0h g).map .ep
def p0W(P:Program)(t:TypeId):Bool:=match P.underlying t with
 |some .bool=>true
 |_=>false
def h0n(bt:Bool)(op:BinOp)(a b:SV):Option SV:=
 match op with
 | .add=>match a,b with
  | .int k x, .int k' y=>if k=k' then some (.int k (k.wrap (x+y)))else none
  | .str s, .str t=>if u0O (s.length+t.length)then some (.str (s++t))else none
  |_,_=>none
 | .sub=>match a,b with
  | .int k x, .int k' y=>if k=k' then some (.int k (k.wrap (x-y)))else none
  |_,_=>none
 | .mul=>match a,b with
  | .int k x, .int k' y=>if k=k' then some (.int k (k.wrap (x*y)))else none
  |_,_=>none
 | .quo=>match a,b with
  | .int k x, .int k' y=>if k=k' then(if y=0 then none else some (.int k (k.wrap (x.tdiv y))))else none
  |_,_=>none
 | .rem=>match a,b with
  | .int k x, .int k' y=>if k=k' then(if y=0 then none else some (.int k (x.tmod y)))else none
  |_,_=>none
 | .and=>match a,b with
  | .int k x, .int k' y=>if k=k' then some (.int k (bits .and k x y))else none
  |_,_=>none
 | .or=>match a,b with
  | .int k x, .int k' y=>if k=k' then some (.int k (bits .or k x y))else none
  |_,_=>none
 | .xor=>match a,b with
  | .int k x, .int k' y=>if k=k' then some (.int k (bits .xor k x y))else none
  |_,_=>none
 | .andNot=>match a,b with
  | .int k x, .int k' y=>if k=k' then some (.int k (bits .andNot k x y))else none
  |_,_=>none
 | .shl=>match a,b with
  | .int k x, .int _ y=>if y<0 then none else some (.int k (k.wrap (x*2^(min y.toNat k.bits))))
  |_,_=>none
 | .shr=>match a,b with
  | .int k x, .int _ y=>if y<0 then none else some (.int k (x.fdiv (2^(min y.toNat k.bits))))
  |_,_=>none
 | .eql=>match a,b with
  | .int k x, .int k' y=>if k=k' then some (.bool (decide (x=y)))else none
  | .bool x, .bool y=>if bt then some (.bool (x==y))else none
  | .str s, .str t=>some (.bool (s==t))
  |_,_=>none
 | .neq=>match a,b with
  | .int k x, .int k' y=>if k=k' then some (.bool (decide (¬x=y)))else none
  | .bool x, .bool y=>if bt then some (.bool (x !=y))else none
  | .str s, .str t=>some (.bool (s !=t))
  |_,_=>none
 | .lss=>match a,b with
  | .int k x, .int k' y=>if k=k' then some (.bool (decide (x<y)))else none
  | .str s, .str t=>some (.bool (Op.bytesLess s t))
  |_,_=>none
 | .leq=>match a,b with
  | .int k x, .int k' y=>if k=k' then some (.bool (decide (x≤y)))else none
  | .str s, .str t=>some (.bool (Op.bytesLess s t||s==t))
  |_,_=>none
 | .gtr=>match a,b with
  | .int k x, .int k' y=>if k=k' then some (.bool (decide (x>y)))else none
  | .str s, .str t=>some (.bool !(Op.bytesLess s t||s==t))
  |_,_=>none
 | .geq=>match a,b with
  | .int k x, .int k' y=>if k=k' then some (.bool (decide (x≥y)))else none
  | .str s, .str t=>some (.bool !(Op.bytesLess s t))
  |_,_=>none
theorem i0M(s:ByteArray):s.toList=s.data.toList:=ByteArray.toList_eq s
theorem l0f {P:Program} {w:World} (s:Sem Unit)(t:Sem Value)(hs:s=pure ()):(do s;t:Sem Value).run P w=t.run P w:=by
 subst hs;rfl
theorem g0l {P:Program} {w:World} {op:BinOp} {t:TypeId} {x y:Operand} {k:IntKind} {a b:Int} {r:Value}
  (h:(binOp op t (.int k a) (.int k b)).run P w= .ok r w):(do eqGuard op t x y (.int k a) (.int k b);binOp op t (.int k a) (.int k b):Sem Value).run P w= .ok r w:=by
 rw[l0f _ _ (by cases op<;>rfl)];exact h
theorem t0P {P:Program} {w:World} {op:BinOp} {t:TypeId} {x y:Operand} {a b:Bool} {r:Value}
  (h:(binOp op t (.bool a) (.bool b)).run P w= .ok r w):(do eqGuard op t x y (.bool a) (.bool b);binOp op t (.bool a) (.bool b):Sem Value).run P w= .ok r w:=by
 rw[l0f _ _ (by cases op<;>rfl)];exact h
theorem q0h {P:Program} {w:World} {op:BinOp} {t:TypeId} {x y:Operand} {a b:ByteArray} {r:Value}
  (h:(binOp op t (.string a) (.string b)).run P w= .ok r w):(do eqGuard op t x y (.string a) (.string b);binOp op t (.string a) (.string b):Sem Value).run P w= .ok r w:=by
 rw[l0f _ _ (by cases op<;>rfl)];exact h
def PureV(P:Program)(w:World)(K:Nat→Nat)(D:DM)(s:Sem Value)(c:SV):Prop:=
 ∃r,s.run P w= .ok r w∧Rep w K D r c
section
variable {P : Program} {w : World} {K : Nat → Nat} {D : DM}
theorem PureV.int {s:Sem Value} {k:IntKind} {n:Int} (h:s.run P w= .ok (.int k n) w):PureV P w K D s (.int k n):=⟨_,h, .int _ _⟩
theorem PureV.bool {s:Sem Value} {b:Bool} (h:s.run P w= .ok (.bool b) w):PureV P w K D s (.bool b):=⟨_,h, .bool _⟩
theorem PureV.str {s:Sem Value} {b:ByteArray} {l:List UInt8} (h:s.run P w= .ok (.string b) w)(hl:l=b.data.toList):PureV P w K D s (.str l):=by subst hl;exact⟨_,h, .str _⟩
end
theorem m0N {P:Program} {t:TypeId} (h:p0W P t=true):P.underlying t=some .bool:=by
 unfold p0W at h;split at h<;>first|assumption|cases h
theorem s0R {P:Program} {w:World} {K:Nat→Nat} {D:DM} {op:BinOp} {t:TypeId} {x y:Operand} {u v:Value} {a b c:SV}
  (hu:Rep w K D u a) (hv:Rep w K D v b) (h:h0n (p0W P t) op a b=some c):PureV P w K D (do eqGuard op t x y u v;binOp op t u v:Sem Value) c:=by
 cases op
 case add=>
  simp only[h0n]at h
  split at h
  ·cases hu;cases hv;split at h<;>cases h
   rename_i hk;subst hk
   exact .int (g0l (by simp[binOp,Op.intArith]))
  ·cases hu;cases hv;split at h<;>cases h
   rename_i hl
   unfold u0O at hl
   exact .str (q0h (by
    simp only[binOp,Op.stringOp]
    rw[if_neg (by simp[IntKind.max,IntKind.signed,IntKind.bits]at hl⊢;omega)];rfl)) (by simp)
  ·cases h
 case sub=>
  simp only[h0n]at h
  split at h
  ·cases hu;cases hv;split at h<;>cases h
   rename_i hk;subst hk
   exact .int (g0l (by simp[binOp,Op.intArith]))
  ·cases h
 case mul=>
  simp only[h0n]at h
  split at h
  ·cases hu;cases hv;split at h<;>cases h
   rename_i hk;subst hk
   exact .int (g0l (by simp[binOp,Op.intArith]))
  ·cases h
 case quo=>
  simp only[h0n]at h
  split at h
  ·cases hu;cases hv;split at h<;>try cases h
   rename_i hk;subst hk
   split at h<;>cases h
   rename_i hy
   exact .int (g0l (by simp[binOp,Op.intDiv,hy]))
  ·cases h
 case rem=>
  simp only[h0n]at h
  split at h
  ·cases hu;cases hv;split at h<;>try cases h
   rename_i hk;subst hk
   split at h<;>cases h
   rename_i hy
   exact .int (g0l (by simp[binOp,Op.intDiv,hy]))
  ·cases h
 case and=>
  simp only[h0n]at h
  split at h
  ·cases hu;cases hv;split at h<;>cases h
   rename_i hk;subst hk
   exact .int (g0l (by simp[binOp,intBits_and]))
  ·cases h
 case or=>
  simp only[h0n]at h
  split at h
  ·cases hu;cases hv;split at h<;>cases h
   rename_i hk;subst hk
   exact .int (g0l (by simp[binOp,intBits_or]))
  ·cases h
 case xor=>
  simp only[h0n]at h
  split at h
  ·cases hu;cases hv;split at h<;>cases h
   rename_i hk;subst hk
   exact .int (g0l (by simp[binOp,intBits_xor]))
  ·cases h
 case andNot=>
  simp only[h0n]at h
  split at h
  ·cases hu;cases hv;split at h<;>cases h
   rename_i hk;subst hk
   exact .int (g0l (by simp[binOp,intBits_andNot]))
  ·cases h
 case shl=>
  simp only[h0n]at h
  split at h
  ·cases hu;cases hv;split at h<;>cases h
   rename_i hy
   exact .int (by rw[l0f _ _ (show eqGuard .shl t x y _ _=pure ()from rfl)];simp[binOp,Op.shift,hy])
  ·cases h
 case shr=>
  simp only[h0n]at h
  split at h
  ·cases hu;cases hv;split at h<;>cases h
   rename_i hy
   exact .int (by rw[l0f _ _ (show eqGuard .shr t x y _ _=pure ()from rfl)];simp[binOp,Op.shift,hy])
  ·cases h
 case eql=>
  simp only[h0n]at h
  split at h
  ·cases hu;cases hv;split at h<;>cases h
   rename_i hk;subst hk
   exact .bool (g0l (by simp[binOp,Op.intCmp];rfl))
  ·cases hu;cases hv;split at h<;>cases h
   rename_i hb
   exact .bool (t0P (run_eql_bool _ _ _ _ (m0N hb)))
  ·cases hu;cases hv;cases h
   exact .bool (q0h (by simp[binOp,Op.stringOp,i0M]))
  ·cases h
 case neq=>
  simp only[h0n]at h
  split at h
  ·cases hu;cases hv;split at h<;>cases h
   rename_i hk;subst hk
   exact .bool (g0l (by simp[binOp,Op.intCmp,bne];rfl))
  ·cases hu;cases hv;split at h<;>cases h
   rename_i hb
   exact .bool (t0P (by simp[binOp,run_equal_bool w _ _ _ (m0N hb),bne]))
  ·cases hu;cases hv;cases h
   exact .bool (q0h (by simp[binOp,Op.stringOp,i0M,bne]))
  ·cases h
 all_goals
  simp only[h0n]at h
  split at h
  ·cases hu;cases hv;split at h<;>cases h
   rename_i hk;subst hk
   exact .bool (g0l (by simp[binOp,Op.intCmp]))
  ·cases hu;cases hv;cases h
   exact .bool (q0h (by simp[binOp,Op.stringOp,i0M]))
  ·cases h
end Go.Sy
