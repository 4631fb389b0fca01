/-
 The second shadow machine, part 7: all operations but calls.
-/
import Derived.Test.YtcapcgbamehojaaGreatDoorSyF
namespace Go.Sy
open Go Go.RowKit
set_option linter.unusedSimpArgs false
set_option linter.unusedVariables false
set_option linter.unusedSectionVars false
variable [Inhabited GT]
def byteOf:SV→UInt8
 | .int _ n=>UInt8.ofNat n.toNat
 |_=>0
def l0U:SV→Bool
 | .int .u8 _=>true
 |_=>false
def j0U:SV→Bool
 | .int .i32 _=>true
 |_=>false
def runeB:SV→List UInt8
 | .int _ n=>(Utf8.encode n).data.toList
 |_=> []
def v0I(big:Bool)(k:IntKind)(acc:Int)(ρ:Env):List Operand→Option SV
 | []=>some (.int k acc)
 |y::r=>match a0Y ρ y with
  |some (.int k' b)=>if k=k' then v0I big k (if big then(if acc<b then b else acc)else(if b<acc then b else acc)) ρ r else none
  |_=>none
/-! Structs and arrays that are compared. -/
def A0O(P:Program)(f:TypeId→SV→SV→Option Bool)(xs ys:List SV):List Field→Option Bool
 | []=>some true
 | fd :: r => if fd.name ≠ "_" then (match b0T P fd.type (xs.drop fd.offset), b0T P fd.type (ys.drop fd.offset) with
   |some a,some b=>match f fd.type a b,A0O P f xs ys r with
    |some p,some q=>some (p&&q)
    |_,_=>none
   |_,_=>none)else A0O P f xs ys r
def B0i(P:Program)(f:SV→SV→Option Bool)(e k:Nat)(xs ys:List SV):Nat→Nat→Option Bool
 |0,_=>some true
 |m+1,i=>match b0T P e (xs.drop (i*k)),b0T P e (ys.drop (i*k))with
  |some a,some b=>match f a b,B0i P f e k xs ys m (i+1)with
   |some p,some q=>some (p&&q)
   |_,_=>none
  |_,_=>none
def eqS(P:Program):Nat→TypeId→SV→SV→Option Bool
 |0,_,_,_=>none
 |d+1,t,a,b=>match P.underlying t,a,b with
  |some .bool, .bool x, .bool y=>some (x==y)
  |some (.int _), .int k x, .int k' y=>if k=k' then some (decide (x=y))else none
  |some .string, .str x, .str y=>some (x==y)
  |some (.struct fs), .agg xs, .agg ys=>if P.stoodInHeld t=false then A0O P (eqS P d) xs ys fs.toList else none
  |some (.array len e), .agg xs, .agg ys=>if 0<P.cellsOf e then B0i P (eqS P d e) e (P.cellsOf e) xs ys len 0 else none
  |_,_,_=>none
def r0C(P:Program):Nat→TypeId→SV→Bool
 |0,_,_=>false
 |d+1,t,a=>match P.underlying t,a with
  | some (.struct fs), .agg cs => fs.toList.all fun f => (f.name == "_") || (match b0T P f.type (cs.drop f.offset) with
   |some b=>r0C P d f.type b
   |none=>false)
  |some (.array len e), .agg cs=>(decide (0<P.cellsOf e))&&(List.range' 0 len).all fun i=>(match b0T P e (cs.drop (i*P.cellsOf e))with
   |some b=>r0C P d e b
   |none=>false)
  |some (.int _), .int _ _=>true
  |some .string, .str _=>true
  |some .bool, .bool _=>true
  |_,_=>false
def j0o(P:Program)(kt:TypeId)(k:SV):List (SV×SV)→Option (Option SV)
 | []=>some none
 |e::r=>match eqS P 9 kt k e.1 with
  |some true=>some (some e.2)
  |some false=>j0o P kt k r
  |none=>none
/-! Maps. -/
def e0F:SV→SV→Option Bool
 | .int k a, .int k' b=>if k=k' then some (a==b)else none
 | .str a, .str b=>some (a==b)
 | .bool a, .bool b=>some (a==b)
 |_,_=>none
def e0K:List (SV×SV)→SV→Option (Option SV)
 | [],_=>some none
 |e::r,k=>match e0F k e.1 with
  |some true=>some (some e.2)
  |some false=>e0K r k
  |none=>none
def x0g:List (SV×SV)→SV→SV→List (SV×SV)
 | [],_,_=> []
 |e::r,k,v=>match e0F k e.1 with
  |some true=>(e.1,v)::r
  |_=>e::x0g r k v
def o0j(P:Program)(kt:TypeId)(s:SV):Bool:=
 match P.underlying kt,s with
 |some (.int k), .int k' _=>decide (k=k')
 |some .string, .str _=>true
 |some .bool, .bool _=>true
 |_,_=>false
def y0x(P:Program)(t:TypeId):Bool:=match P.underlying t with
 |some (.struct _)=>true
 |some (.array _ _)=>true
 |_=>false
def o0k(P:Program)(kt:TypeId)(s:SV):Bool:=match s with
 | .agg cs=>y0x P kt&&r0C P 9 kt (.agg cs)
 |s=>o0j P kt s
def k0J(P:Program)(kt:TypeId)(es:List (SV×SV))(k:SV):Option (Option SV):=match k with
 | .agg cs=>j0o P kt (.agg cs) es
 |k=>e0K es k
def t0T(P:Program)(t:TypeId):Option SV:=
 match P.info? t with
 |some i=>match i.zero with
  |some z=>some ((k0n z).getD .undef)
  |none=>none
 |none=>none
def i0U(ok:Bool)(v:SV)(b:Bool):SV:=if ok then .tup [v, .bool b]else v
def h0P(P:Program)(t:TypeId)(sm sk sv:Option SV)(H:a0o):Option Eff:=
 match P.underlying t,sm,sk,sv with
 |some (.map kt _),some (.mp i),some k,some v=>match H[i]? with
  |some (.map es)=>if o0k P kt k=true then(match k0J P kt es k with
   |some none=>some ⟨.undef,[i],[(i, .map (es++ [(k,v)]))]⟩
   |some (some _)=>(match k with
    | .int _ _=>some ⟨.undef,[i],[(i, .map (x0g es k v))]⟩
    |_=>none)
   |none=>none)else none
  |_=>none
 |_,_,_,_=>none
def h0K(P:Program)(t:TypeId)(sm sk:Option SV)(ok:Bool)(H:a0o):Option Eff:=
 match P.underlying t,sm,sk with
 |some (.map kt et),some (.mp i),some k=>match H[i]? with
  |some (.map es)=>if o0k P kt k=true then(match k0J P kt es k,t0T P et with
   |some (some v),_=>some ⟨i0U ok v true,[i],[]⟩
   |some none,some z=>some ⟨i0U ok z false,[i],[]⟩
   |_,_=>none)else none
  |_=>none
 |_,_,_=>none
def eqE(P:Program)(op:BinOp)(t:TypeId)(sa sb:Option SV):Option Eff:=
 match op,sa,sb with
 | .eql,some (.agg xs),some (.agg ys)=>if P.eqGuardType P.depth t=false then(eqS P 9 t (.agg xs) (.agg ys)).map fun b=>⟨.bool b,[],[]⟩else none
 | .neq,some (.agg xs),some (.agg ys)=>if P.eqGuardType P.depth t=false then(eqS P 9 t (.agg xs) (.agg ys)).map fun b=>⟨.bool (!b),[],[]⟩else none
 |_,_,_=>none
def a0w(P:Program)(o:Oper)(ρ:Env)(H:a0o)(idx:Nat):Option Eff:=
 match o.op with
 | .box _ x=>match(a0Y ρ x).bind SV.cells? with
  |some cs=>some ⟨.ptr idx 0,[],[(idx, .box cs)]⟩
  |none=>none
 | .alloc t=>match m0V P t with
  |some cs=>some ⟨.ptr idx 0,[],[(idx, .box cs)]⟩
  |none=>none
 | .load t x=>match a0Y ρ x with
  |some (.ptr i off)=>match(H[i]?).bind d0E with
   |some cs=>(b0T P t (cs.drop off)).map fun v=>⟨v,[i],[]⟩
   |none=>none
  |_=>none
 | .store t x y=>match a0Y ρ x,(a0Y ρ y).bind SV.cells? with
  |some (.ptr i off),some ps=>match H[i]? with
   |some en=>match d0E en with
    |some cs=>if ps.length=P.cellsOf t∧0<ps.length∧off+ps.length≤cs.length∧(z0z en=true→b0x ps=true)then some ⟨.undef,[i],[(i,r0v en (splice cs off ps))]⟩else none
    |none=>none
   |none=>none
  |_,_=>none
 | .indexAddr t x y=>match P.underlying t,a0Y ρ x,a0Y ρ y with
  |some (.slice e),some (.vc i),some (.int _ j)=>match H[i]? with
   |some (.vec n k _ _)=>if k=P.cellsOf e∧0<k∧0≤j∧j<n then some ⟨.ptr i (j.toNat*k),[i],[]⟩else none
   |_=>none
  |_,_,_=>none
 | .slice t x lo hi mx=>match P.underlying t,a0Y ρ x,lo,mx with
  |some (.array len e),some (.ptr i off),none,none=>match g0t ρ hi (len:Int)with
   |some h=>if 0≤h∧h≤len∧0<P.cellsOf e then some ⟨.sl i off h.toNat (P.cellsOf e),[],[]⟩else none
   |none=>none
  |_,_,_,_=>none
 | .buildSlice t len parts=>match P.underlying t with
  |some (.slice e)=>match m0V P e with
   |some zs=>if i0l P e (P.cellsOf e)=true∧len*P.cellsOf e≤16777216 then
     match l0Z ρ (fun i=>some (i*P.cellsOf e,P.cellsOf e)) (List.replicate len zs).flatten parts.toList with
     |some cs=>if len=0 then some ⟨.nl,[],[]⟩else if b0x cs=true then some ⟨.vc idx,[],[(idx, .vec len (P.cellsOf e) e cs)]⟩else none
     |none=>none
    else none
   |none=>none
  |_=>none
 | .binOp op t x y _=>eqE P op t (a0Y ρ x) (a0Y ρ y)
 | .makeMap t none=>match P.underlying t with
  |some (.map _ _)=>some ⟨.mp idx,[],[(idx, .map [])]⟩
  |_=>none
 | .insert t m k v=>h0P P t (a0Y ρ m) (a0Y ρ k) (a0Y ρ v) H
 | .mapUpdate t m k v=>h0P P t (a0Y ρ m) (a0Y ρ k) (a0Y ρ v) H
 | .lookup t m k ok=>h0K P t (a0Y ρ m) (a0Y ρ k) ok H
 | .makeSlice t x y=>match P.underlying t,a0Y ρ x,a0Y ρ y with
  |some (.slice e),some (.int _ l),some (.int _ c)=>match m0V P e with
   |some zs=>if i0l P e (P.cellsOf e)=true∧0≤l∧l≤c∧c≤4294967296∧b0x zs=true then some ⟨.vc idx,[],[(idx, .vec l.toNat (P.cellsOf e) e (List.replicate l.toNat zs).flatten)]⟩else none
   |none=>none
  |_,_,_=>none
 | .convert src dst x=>match P.underlying src,P.underlying dst,a0Y ρ x with
  |some .string,some (.slice e),some (.str s)=>match P.underlying e with
   |some (.int .u8)=>some ⟨.lst s.length 1 (s.map h0c),[],[]⟩
   |_=>none
  |some .string,some .string,some (.str s)=>some ⟨.str s,[],[]⟩
  |some (.slice e),some (.slice _),some (.vc i)=>match P.underlying e,H[i]? with
   |some (.int .u8),some (.vec n k _ cs)=>if src=dst∧0<n then some ⟨.lst n k cs,[i],[(i, .gone)]⟩else none
   |_,_=>none
  |some (.slice e),some .string,some s=>match P.underlying e,t0e 1 s H with
   |some (.int .u8),some (_,cs,rd)=>if j0d P src s=true∧cs.all l0U=true then some ⟨.str (cs.map byteOf),rd,[]⟩else none
   |some (.int .i32),some (_,cs,rd)=>if j0d P src s=true∧cs.all j0U=true then some ⟨.str (cs.flatMap runeB),rd,[]⟩else none
   |_,_=>none
  |_,_,_=>none
 | .call c=>match c.callee with
  | .builtin .append=>m0F P c ρ H idx
  | .builtin .copy=>w0E P c ρ H
  | .builtin .len=>match c.args.toList,c.argTypes.toList with
   | [x],[t]=>match P.underlying t,a0Y ρ x with
    |some (.slice _),some (.vc i)=>match H[i]? with
     |some (.vec n _ _ _)=>some ⟨.int .i64 n,[i],[]⟩
     |_=>none
    |_,_=>none
   |_,_=>none
  | .builtin .min=>match c.args.toList with
   |x::r=>match a0Y ρ x with
    |some (.int k a)=>(v0I false k a ρ r).map fun v=>⟨v,[],[]⟩
    |_=>none
   |_=>none
  | .builtin .max=>match c.args.toList with
   |x::r=>match a0Y ρ x with
    |some (.int k a)=>(v0I true k a ρ r).map fun v=>⟨v,[],[]⟩
    |_=>none
   |_=>none
  |_=>none
 |_=>none
def a0Z(P:Program)(o:Oper)(ρ:Env)(H:a0o)(idx:Nat):Option Eff:=
 match a0k P o ρ with
 |some v=>some ⟨v,[],[]⟩
 |none=>a0w P o ρ H idx
section
variable {P : Program} {n : Nat} {w : World} {K : Nat → Nat} {D : DM} {H : a0o} {ρ : Env} {a : Act} {o : Oper} {idx : Nat}
theorem f0m(h:HInv w K D H) {v:Value} {s:SV} (hr:(execOp a.eval o).run P w= .ok (.value v) w)(h1:Rep w K D v s):n0w P w K D H o a s H:=
 ⟨v,w, .inl hr,Good.here h h1⟩
theorem A0X(h:HInv w K D H)(hs:Slots n w K D ρ a.tmps) {e:TypeId} {x:Operand} (ho:o.op= .box e x)(hx:Operand.inB n x=true)(hidx:CanNew H idx) {cs:List SV} (hc:(a0Y ρ x).bind SV.cells?=some cs):
  n0w P w K D H o a (.ptr idx 0) (g0w H idx (.box cs)):=by
 cases hxe:a0Y ρ x with
 |none=>rw[hxe]at hc;cases hc
 |some sx=>
  rw[hxe]at hc
  have hcr:=q0f (a0j hs hx hxe) hc
  refine⟨_,_, .inl ?_,v0G h hidx hcr e⟩
  unfold execOp;rw[ho]
  simp[Instr.box,newVar,newRow]
theorem y0g(h:HInv w K D H) {t:TypeId} (ho:o.op= .alloc t)(hidx:CanNew H idx) {cs:List SV} (hz:m0V P t=some cs):
  n0w P w K D H o a (.ptr idx 0) (g0w H idx (.box cs)):=by
 obtain⟨i,z,hi,hz,hl,hc,_,hcr⟩:=k0s hz
 refine⟨_,_, .inl ?_,v0G h hidx (hcr w K D) t⟩
 unfold execOp;rw[ho]
 simp[Instr.alloc,zeroValue,typeInfo,hi,hz,newVar,newRow]
theorem x0M(h:HInv w K D H)(hs:Slots n w K D ρ a.tmps) {t:TypeId} {x:Operand} (ho:o.op= .load t x)(hx:Operand.inB n x=true) {i off:Nat} (hxe:a0Y ρ x=some (.ptr i off)) {cs:List SV}
  (hc:(H[i]?).bind d0E=some cs) {v:SV} (hv:b0T P t (cs.drop off)=some v):n0w P w K D H o a v H:=by
 have he:execOp a.eval o=(do pure (Next.value (←Instr.loadAt t (a.eval x)))):=by unfold execOp;rw[ho]
 obtain⟨b,c,m,hvx,hd⟩:=m0t (a0j hs hx hxe)
 cases hH:H[i]? with
 |none=>rw[hH]at hc;cases hc
 |some en=>
  rw[hH]at hc
  obtain⟨vs,rest,e,hheap,hcr,_,_⟩:=s0H h hH hd hc
  have hrow:=(f0v hheap hcr).drop off
  rw[aU]at hrow
  obtain⟨r,hr,hrep⟩:=i0O (P:=P) hrow hv
  exact f0m h (by rw[he];exact b0E (by rw[hvx];simp[Instr.loadAt,Instr.sureAddr,hr])) hrep
theorem v0c(h:HInv w K D H)(hs:Slots n w K D ρ a.tmps) {t:TypeId} {x y:Operand} (ho:o.op= .store t x y)(hx:Operand.inB n x=true)(hy:Operand.inB n y=true) {i off:Nat} (hxe:a0Y ρ x=some (.ptr i off))
  {ps cs:List SV} (hye:(a0Y ρ y).bind SV.cells?=some ps) {en:Ent} (hH:H[i]?=some en) (hc:d0E en=some cs)
  (hl:ps.length=P.cellsOf t) (h0:0<ps.length) (hle:off+ps.length≤cs.length) (hpl:z0z en=true→b0x ps=true):n0w P w K D H o a .undef (H.set i (r0v en (splice cs off ps))):=by
 cases hyv:a0Y ρ y with
 |none=>rw[hyv]at hye;cases hye
 |some sy=>
  rw[hyv]at hye
  have hcx:=q0f (a0j hs hy hyv) hye
  obtain⟨b,c,m,hvx,hd⟩:=m0t (a0j hs hx hxe)
  obtain⟨w',hst,hg,hiv⟩:=k0Z (P:=P) h hH hd hc hle hcx hpl
  obtain⟨it,hit,hsz⟩:=m0R (P:=P) (t:=t) (by omega)
  have hsv:(Instr.storeAt t (.pointer (some ⟨b,off,none⟩)) (a.eval y)).run P w= .ok () w':=by
   have hce:(a.eval y).cells.size=it.size:=by have:=hcx.len;simp at this;omega
   simp[Instr.storeAt,Instr.sureAddr,storeVar,sizeOf,typeInfo,hit,hce,hst]
  refine⟨undef,w', .inr ⟨?_,rfl⟩,⟨K,D,hg,hiv, .undef _⟩⟩
  unfold execOp;rw[ho]
  show Sem.run P (do Instr.storeAt t (a.eval x) (a.eval y);pure Next.skip) w=_
  rw[hvx]
  simp[hsv]
theorem n0z(h:HInv w K D H) {v:Value} {i nn k:Nat} {e:TypeId} {cs:List SV} (hr:Rep w K D v (.vc i))(hH:H[i]?=some (.vec nn k e cs)):
  b0x cs=true∧((nn=0∧cs=[]∧ ∃ad,v= .slice ad 0 0)∨ ∃b c vs rest,v= .slice (some ⟨b,0,none⟩) nn c∧D i=some (.at b c nn)∧0<k∧nn≤c∧vs.length=nn*k∧CR w K D vs cs∧
   w.heap[b]?=some (.cells (vs++rest).toArray e (0,0))):=by
 obtain⟨hp,hent⟩:=h.ent i _ hH
 refine⟨hp, ?_⟩
 rcases hent with⟨h1,h2,h3⟩|⟨b,c,vs,rest,h1,h2,h3,h4,h5,h6,h7,h8,h9⟩
 ·cases hr with
  |vcn _ ad hd=>exact .inl ⟨h2,h3,ad,rfl⟩
  |vc _ b c n hd=>rw[h1]at hd;cases hd
 ·cases hr with
  |vcn _ ad hd=>rw[h1]at hd;cases hd
  |vc _ b' c' n' hd=>rw[h1]at hd;cases hd;exact .inr ⟨b,c,vs,rest,rfl,h1,h3,h4,h7,h9,h6⟩
theorem s0w(h:HInv w K D H)(hs:Slots n w K D ρ a.tmps) {t e:TypeId} {x y:Operand} (ho:o.op= .indexAddr t x y)(hx:Operand.inB n x=true)(hy:Operand.inB n y=true)(hu:P.underlying t=some (.slice e))
  {i nn k:Nat} {e':TypeId} {cs:List SV} {kk:IntKind} {j:Int} (hxe:a0Y ρ x=some (.vc i)) (hye:a0Y ρ y=some (.int kk j)) (hH:H[i]?=some (.vec nn k e' cs)) (hk:k=P.cellsOf e) (hk0:0<k) (h0:0≤j) (hj:j<nn):
  n0w P w K D H o a (.ptr i (j.toNat*k)) H:=by
 have he:execOp a.eval o=(do pure (Next.value (←Instr.indexAt t (a.eval x) (a.eval y)))):=by unfold execOp;rw[ho]
 have hrx:=a0j hs hx hxe
 have hry:=a0j hs hy hye
 generalize hvy:a.eval y=vy at hry
 cases hry
 rcases(n0z h hrx hH).2 with⟨hn0,_⟩|⟨b,c,vs,rest,hv,hd,_⟩
 ·omega
 ·subst hk
  refine f0m h (v:= .pointer (some ⟨b,j.toNat*P.cellsOf e,none⟩)) ?_ (.ptr _ _ _ _ _ hd)
  rw[he]
  refine b0E ?_
  rw[hv,hvy]
  simp[Instr.indexAt,asIntOf,run_underlying hu,c0D hk0,h0,hj,add_lit]
theorem r0R(h:HInv w K D H)(hs:Slots n w K D ρ a.tmps) {t e:TypeId} {len:Nat} {x:Operand} {hi:Option Operand} (ho:o.op= .slice t x none hi none)(hx:Operand.inB n x=true)(hhi: ∀x,hi=some x→Operand.inB n x=true)
  (hu:P.underlying t=some (.array len e)) {i off:Nat} (hxe:a0Y ρ x=some (.ptr i off)) {hh:Int} (hb:g0t ρ hi (len:Int)=some hh) (h0:0≤hh) (h1:hh≤len) (hk0:0<P.cellsOf e):
  n0w P w K D H o a (.sl i off hh.toNat (P.cellsOf e)) H:=by
 have he:execOp a.eval o=(do pure (Next.value (←Instr.sliceAt t (a.eval x) none (hi.map a.eval) none))):=by unfold execOp;rw[ho];rfl
 obtain⟨b,c,m,hvx,hd⟩:=m0t (a0j hs hx hxe)
 have hbd:(Instr.sliceBounds false len len none (hi.map a.eval) none).run P w= .ok (0,hh.toNat,len) w:=by
  rcases m0d (P:=P) (w:=w) (code:= .sliceAlen) (y:=len) hs hhi hb h0 h1 with⟨rfl,e1⟩|⟨y1,rfl,e1⟩
  ·subst e1;simp[Instr.sliceBounds]
  ·simp[Instr.sliceBounds,e1]
 refine f0m h (v:= .slice (some ⟨b,off,none⟩) hh.toNat len) ?_ (.sl i off hh.toNat (P.cellsOf e) b c m len hd (by omega))
 rw[he]
 refine b0E ?_
 rw[hvx]
 simp[Instr.sliceAt,Instr.sureAddr,run_underlying hu,hbd,c0D hk0,Addr.add]
theorem v0X(h:HInv w K D H)(hs:Slots n w K D ρ a.tmps) {c:Call} (ho:o.op= .call c)(hcal:c.callee= .builtin .len) {x:Operand} {t e:TypeId} (ha:c.args.toList=[x])(ht:c.argTypes.toList=[t])(hx:Operand.inB n x=true)
  (hu:P.underlying t=some (.slice e)) {i nn k:Nat} {e':TypeId} {cs:List SV} (hxe:a0Y ρ x=some (.vc i)) (hH:H[i]?=some (.vec nn k e' cs)):n0w P w K D H o a (.int .i64 nn) H:=by
 have ha':c.args= #[x]:=by rw[←bg];exact ha
 have ht':c.argTypes= #[t]:=by rw[←bg];exact ht
 have hv: ∃ad cap,a.eval x= .slice ad nn cap:=by
  rcases(n0z h (a0j hs hx hxe) hH).2 with⟨hn0,_,ad,hv⟩|⟨b,c,vs,rest,hv,_⟩
  ·exact⟨_,_,by rw[hv,hn0]⟩
  ·exact⟨_,_,hv⟩
 obtain⟨ad,cap,hv⟩:=hv
 refine f0m h (v:= .int .i64 nn) ?_ (.int _ _)
 unfold execOp
 simp only[ho,resolve,hcal,ha',ht',invoke,builtin,Sem.run_bind,Sem.run_pure,Result.andThen_ok,bR,ah,ay]
 rw[hv]
 simp[Builtin.len_,run_underlying hu,goInt]
theorem r0s {place:Nat→Option (Nat×Nat)} : ∀(ps:List (Nat×Operand)) (c0 c1:List SV),l0Z ρ place c0 ps=some c1→c1.length=c0.length:=by
 intro ps
 induction ps with
 |nil=>intro c0 c1 hh;cases hh;rfl
 |cons p ps ih=>
  intro c0 c1 hh
  simp only[l0Z]at hh
  split at hh
  ·rename_i off size qs hp hq
   split at hh
   ·rename_i hcc
    rw[ih _ _ hh]
    simp[Sy.splice];omega
   ·cases hh
  ·cases hh
theorem q0g(h:HInv w K D H)(hs:Slots n w K D ρ a.tmps) {t e len:Nat} {parts:Array (Nat×Operand)} (ho:o.op= .buildSlice t len parts)(hb: ∀p∈parts.toList,Operand.inB n p.2=true)(hu:P.underlying t=some (.slice e)) {zs cs:List SV}
  (hz:m0V P e=some zs) (hok:i0l P e (P.cellsOf e)=true) (hmax:len*P.cellsOf e≤16777216) (hf:l0Z ρ (fun i=>some (i*P.cellsOf e,P.cellsOf e)) (List.replicate len zs).flatten parts.toList=some cs):
  ∃cells',(execOp a.eval o).run P w= .ok (.value (.slice (some ⟨w.heap.size,0,none⟩) len len)) (w.alloc (.cells cells' e))∧CR w K D cells'.toList cs∧cells'.size=len*P.cellsOf e:=by
 obtain⟨i,z,hi,hzz,hl,hc,_,hcr⟩:=k0s hz
 obtain⟨i',z',hi',hz',hzs,hk,hk0,hby⟩:=e0U hok
 rw[hi]at hi';cases hi'
 rw[hzz]at hz';cases hz'
 rw[hc]at hk hk0 hmax hf hok⊢
 have hzl:zs.length=z.cells.size:=by rw[hl,hzs]
 obtain⟨cells',h1,h2⟩:=s0F hs parts.toList _ _ cs hb (p0r (hcr w K D) (by omega) len) hf
 have hcl:cells'.size=len*i.size:=by
  have e1:cs.length=cells'.size:=by simpa using h2.len
  rw[←e1,r0s _ _ _ hf,s0C,hl]
 refine⟨cells', ?_,h2,hcl⟩
 have hrun:(Instr.buildSlice t len (parts.map fun p=>(p.1,a.eval p.2))).run P w= .ok (.slice (some ⟨w.heap.size,0,none⟩) len len) (w.alloc (.cells cells' e)):=by
  have hzi:zs.length=i.size:=hl
  rw[hzi]at h1
  by_cases h0:len*i.size=0
  ·have hz0:len=0:=by
    rcases bv len with h|h
    ·exact h
    ·have:=Nat.mul_pos h hk0;omega
   subst hz0
   have hr0: ∀f:Nat→Value,(Array.range 0).map f= #[]:=fun f=>by apply Array.ext';simp
   simp only[Nat.zero_mul,hr0]at h1
   simp[Instr.buildSlice,run_underlying hu,sizeOf,typeInfo,hi,hr0,h1,newRow]
  ·simp[Instr.buildSlice,run_underlying hu,sizeOf,typeInfo,zeroValue,hi,hzz,h0,h1,newRow,Nat.not_lt.2 hmax]
 unfold execOp;rw[ho]
 exact b0E hrun
theorem HInv.push(h:HInv w K D H) {w':World} {ob:Obj} (hh:w'.heap=w.heap.push ob)(h1:w'.os=w.os)(h2:w'.tape=w.tape)(h3:w'.output=w.output) {K':Nat→Nat} (hK: ∀b,b≠w.heap.size→K' b=K b):
  Grow w K D H w' K' D H∧HInv w' K' D H:=by
 have hold: ∀b,b<w.heap.size→w'.heap[b]?=w.heap[b]?:=fun b hb=>by rw[hh,bF,if_neg (by omega)]
 have hK0:K w.heap.size=0:=by
  rcases bv (K w.heap.size)with h0|h0
  ·exact h0
  ·have:=h.kw w.heap.size (by omega);omega
 have hcells: ∀b j,j<K b→w'.cell? ⟨b,j,none⟩=w.cell? ⟨b,j,none⟩:=fun b j hj=>World.cell?_of_block (w:=w) (a:=⟨b,j,none⟩) (hold b (h.kw b (by omega)))
 have hle: ∀b,K b≤K' b:=fun b=>by
  by_cases hb:b=w.heap.size
  ·subst hb;omega
  ·rw[hK b hb];exact ak _
 have hrep: ∀v s,Rep w K D v s→Rep w' K' D v s:=fun v s hr=>hr.mono hcells hle (fun _ _ e=>e)
 refine⟨⟨h1,h2,h3,by rw[hh];simp,fun b hb _=>hold b hb,hcells,hle,fun b hb _=>hK b (by omega),fun _ _ e=>e,fun b hm=> .inl hm⟩,
  ⟨h.dom,fun i en hi=>(h.ent i en hi).keep hrep rfl (fun b c m hl hd=> ?_),h.inj,fun b hb=> ?_⟩⟩
 ·have hlt:=(i0X h ⟨i,en,c,m,hi,hl,hd⟩).1
  exact⟨hold b hlt,hK b (by omega)⟩
 ·rw[hh];simp only[Array.size_push]
  by_cases hbs:b=w.heap.size
  ·omega
  ·rw[hK b hbs]at hb
   have:=h.kw b hb;omega
theorem r0c(h:HInv w K D H)(hs:Slots n w K D ρ a.tmps) {t e:Nat} {x y:Operand} (ho:o.op= .makeSlice t x y)(hx:Operand.inB n x=true)(hy:Operand.inB n y=true)(hu:P.underlying t=some (.slice e)) {zs:List SV} {kl kc:IntKind} {l c:Int}
  (hidx:CanNew H idx) (hxe:a0Y ρ x=some (.int kl l)) (hye:a0Y ρ y=some (.int kc c))
  (hz:m0V P e=some zs) (hok:i0l P e (P.cellsOf e)=true) (h0:0≤l) (hlc:l≤c) (hcm:c≤4294967296) (hpz:b0x zs=true):
  n0w P w K D H o a (.vc idx) (g0w H idx (.vec l.toNat (P.cellsOf e) e (List.replicate l.toNat zs).flatten)):=by
 obtain⟨i,z,hi,hzz,hl,hc,_,hcr⟩:=k0s hz
 obtain⟨i',z',hi',hz',hzs,hk,hk0,hby⟩:=e0U hok
 rw[hi]at hi';cases hi'
 rw[hzz]at hz';cases hz'
 rw[hc]at hk hk0 hok⊢
 have hrx:=a0j hs hx hxe
 have hry:=a0j hs hy hye
 generalize hvx:a.eval x=vx at hrx
 generalize hvy:a.eval y=vy at hry
 cases hrx
 cases hry
 have hbytes:(i.bytes:Int)*c≤281474976710656:=by
  have h1:(i.bytes:Int)*c≤4096*c:=Int.mul_le_mul_of_nonneg_right (by omega) (by omega)
  omega
 have hrun:=run_make (P:=P) w t e i z hu hi hzz kl kc l c h0 hlc hbytes (by omega)
 have hzl:=p0r (hcr w K D) (by omega) l.toNat
 have hsz:z.cells.size=zs.length:=by rw[hl,hzs]
 have hvl:((Array.range (l.toNat*zs.length)).map (z.cells[· %z.cells.size]!)).toList.length=l.toNat*i.size:=by simp[hl]
 have hle:l.toNat*i.size≤c.toNat*i.size:=aR _ (by omega)
 have hLt:(madeCells z.cells (c.toNat*i.size)).toList.take (l.toNat*i.size)=((Array.range (l.toNat*zs.length)).map (z.cells[· %z.cells.size]!)).toList:=by
  apply bC
  intro j
  rw[aX]
  by_cases hj:j<l.toNat*i.size
  ·rw[if_pos hj]
   simp[madeCells,hl,hj,aT hj hle]
  ·rw[if_neg hj,aw (by rw[hvl];omega)]
 have hg:=s0k (w':=w.alloc (.cells (madeCells z.cells (c.toNat*i.size)) e)) (L:=madeCells z.cells (c.toNat*i.size)) (vs:=((Array.range (l.toNat*zs.length)).map (z.cells[· %z.cells.size]!)).toList)
  (rest:=(madeCells z.cells (c.toNat*i.size)).toList.drop (l.toNat*i.size)) (cap:=c.toNat) (len:=l.toNat) (k:=i.size) (e:=e) h hidx none (by simp) hzl (n0x hpz _) (by
   rw[←hLt];apply Array.ext';simp) rfl rfl rfl rfl hk0 hvl (by omega) (by
   rw[ag,hvl,aO,bU,size_madeCells];omega) (by unfold maxLen;omega)
 rw[f0a]at hg
 refine⟨_,_, .inl ?_,hg⟩
 unfold execOp;rw[ho]
 show Sem.run P (do pure (Next.value (←Instr.makeSlice t (a.eval x) (a.eval y)))) w=_
 rw[hvx,hvy]
 exact b0E hrun
end
end Go.Sy
