/-
 The second shadow machine, part 20: the rules again, for code that is named by its place.
-/
import Derived.Test.YtcapcgbamehojaaGreatDoorSyQ
namespace Go.Sy
open Go Go.RowKit
set_option linter.unusedSimpArgs false
set_option linter.unusedVariables false
set_option linter.unusedSectionVars false
variable [Inhabited GT]
def g0G(fn:Func):Code:=fn.body.getD .skip
def cl:Code→Code| .seq a _=>a|_=> .skip
def cr:Code→Code| .seq _ b=>b|_=> .skip
def ct:Code→Code| .cond _ a _=>a|_=> .skip
def ce:Code→Code| .cond _ _ b=>b|_=> .skip
def cb:Code→Code| .block _ a=>a|_=> .skip
def cp:Code→Code| .loop a=>a|_=> .skip
def h0h:Code→Array Oper| .region _ ops _=>ops|_=> #[]
def n0e:Code→Bool| .seq _ _=>true|_=>false
def l0S(d:Bool):Code→Bool| .region _ _ b=>b==d|_=>false
def s0u(i:Nat):Code→Bool| .block j _=>Nat.beq j i|_=>false
def w0f(i:Nat):Code→Bool| .exit j=>Nat.beq j i|_=>false
def w0e:Code→Bool| .loop _=>true|_=>false
def w0d:Code→Bool| .ret=>true|_=>false
def r0m:Code→Bool| .skip=>true|_=>false
def u0G(c:Code)(L:LE):Option SV:=match c with
 | .cond x _ _=>a0Y (b0s L) x
 |_=>none
section
variable {F : Fr} {P : Program} {c : Code} {L : LE} {H : a0o} {Q : h0f}
theorem t0g(h:n0e c=true):c= .seq (cl c) (cr c):=by cases c<;>first|rfl|cases h
theorem K.seq(h:n0e c=true)(k:J F P (cl c) L H (l0b F P (cr c) Q)):J F P c L H Q:=by
 rw[t0g h];exact J.seq k
theorem K.cutN {S:Type} (h:n0e c=true)(R:S→LE×a0o)(st:S)(h1:J F P (cl c) L H (cutN F R st))(h2:J F P (cr c) (R st).1 (R st).2 Q):J F P c L H Q:=by
 rw[t0g h];exact J.cutN R st h1 h2
theorem K.cutX {S X:Type} (h:n0e c=true)(R:S→LE×a0o)(x:S⊕X)(h1:J F P (cl c) L H (cutX F R Q x))(h2: ∀st,x= .inl st→J F P (cr c) (R st).1 (R st).2 Q):J F P c L H Q:=by
 rw[t0g h];exact J.cutX R x h1 h2
theorem K.region(h:l0S false c=true)(k:RJ F P none (h0h c) 0 [] L H Q):J F P c L H Q:=by
 cases c<;>first|cases h|skip
 rename_i i ops d
 cases d with
 |false=>exact J.region k
 |true=>cases h
theorem K.draw(h:l0S true c=true)(hm:P.follows .mixedOrders=true)(hB:Region.lexB .any (h0h c)=true) {H2:a0o} (hH:H++List.replicate (k0w (h0h c)) .res=H2) {n:Nat} (hn:H.length=n)(k:RJ F P (some n) (h0h c) 0 [] L H2 Q):J F P c L H Q:=by
 subst hH;subst hn
 cases c<;>first|cases h|skip
 rename_i i ops d
 cases d with
 |true=>exact J.draw hm hB k
 |false=>cases h
theorem K.condT(h:u0G c L=some (.bool true))(k:J F P (ct c) L H Q):J F P c L H Q:=by
 cases c<;>first|cases h|skip
 exact J.cond (b:=true) h k
theorem K.condF(h:u0G c L=some (.bool false))(k:J F P (ce c) L H Q):J F P c L H Q:=by
 cases c<;>first|cases h|skip
 exact J.cond (b:=false) h k
theorem K.block(i:Nat)(h:s0u i c=true)(k:J F P (cb c) L H (Exit.inBlock i Q)):J F P c L H Q:=by
 cases c<;>first|cases h|skip
 rename_i j a
 have:=af h
 subst this
 exact J.block k
theorem K.skip(h:r0m c=true)(k:PJ F Q .normal L H):J F P c L H Q:=by
 cases c<;>first|cases h|skip
 exact J.skip k
theorem K.ret(h:w0d c=true)(k:PJ F Q .ret L H):J F P c L H Q:=by
 cases c<;>first|cases h|skip
 exact J.ret k
theorem K.exit(i:Nat)(h:w0f i c=true)(k:PJ F Q (.exit i) L H):J F P c L H Q:=by
 cases c<;>first|cases h|skip
 rename_i j
 have:=af h
 subst this
 exact J.exit k
theorem K.loop {S O:Type} {step:S→Option (S⊕O)} {n:Nat} {s0:S} {o:O} (h:w0e c=true)(R:S→LE×a0o)(ho:a0s step n s0=some o)(ts:List Nat)(hL:h0O ts L=(R s0).1)(hH:H=(R s0).2)
  (body: ∀s x,step s=some x→J F P (cp c) (R s).1 (R s).2 (p0P F R Q o x)):J F P c L H Q:=by
 cases c<;>first|cases h|skip
 exact J.loopR R ho ts hL hH body
theorem RJ.end {m:Option Nat} {ops:Array Oper} {p:Nat} {tr:List (List Nat×List Nat)} (hp:Nat.ble ops.size p=true)(h:PJ F Q .normal L H):RJ F P m ops p tr L H Q:=RJ.done (aq hp) h
end
theorem K.fn {P:Program} {f:FuncId} {fn:Func} (hf:P.funcs[f]?=some fn)(hb:fn.body.isSome=true)(hcal:c0N P f=true)(hin:d0e fn.ntmps (g0G fn)=true)
  {args:List SV} {H:a0o} {v:SV} {H':a0o} (hn:Nat.ble args.length fn.ntmps=true)
  (h: ∀F:Fr,F.n=fn.ntmps→F.H0=H→(∀i,F.H0.length≤i→F.D0 i=none)→J F P (g0G fn) (i0j 0 args) H (u0k P fn F v H')):SC P f args H v H':=by
 unfold g0G at*
 cases hbb:fn.body with
 |none=>rw[hbb]at hb;cases hb
 |some c=>rw[hbb]at hin h;exact A0b hf hbb hcal hin (aq hn) h
theorem K.ret0 {F:Fr} {P:Program} {fn:Func} {e:Exit} {L:LE} {H:a0o} {v:SV} (he:e= .normal∨e= .ret)(hn:F.n=fn.ntmps)(hH:F.H0=[])(hdom: ∀i,F.H0.length≤i→F.D0 i=none)(hin:o0F fn.ntmps fn.results.toList=true)(hret:x0a P fn.results.toList L H=some v)(hr:SV.refs 0 v=true):
  PJ F (u0k P fn F v []) e L H:=
 PJ.end (f:=fun j=>j) he (by rw[hn];exact hin) hret (by rw[hH];exact Back.drop (H':=[]) (ex:=H) (ak _) hr rfl) hdom
theorem K.retV {F:Fr} {P:Program} {fn:Func} {e:Exit} {L:LE} {H H0 H':a0o} {v v1:SV} (σ:List Nat)(he:e= .normal∨e= .ret)(hn:F.n=fn.ntmps)(hH:F.H0=H0)(hdom: ∀i,F.H0.length≤i→F.D0 i=none)(hin:o0F fn.ntmps fn.results.toList=true)(hret:x0a P fn.results.toList L H=some v1)
  (hl:σ.length=H'.length) (hg:σ.map (fun i=>H[i]?)=H'.map (fun en=>some (Ent.rn (b0Z σ) en))) (hnd:σ.Nodup) (hr:H'.all (Ent.refs H'.length)=true) (hk:σ.take H0.length=List.range H0.length) (hle:Nat.ble H0.length H'.length=true) (hv:v1=SV.rn (b0Z σ) v) (hvr:SV.refs H'.length v=true):
  PJ F (u0k P fn F v H') e L H:=by
 refine PJ.end (f:=b0Z σ) he (by rw[hn];exact hin) hret ⟨Sel.of σ hl hg hnd hr,fun j hj=> ?_,by rw[hH];exact aq hle,hv,hvr⟩ hdom
 rw[hH]at hj
 have:=congrArg (fun l=>l[j]?) hk
 simp only[aX,if_pos hj,bG hj]at this
 unfold b0Z
 rw[av,this];rfl
theorem Good.le {w:World} {K:Nat→Nat} {D:DM} {H H':a0o} {r:Value} {w':World} {s s':SV} (h:Good w K D H r w' s H')(hl:Le s s'):Good w K D H r w' s' H':=by
 obtain⟨K',D',g,hi,hr⟩:=h
 exact⟨K',D',g,hi,hl _ _ _ _ hr⟩
theorem PJ.res {F:Fr} {P:Program} {fn:Func} {e:Exit} {L:LE} {H:a0o} {v v1:SV} {H':a0o} (hl:Le v1 v)(h:PJ F (u0k P fn F v1 H') e L H):PJ F (u0k P fn F v H') e L H:=fun a w hs=>by
 obtain⟨h1,h2,r,h3,h4⟩:=h a w hs
 exact⟨h1,h2,r,h3,h4.le hl⟩
theorem c0d {S X:Type} {k:S→Option X} {x:X} {r:Option X} (h:a0g k (.inr x)=r):some x=r:=h
theorem l0R {S X:Type} {k:S→Option X} {s:S} {r:Option X} (h:a0g k (.inl s)=r):k s=r:=h
def big:Nat:=18446744073709551616
theorem n0y {x:Int} (h:(Lit.int .i32 x).wf=true): -2147483648≤x∧x<2147483648:=by
 simp[Lit.wf,IntKind.min,IntKind.max,IntKind.signed,IntKind.bits]at h
 omega
end Go.Sy
