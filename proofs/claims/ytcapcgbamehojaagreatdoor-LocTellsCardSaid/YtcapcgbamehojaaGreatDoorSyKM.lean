/-
 Rules that do several steps at once: whole regions, a branch with its truth, a call with its bind, an end with its shape.
-/
import Derived.Test.YtcapcgbamehojaaGreatDoorSyCC
import Derived.Test.YtcapcgbamehojaaGreatDoorSyPV
import Derived.Test.YtcapcgbamehojaaGreatDoorSySL
namespace Go.Sy
open Go Go.RowKit
set_option linter.unusedVariables false
set_option linter.unusedSimpArgs false
set_option linter.unusedSectionVars false
variable [Inhabited GT]
section
variable {F : Fr} {P : Program} {m : Option Nat} {L : LE} {H : a0o} {Q : h0f} {ops : Array Oper} {p : Nat} {tr : List (List Nat × List Nat)} {c : Code}
theorem kc(q:Nat)(k:RJ F P none ops (p+q) [] (lOf (i0v P none ops q p [] L H)) (hOf (i0v P none ops q p [] L H)) Q)(h:(i0v P none ops q p [] L H).isSome=true:=by kernel_rfl):RJ F P none ops p [] L H Q:=by
 cases hr:i0v P none ops q p [] L H with
 |none=>rw[hr]at h;cases h
 |some r=>
  obtain⟨tr1,L1,H1⟩:=r
  rw[hr]at k
  refine m0r q p [] L H tr1 L1 H1 hr ?_
  intro hin a w hs
  exact k hin a w hs
theorem ke(q:Nat)(k:PJ F Q .normal (lOf (i0v P none ops q p [] L H)) (hOf (i0v P none ops q p [] L H)))(h:(i0v P none ops q p [] L H).isSome=true:=by kernel_rfl)(hp:Nat.ble ops.size (p+q)=true:=by kernel_rfl):RJ F P none ops p [] L H Q:=kc q (RJ.end hp k) h
theorem kr {c:Code} (q:Nat)(k:J F P c (lOf (i0v P none ops q p [] L H)) (hOf (i0v P none ops q p [] L H)) Q)(h:(i0v P none ops q p [] L H).isSome=true:=by kernel_rfl)(hp:Nat.ble ops.size (p+q)=true:=by kernel_rfl):RJ F P none ops p [] L H (l0b F P c Q):=kc q (RJ.end hp (PJ.next k)) h
theorem km(q:Nat)(k:RJ F P none (h0h c) q [] (lOf (i0v P none (h0h c) q 0 [] L H)) (hOf (i0v P none (h0h c) q 0 [] L H)) Q)(h:l0S false c=true:=by kernel_rfl)(h2:(i0v P none (h0h c) q 0 [] L H).isSome=true:=by kernel_rfl):J F P c L H Q:=K.region h (kc q (by rw[aU];exact k) h2)
theorem kM(k:PJ F Q .normal (lOf (i0v P none (h0h c) (h0h c).size 0 [] L H)) (hOf (i0v P none (h0h c) (h0h c).size 0 [] L H)))(h:l0S false c=true:=by kernel_rfl)(h2:(i0v P none (h0h c) (h0h c).size 0 [] L H).isSome=true:=by kernel_rfl):J F P c L H Q:=
 K.region h (ke (h0h c).size k h2 (by rw[aU];exact Nat.ble_eq_true_of_le (ak _)))
theorem kn(q:Nat)(k:RJ F P none (h0h (cl c)) q [] (lOf (i0v P none (h0h (cl c)) q 0 [] L H)) (hOf (i0v P none (h0h (cl c)) q 0 [] L H)) (l0b F P (cr c) Q))(h:n0e c=true:=by kernel_rfl)(h1:l0S false (cl c)=true:=by kernel_rfl)(h2:(i0v P none (h0h (cl c)) q 0 [] L H).isSome=true:=by kernel_rfl):J F P c L H Q:=K.seq h (km q k h1 h2)
theorem kq(k:J F P (cr c) (lOf (i0v P none (h0h (cl c)) (h0h (cl c)).size 0 [] L H)) (hOf (i0v P none (h0h (cl c)) (h0h (cl c)).size 0 [] L H)) Q)(h:n0e c=true:=by kernel_rfl)(h1:l0S false (cl c)=true:=by kernel_rfl)(h2:(i0v P none (h0h (cl c)) (h0h (cl c)).size 0 [] L H).isSome=true:=by kernel_rfl):J F P c L H Q:=K.seq h (kM (PJ.next k) h1 h2)
theorem kKN {d:Code} (k:J F P d L H Q)(h:r0m c=true:=by kernel_rfl):J F P c L H (l0b F P d Q):=K.skip h (PJ.next k)
def t0M(d:Nat):Code→Bool| .cond (.tmp t) _ _=>Nat.beq t d|_=>false
theorem q0a {d:Nat} {b:Bool} (h:t0M d c=true):u0G c ((d, .bool b)::L)=some (.bool b):=by
 cases c<;>first|cases h|skip
 rename_i x a b'
 cases x<;>first|cases h|skip
 rename_i t
 have:=af h
 subst this
 simp only[u0G,a0Y,b0s,lk]
 rw[show Nat.beq t t=true from Nat.beq_refl t]
 rfl
theorem kBT {α:Type} {b:Bool} {X Y:α} {r:α} (d:Nat)(h:(bif b then X else Y)=r)(h1:X=r→J F P (ct c) ((d, .bool true)::L) H Q)(h2:Y=r→J F P (ce c) ((d, .bool false)::L) H Q)(hd:lk L d= .bool b:=by kernel_rfl)(hc:t0M d c=true:=by kernel_rfl):J F P c L H Q:=
 J.caseB d hd (fun hb=>K.condT (q0a hc) (h1 (condT hb h))) (fun hb=>K.condF (q0a hc) (h2 (condF hb h)))
theorem cFT {α:Type} {b:Bool} {X:Option α} {r:α} (d:Nat)(h:(bif b then X else none)=some r)(k:X=some r→J F P (ct c) ((d, .bool true)::L) H Q)(hd:lk L d= .bool b:=by kernel_rfl)(hc:t0M d c=true:=by kernel_rfl):J F P c L H Q:=cF d h (fun hx=>K.condT (q0a hc) (k hx)) hd
theorem cTF {α:Type} {b:Bool} {X:Option α} {r:α} (d:Nat)(h:(bif b then none else X)=some r)(k:X=some r→J F P (ce c) ((d, .bool false)::L) H Q)(hd:lk L d= .bool b:=by kernel_rfl)(hc:t0M d c=true:=by kernel_rfl):J F P c L H Q:=cT d h (fun hx=>K.condF (q0a hc) (k hx)) hd
/-! Ends. -/
theorem kNo {S:Type} {R:S→LE×a0o} {a st:S} (h:some a=some st)(ts:List Nat)(hL:h0O ts L=(R a).1:=by kernel_rfl)(hH:H=(R a).2:=by kernel_rfl):PJ F (cutN F R st) .normal L H:=by
 obtain rfl:=oi h;exact PJ.cutN ts hL hH
theorem kXo {S X:Type} {R:S→LE×a0o} {a:S} {y:S⊕X} (h:some (.inl a)=some y)(ts:List Nat)(hL:h0O ts L=(R a).1:=by kernel_rfl)(hH:H=(R a).2:=by kernel_rfl):PJ F (cutX F R Q y) .normal L H:=by
 obtain rfl:=oi h;exact PJ.cutXl ts hL hH
theorem kLo {S O:Type} {R:S→LE×a0o} {o:O} {a:S} {y:S⊕O} (h:some (.inl a)=some y)(ts:List Nat)(hL:h0O ts L=(R a).1:=by kernel_rfl)(hH:H=(R a).2:=by kernel_rfl):PJ F (p0P F R Q o y) .normal L H:=by
 obtain rfl:=oi h;exact PJ.loopNext ts hL hH
theorem kNW {S:Type} {R:S→LE×a0o} {a st:S} {H0:a0o} (h:some a=some st)(hm:F.H0=H0)(hdom: ∀i,F.H0.length≤i→F.D0 i=none)(σ:List Nat)(hl:σ.length=(R a).2.length:=by kernel_rfl)(hg:σ.map (fun i=>H[i]?)=(R a).2.map (fun en=>some (Ent.rn (b0Z σ) en)):=by kernel_rfl)(hn:σ.Nodup:=by decide)
  (hr:(R a).2.all (Ent.refs (R a).2.length)=true:=by kernel_rfl) (hk:σ.take H0.length=List.range H0.length:=by kernel_rfl) (hv:(R a).1.map (fun p=>lk L p.1)=(R a).1.map (fun p=>SV.rn (b0Z σ) p.2):=by kernel_rfl) (hvr:(R a).1.all (fun p=>SV.refs (R a).2.length p.2)=true:=by kernel_rfl):PJ F (cutN F R st) .normal L H:=by
 obtain rfl:=oi h
 exact fun x w hs=>⟨rfl,Wk.sel H0.length (by rw[hm]) hdom σ hl hg hn hr hk hv hvr x w hs⟩
theorem kXW {S X:Type} {R:S→LE×a0o} {a:S} {y:S⊕X} {H0:a0o} (h:some (.inl a)=some y)(hm:F.H0=H0)(hdom: ∀i,F.H0.length≤i→F.D0 i=none)(σ:List Nat)(hl:σ.length=(R a).2.length:=by kernel_rfl)(hg:σ.map (fun i=>H[i]?)=(R a).2.map (fun en=>some (Ent.rn (b0Z σ) en)):=by kernel_rfl)(hn:σ.Nodup:=by decide)
  (hr:(R a).2.all (Ent.refs (R a).2.length)=true:=by kernel_rfl) (hk:σ.take H0.length=List.range H0.length:=by kernel_rfl) (hv:(R a).1.map (fun p=>lk L p.1)=(R a).1.map (fun p=>SV.rn (b0Z σ) p.2):=by kernel_rfl) (hvr:(R a).1.all (fun p=>SV.refs (R a).2.length p.2)=true:=by kernel_rfl):PJ F (cutX F R Q y) .normal L H:=by
 obtain rfl:=oi h
 exact fun x w hs=>⟨rfl,Wk.sel H0.length (by rw[hm]) hdom σ hl hg hn hr hk hv hvr x w hs⟩
theorem kLW {S O:Type} {R:S→LE×a0o} {o:O} {a:S} {y:S⊕O} {H0:a0o} (h:some (.inl a)=some y)(hm:F.H0=H0)(hdom: ∀i,F.H0.length≤i→F.D0 i=none)(σ:List Nat)(hl:σ.length=(R a).2.length:=by kernel_rfl)(hg:σ.map (fun i=>H[i]?)=(R a).2.map (fun en=>some (Ent.rn (b0Z σ) en)):=by kernel_rfl)(hn:σ.Nodup:=by decide)
  (hr:(R a).2.all (Ent.refs (R a).2.length)=true:=by kernel_rfl) (hk:σ.take H0.length=List.range H0.length:=by kernel_rfl) (hv:(R a).1.map (fun p=>lk L p.1)=(R a).1.map (fun p=>SV.rn (b0Z σ) p.2):=by kernel_rfl) (hvr:(R a).1.all (fun p=>SV.refs (R a).2.length p.2)=true:=by kernel_rfl):PJ F (p0P F R Q o y) .normal L H:=by
 obtain rfl:=oi h
 exact fun x w hs=>⟨rfl,Wk.sel H0.length (by rw[hm]) hdom σ hl hg hn hr hk hv hvr x w hs⟩
/-! Binds. -/
theorem kcN {S T:Type} {X:Option S} {k:S→Option T} {r:T} (h:X.bind k=some r)(R:S→LE×a0o)(h1: ∀s,X=some s→J F P (cl c) L H (cutN F R s))(h2: ∀s,k s=some r→J F P (cr c) (R s).1 (R s).2 Q)(hc:n0e c=true:=by kernel_rfl):J F P c L H Q:=by
 obtain⟨s,e1,e2⟩:=a0f h
 exact K.cutN hc R s (h1 s e1) (h2 s e2)
theorem kcX {S X:Type} {M:Option (S⊕X)} {k:S→Option X} {r:X} (h:M.bind (a0g k)=some r)(R:S→LE×a0o)(h1: ∀y,M=some y→a0g k y=some r→J F P (cl c) L H (cutX F R Q y))(h2: ∀s,k s=some r→J F P (cr c) (R s).1 (R s).2 Q)(hc:n0e c=true:=by kernel_rfl):J F P c L H Q:=by
 obtain⟨y,e1,e2⟩:=a0f h
 exact K.cutX hc R y (h1 y e1 e2) (fun s hs=>by subst hs;exact h2 s (l0R e2))
theorem kIb {T:Type} [Inhabited T] {α:Type} {X:Option α} {r:α} {enc:T→List SV} {k:Nat} {xs:List T} {j:Int} (d:Nat)(hk: ∀x,(enc x).length=k)(h:(bif inR j xs.length then X else none)=some r)(kk:X=some r→RJ F P none ops (p+1) [] (g0e L (some d) (.ep (enc (nth xs j)))) H Q)
  (hh:p0E P none ops p [] L H=some (some d,⟨.ep (((xs.flatMap enc).drop (j.toNat*k)).take k),[],[]⟩,inR j xs.length,[]):=by kernel_rfl):RJ F P none ops p [] L H Q:=
 kI d hk (b0y h).1 (kk (b0y h).2) hh
theorem kGb {α:Type} {X:Option α} {r:α} {s:List UInt8} {j:Int} (d:Nat)(h:(bif inR j s.length then X else none)=some r)(kk:X=some r→RJ F P none ops (p+1) [] (g0e L (some d) (.int .u8 (((s.getD j.toNat 0).toNat:Nat):Int))) H Q)
  (hh:p0E P none ops p [] L H=some (some d,⟨.int .u8 (((s.getD j.toNat 0).toNat:Nat):Int),[],[]⟩,inR j s.length,[]):=by kernel_rfl):RJ F P none ops p [] L H Q:=
 kG d (b0y h).1 (kk (b0y h).2) hh
theorem kAb {f:FuncId} {args:List SV} {A R:Type} {X:Option A} {k:A→Option R} {r:R} {v:A→SV} (d:Nat)(h:X.bind k=some r)(hs: ∀y,X=some y→SC P f args [] (v y) [])(kk: ∀y,k y=some r→RJ F P none ops (p+1) [] (g0e L (some d) (v y)) H Q)
  (hc:h0b none ops p [] L []=some (some d,f,args,[]):=by kernel_rfl) (hr:SV.refsL 0 args=true:=by kernel_rfl) (hv: ∀y,SV.refs 0 (v y)=true:=by intro _;kernel_rfl):RJ F P none ops p [] L H Q:=by
 obtain⟨y,e1,e2⟩:=a0f h
 exact kA d (hs y e1) (kk y e2) hc hr (hv y)
theorem kAp {T α:Type} {X:Option α} {r:α} {xs ys:List T} (d i k w e:Nat)(rd:List Nat)(enc:T→List SV)(h:(bif room (xs.length+ys.length)then X else none)=some r)(kk:X=some r→RJ F P none ops (p+1) [] (g0e L (some d) (.vc k)) (b0M H [(i, .gone),(k,a0z enc w e (xs++ys))]) Q)
  (hh:p0E P none ops p [] L H=some (some d,⟨.vc k,rd,[(i, .gone),(k, .vec (xs.length+ys.length) w e (xs.flatMap enc++ys.flatMap enc))]⟩,room (xs.length+ys.length),[]):=by kernel_rfl):RJ F P none ops p [] L H Q:=
 RJ.rel (ef':=⟨.vc k,rd,[(i, .gone),(k,a0z enc w e (xs++ys))]⟩) hh (b0y h).1 (fun _=>N.app) rfl (kk (b0y h).2)
/-! Ends and calls, their heaps as they come out. -/
theorem kPV {H0 H':a0o} (σ:List Nat)(hH:F.H0=H0)(hdom: ∀i,F.H0.length≤i→F.D0 i=none)(hl:σ.length=H'.length:=by kernel_rfl)(hg:σ.map (fun i=>H[i]?)=H'.map (fun en=>some (Ent.rn (b0Z σ) en)):=by kernel_rfl)(hnd:σ.Nodup:=by decide)(hr:H'.all (Ent.refs H'.length)=true:=by kernel_rfl)
  (hk:σ.take H0.length=List.range H0.length:=by kernel_rfl) (hle:Nat.ble H0.length H'.length=true:=by kernel_rfl):PP F (A0u F H') L H:=K.panV σ hH hdom hl hg hnd hr hk hle
theorem kRV {fn:Func} {e:Exit} {H0 H':a0o} {v:SV} (σ:List Nat)(he:e= .normal∨e= .ret)(hn:F.n=fn.ntmps)(hH:F.H0=H0)(hdom: ∀i,F.H0.length≤i→F.D0 i=none)(hin:o0F fn.ntmps fn.results.toList=true:=by kernel_rfl)(hret:x0a P fn.results.toList L H=some (SV.rn (b0Z σ) v):=by kernel_rfl)
  (hl:σ.length=H'.length:=by kernel_rfl) (hg:σ.map (fun i=>H[i]?)=H'.map (fun en=>some (Ent.rn (b0Z σ) en)):=by kernel_rfl) (hnd:σ.Nodup:=by decide) (hr:H'.all (Ent.refs H'.length)=true:=by kernel_rfl) (hk:σ.take H0.length=List.range H0.length:=by kernel_rfl) (hle:Nat.ble H0.length H'.length=true:=by kernel_rfl)
  (hvr:SV.refs H'.length v=true:=by kernel_rfl):PJ F (u0k P fn F v H') e L H:=K.retV σ he hn hH hdom hin hret hl hg hnd hr hk hle rfl hvr
theorem kCP {f:FuncId} {args0:List SV} {H0 H0':a0o} (d:Option Nat)(σ:List Nat)(hs:SP P f args0 H0 H0')(k:PP F Q L (d0Q (b0Z σ) H0.length H H0'))(h:h0b none ops p [] L []=some (d,f,SV.rnL (b0Z σ) args0,[]):=by kernel_rfl)
  (hl:σ.length=H0.length:=by kernel_rfl) (hg:σ.map (fun i=>H[i]?)=H0.map (fun en=>some (Ent.rn (b0Z σ) en)):=by kernel_rfl) (hn:σ.Nodup:=by decide) (hr0:H0.all (Ent.refs H0.length)=true:=by kernel_rfl) (hlive:H0.all g0K=true:=by kernel_rfl) (hr:SV.refsL H0.length args0=true:=by kernel_rfl)
  (hle':Nat.ble H0.length H0'.length=true:=by kernel_rfl):RJ F P none ops p [] L H Q:=RJ.callP σ h rfl hl hg hn hr0 hlive hr (LeL.refl _) hs hle' rfl k
theorem kCg {f:FuncId} {args0:List SV} {v0:SV} {H0 H0':a0o} (d:Option Nat)(σ:List Nat)(hs:SC P f args0 H0 v0 H0')(kk:RJ F P none ops (p+1) [] (g0e L d (SV.rn (gOf (b0Z σ) H0.length H.length) v0)) (d0Q (b0Z σ) H0.length H H0') Q)(h:h0b none ops p [] L []=some (d,f,SV.rnL (b0Z σ) args0,[]):=by kernel_rfl)
  (hl:σ.length=H0.length:=by kernel_rfl) (hg:σ.map (fun i=>H[i]?)=H0.map (fun en=>some (Ent.rn (b0Z σ) en)):=by kernel_rfl) (hn:σ.Nodup:=by decide) (hr0:H0.all (Ent.refs H0.length)=true:=by kernel_rfl) (hlive:H0.all g0K=true:=by kernel_rfl) (hr:SV.refsL H0.length args0=true:=by kernel_rfl)
  (hle':Nat.ble H0.length H0'.length=true:=by kernel_rfl):RJ F P none ops p [] L H Q:=RJ.callG σ h rfl hl hg hn hr0 hlive hr (LeL.refl _) hs hle' rfl rfl kk
theorem kDr(k:RJ F P (some H.length) (h0h c) 0 [] L (H++List.replicate (k0w (h0h c)) .res) Q)(h:l0S true c=true:=by kernel_rfl)(hm:P.follows .mixedOrders=true:=by kernel_rfl)(hB:Region.lexB .any (h0h c)=true:=by kernel_rfl):J F P c L H Q:=K.draw h hm hB rfl rfl k
/-! Ways out, each in one step. -/
theorem kCx {S X:Type} {R:S→LE×a0o} {x:X} {y:S⊕X} {k:S→Option X} {r:Option X} {e:Exit} (hA:some (.inr x)=some y)(hC:a0g k y=r)(kk:some x=r→PJ F Q e L H)(hne:e≠ .normal:=by exact fun e=>nomatch e):PJ F (cutX F R Q y) e L H:=by
 obtain rfl:=oi hA;exact PJ.cutXr hne (kk hC)
theorem kLx {S O:Type} {R:S→LE×a0o} {o o':O} {y:S⊕O} {e:Exit} (hA:some (.inr o')=some y)(kk:some o'=some o→PJ F Q e L H)(hne:e≠ .normal:=by exact fun e=>nomatch e):PJ F (p0P F R Q o y) e L H:=by
 obtain rfl:=oi hA;exact PJ.loopOut hne (fun h=>kk (congrArg some h))
theorem kEx(i:Nat)(k:PJ F Q (.exit i) L H)(h:w0f i c=true:=by kernel_rfl):J F P c L H Q:=K.exit i h k
theorem kEp {d:Code} (i:Nat)(k:PJ F Q (.exit i) L H)(h:w0f i c=true:=by kernel_rfl):J F P c L H (l0b F P d Q):=K.exit i h (PJ.passExit k)
theorem kKb {i:Nat} (k:PJ F Q .normal L H)(h:r0m c=true:=by kernel_rfl):J F P c L H (Exit.inBlock i Q):=kK (PJ.blockNormal k) h
theorem kKn {d:Code} {i:Nat} (k:J F P d L H Q)(h:r0m c=true:=by kernel_rfl):J F P c L H (Exit.inBlock i (l0b F P d Q)):=kK (PJ.blockNormal (PJ.next k)) h
theorem kXb {i:Nat} (k:PJ F Q .ret L H)(h:w0d c=true:=by kernel_rfl):J F P c L H (Exit.inBlock i Q):=kX (PJ.blockRet k) h
theorem kXp {d:Code} {i:Nat} (k:PJ F Q .ret L H)(h:w0d c=true:=by kernel_rfl):J F P c L H (Exit.inBlock i (l0b F P d Q)):=kX (PJ.blockRet (PJ.passRet k)) h
end
end Go.Sy
