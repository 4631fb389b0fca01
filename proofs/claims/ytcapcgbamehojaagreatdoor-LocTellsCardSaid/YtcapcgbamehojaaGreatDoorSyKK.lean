/-
 More rules under short names; what they speak of is read off what they are given.
-/
import Derived.Test.YtcapcgbamehojaaGreatDoorSyV
import Derived.Test.YtcapcgbamehojaaGreatDoorSyQ
namespace Go.Sy
open Go Go.RowKit
set_option linter.unusedVariables false
set_option linter.unusedSectionVars false
variable [Inhabited GT]
section
variable {F : Fr} {P : Program} {c : Code} {L : LE} {H : a0o} {Q : h0f} {ops : Array Oper} {p : Nat}
theorem kI {T:Type} [Inhabited T] {enc:T→List SV} {k:Nat} {xs:List T} {j:Int} (d:Nat)(hk: ∀x,(enc x).length=k)(hm:inR j xs.length=true)(kk:RJ F P none ops (p+1) [] (g0e L (some d) (.ep (enc (nth xs j)))) H Q)
  (h:p0E P none ops p [] L H=some (some d,⟨.ep (((xs.flatMap enc).drop (j.toNat*k)).take k),[],[]⟩,inR j xs.length,[]):=by kernel_rfl):RJ F P none ops p [] L H Q:=
 RJ.rel h hm (fun hc=>N.idx hk hc) rfl kk
theorem kG {s:List UInt8} {j:Int} (d:Nat)(hm:inR j s.length=true)(kk:RJ F P none ops (p+1) [] (g0e L (some d) (.int .u8 (((s.getD j.toNat 0).toNat:Nat):Int))) H Q)
  (h:p0E P none ops p [] L H=some (some d,⟨.int .u8 (((s.getD j.toNat 0).toNat:Nat):Int),[],[]⟩,inR j s.length,[]):=by kernel_rfl):RJ F P none ops p [] L H Q:=
 RJ.rel h hm (fun _=>rfl) rfl kk
theorem kA {f:FuncId} {args:List SV} {v:SV} (d:Nat)(hs:SC P f args [] v [])(kk:RJ F P none ops (p+1) [] (g0e L (some d) v) H Q)(h:h0b none ops p [] L []=some (some d,f,args,[]):=by kernel_rfl)(hr:SV.refsL 0 args=true:=by kernel_rfl)(hv:SV.refs 0 v=true:=by kernel_rfl):RJ F P none ops p [] L H Q:=by
 refine RJ.call0 h hr ?_ hs hv kk
 exact LeL.refl args
theorem kB {α:Type} {m:Option Nat} {tr:List (List Nat×List Nat)} {b:Bool} {X Y:α} {r:α} (d:Nat)(h:(bif b then X else Y)=r)(h1:X=r→RJ F P m ops p tr ((d, .bool true)::L) H Q)(h2:Y=r→RJ F P m ops p tr ((d, .bool false)::L) H Q)
  (hd:lk L d= .bool b:=by kernel_rfl):RJ F P m ops p tr L H Q:=RJ.caseB d hd (fun hb=>h1 (condT hb h)) (fun hb=>h2 (condF hb h))
variable {m : Option Nat} {tr tr2 : List (List Nat × List Nat)}
theorem kQ {b:Bool} (d:Nat)(v:SV)(rd:List Nat)(hm:b=true)(kk:RJ F P m ops (p+1) tr2 (g0e L (some d) v) H Q)(h:p0E P m ops p tr L H=some (some d,⟨v,rd,[]⟩,b,tr2):=by kernel_rfl):RJ F P m ops p tr L H Q:=RJ.rel h hm (fun _=>rfl) rfl kk
theorem kJ {T:Type} [Inhabited T] {enc:T→List SV} {k:Nat} {xs:List T} {j:Int} (d:Nat)(hk: ∀x,(enc x).length=k)(hm:inR j xs.length=true)(kk:RJ F P m ops (p+1) tr2 (g0e L (some d) (.ep (enc (nth xs j)))) H Q)
  (h:p0E P m ops p tr L H=some (some d,⟨.ep (((xs.flatMap enc).drop (j.toNat*k)).take k),[],[]⟩,inR j xs.length,tr2):=by kernel_rfl):RJ F P m ops p tr L H Q:=RJ.rel h hm (fun hc=>N.idx hk hc) rfl kk
theorem kCG {f:FuncId} {args args0:List SV} {v0 v:SV} {H0 H0' H2:a0o} (d:Option Nat)(σ:List Nat)(hs:SC P f args0 H0 v0 H0')(kk:RJ F P none ops (p+1) [] (g0e L d v) H2 Q)(h:h0b none ops p [] L []=some (d,f,args,[]):=by kernel_rfl)(ha:args=SV.rnL (b0Z σ) args0:=by kernel_rfl)
  (hl:σ.length=H0.length:=by kernel_rfl) (hg:σ.map (fun i=>H[i]?)=H0.map (fun en=>some (Ent.rn (b0Z σ) en)):=by kernel_rfl) (hn:σ.Nodup:=by decide) (hr0:H0.all (Ent.refs H0.length)=true:=by kernel_rfl) (hlive:H0.all g0K=true:=by kernel_rfl) (hr:SV.refsL H0.length args0=true:=by kernel_rfl)
  (hle':Nat.ble H0.length H0'.length=true:=by kernel_rfl) (hv:SV.rn (gOf (b0Z σ) H0.length H.length) v0=v:=by kernel_rfl) (hH:d0Q (b0Z σ) H0.length H H0'=H2:=by kernel_rfl):RJ F P none ops p [] L H Q:=
 RJ.callG σ h ha hl hg hn hr0 hlive hr (LeL.refl _) hs hle' hv hH kk
theorem kb(i:Nat)(k:J F P (cb c) L H (Exit.inBlock i Q))(h:s0u i c=true:=by kernel_rfl):J F P c L H Q:=K.block i h k
theorem kl {S O:Type} {step:S→Option (S⊕O)} {n:Nat} {s0:S} {o:O} (R:S→LE×a0o)(ho:a0s step n s0=some o)(ts:List Nat)(body: ∀s x,step s=some x→J F P (cp c) (R s).1 (R s).2 (p0P F R Q o x))(h:w0e c=true:=by kernel_rfl)(hL:h0O ts L=(R s0).1:=by kernel_rfl)(hH:H=(R s0).2:=by kernel_rfl):J F P c L H Q:=
 K.loop h R ho ts hL hH body
end
end Go.Sy
