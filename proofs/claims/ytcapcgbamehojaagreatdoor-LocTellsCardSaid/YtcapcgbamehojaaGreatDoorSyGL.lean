/-
 The second shadow machine: what package variables hold when a law begins.
-/
import Derived.Test.YtcapcgbamehojaaGreatDoorSyS
import Derived.MakeChecks
import Derived.ChangeArms
import Derived.OpenShut
import Derived.FnData
namespace Go.Sy
open Go Go.RowKit
set_option linter.unusedSimpArgs false
set_option linter.unusedVariables false
set_option linter.unusedSectionVars false
theorem x0P {P:Program} {w:World} : ∀(l:List (String×DataW Unit)) (ps:List MemPlace),DataW.LaidVars P w l ps→ ∀nm d,(nm,d)∈l→
  ∃g t cs fuel p,P.globalNamed nm=some g∧(P.globals[g]?).map (·.type)=some t∧w.var? P nm=some cs∧DataW.trod (fun _=>()) P w 0 (fun _=>true) false fuel t cs.toList=some (d,p):=by
 intro l
 induction l with
 |nil=>intro ps _ nm d h;simp at h
 |cons x r ih=>
  intro ps h nm d hm
  obtain⟨n,d'⟩:=x
  obtain⟨g,t,cs,fuel,p,q,h1,h2,h3,h4,h5,_⟩:=h
  rcases aG.1 hm with e|e
  ·cases e;exact⟨g,t,cs,fuel,p,h1,h2,h3,h4⟩
  ·exact ih q h5 nm d e
theorem l0W {P:Program} {w:World} {laid:List (String×DataW Unit)} (hp:(laid.all fun x=>x.2.handleName?.isNone)=true)(h:laidMetH P laid w) {nm:String} {g t e:Nat} {n:Nat} {k:IntKind} (ns:List Int)
  (hm:(nm,DataW.agg (ns.map fun z=> .lit (.int k z)))∈laid) (hg:P.globalNamed nm=some g) (ht:(P.globals[g]?).map (·.type)=some t) (hu:P.underlying t=some (.array n e)) (hue:P.underlying e=some (.int k)) (he:P.cellsOf e=1) (hct:P.cellsOf t=n):
  Rep w (KW w) (fun _=>none) (.pointer (some ⟨g,0,none⟩)) (.ep (ns.map (SV.int k))):=by
 rw[MakeChecks.laidMetH_plain _ _ _ hp]at h
 obtain⟨ps,hl,_,_⟩:=h
 obtain⟨g',t',cs,fuel,p,h1,h2,h3,h4⟩:=x0P _ _ hl _ _ hm
 obtain rfl:=aZ (hg.symm.trans h1)
 obtain rfl:=aZ (ht.symm.trans h2)
 obtain⟨xs,m,_,ex,hlen,hxl,hel⟩:=DataW.trod_array hu h4
 rw[hct]at hlen
 have e3:ns.map (fun z=>(DataW.lit (.int k z):DataW Unit))=xs.map (·.1):=DataW.agg.inj (bo ex).1
 have hnl:ns.length=n:=by have:=congrArg List.length e3;simpa [hxl]using this
 have hval:cs.toList=ns.map (Value.int k):=by
  apply bC
  intro i
  by_cases hi:i<n
  ·have hE:=hel i hi
   rw[he,Nat.mul_one,ae (by omega:i<xs.length)]at hE
   obtain⟨z,e1,e2,_⟩:=DataW.trod_int hue hE
   have e4:=congrArg (fun l=>l[i]?) e3
   simp only[am,ae (by omega:i<xs.length),ae (by omega:i<ns.length),e2,aI,ai,DataW.lit.injEq,Lit.int.injEq,true_and]at e4
   rw[am,ae (by omega:i<ns.length),aI,e4]
   have:((cs.toList.drop i).take 1)[0]?=some (.int k z):=by rw[e1];rfl
   rw[aX,if_pos (by omega),List.getElem?_drop]at this
   simpa using this
  ·rw[aw (by omega),aw (by simp;omega)]
 have hcell: ∀(j:Nat) v,(ns.map (Value.int k))[j]?=some v→w.cell? ⟨g,0+j,none⟩=some v:=fun j v hj=>by
  rw[aU,World.var?_cell h1 h3 j]
  rw[←hval]at hj
  simpa using hj
 refine .ep g 0 (ns.map (Value.int k)) _ (by simp) hcell ?_ (fun v hv=> ?_) ?_ (fun j v c hv hc=> ?_)
 ·rw[aU]
  have hsz:w.heap[g]?=none∨ ∃x,w.heap[g]?=some x:=by cases w.heap[g]?<;>simp
  have hv3:=h3
  simp only[World.var?,h1,aa]at hv3
  unfold KW
  split at hv3
  ·rename_i c a b hb
   rw[hb]
   cases hv3
   have:=congrArg List.length hval
   simp only[bU,cq]at this⊢
   omega
  ·cases hv3
 ·obtain⟨z,_,rfl⟩:=aK.1 hv;rfl
 ·simp only[b0x,List.all_map,List.all_eq_true];intro z _;rfl
 ·rw[am]at hv hc
  cases hx:ns[j]? with
  |none=>rw[hx]at hv;cases hv
  |some z=>rw[hx]at hv hc;cases hv;cases hc;exact .int _ _
end Go.Sy
