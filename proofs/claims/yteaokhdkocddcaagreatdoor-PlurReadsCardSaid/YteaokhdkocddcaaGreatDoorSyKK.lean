/-
 More rules under short names; what they speak of is read off what they are given.
-/
import Derived.Test.YteaokhdkocddcaaGreatDoorSyV
import Derived.Test.YteaokhdkocddcaaGreatDoorSyQ
namespace Go.Sy
open Go Go.RowKit
set_option linter.unusedVariables false
set_option linter.unusedSectionVars false
variable [Inhabited GT]
section
variable {F : Fr} {P : Program} {c : Code} {L : LE} {H : Heap} {Q : Post} {ops : Array Oper} {p : Nat}
theorem kI {T : Type} [Inhabited T] {enc : T → List SV} {k : Nat} {xs : List T} {j : Int} (d : Nat) (hk : ∀ x, (enc x).length = k) (hm : inR j xs.length = true) (kk : RJ F P none ops (p + 1) [] (putL L (some d) (.ep (enc (nth xs j)))) H Q)
  (h : relAt P none ops p [] L H = some (some d, ⟨.ep (((xs.flatMap enc).drop (j.toNat * k)).take k), [], []⟩, inR j xs.length, []) := by kernel_rfl) : RJ F P none ops p [] L H Q :=
 RJ.rel h hm (fun hc => N.idx hk hc) rfl kk
theorem kG {s : List UInt8} {j : Int} (d : Nat) (hm : inR j s.length = true) (kk : RJ F P none ops (p + 1) [] (putL L (some d) (.int .u8 (((s.getD j.toNat 0).toNat : Nat) : Int))) H Q)
  (h : relAt P none ops p [] L H = some (some d, ⟨.int .u8 (((s.getD j.toNat 0).toNat : Nat) : Int), [], []⟩, inR j s.length, []) := by kernel_rfl) : RJ F P none ops p [] L H Q :=
 RJ.rel h hm (fun _ => rfl) rfl kk
theorem kA {f : FuncId} {args : List SV} {v : SV} (d : Nat) (hs : SC P f args [] v []) (kk : RJ F P none ops (p + 1) [] (putL L (some d) v) H Q) (h : callAt none ops p [] L [] = some (some d, f, args, []) := by kernel_rfl) (hr : SV.refsL 0 args = true := by kernel_rfl) (hv : SV.refs 0 v = true := by kernel_rfl) : RJ F P none ops p [] L H Q := by
 refine RJ.call0 h hr ?_ hs hv kk
 exact LeL.refl args
theorem kB {α : Type} {m : Option Nat} {tr : List (List Nat × List Nat)} {b : Bool} {X Y : α} {r : α} (d : Nat) (h : (bif b then X else Y) = r) (h1 : X = r → RJ F P m ops p tr ((d, .bool true) :: L) H Q) (h2 : Y = r → RJ F P m ops p tr ((d, .bool false) :: L) H Q)
  (hd : lk L d = .bool b := by kernel_rfl) : RJ F P m ops p tr L H Q := RJ.caseB d hd (fun hb => h1 (condT hb h)) (fun hb => h2 (condF hb h))
theorem kBJ {α : Type} {b : Bool} {X Y : α} {r : α} (d : Nat) (h : (bif b then X else Y) = r) (h1 : X = r → J F P c ((d, .bool true) :: L) H Q) (h2 : Y = r → J F P c ((d, .bool false) :: L) H Q)
  (hd : lk L d = .bool b := by kernel_rfl) : J F P c L H Q := J.caseB d hd (fun hb => h1 (condT hb h)) (fun hb => h2 (condF hb h))
end
end Go.Sy
