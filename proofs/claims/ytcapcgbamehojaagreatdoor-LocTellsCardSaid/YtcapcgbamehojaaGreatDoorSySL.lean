/-
 The second shadow machine: arrays that are written at running places, and told as a row.
-/
import Derived.Test.YtcapcgbamehojaaGreatDoorSyMP
namespace Go.Sy
open Go Go.RowKit
set_option linter.unusedSimpArgs false
set_option linter.unusedVariables false
set_option linter.unusedSectionVars false
variable [Inhabited GT]
section
variable {F : Fr} {P : Program} {L : LE} {H : a0o} {Q : h0f} {m : Option Nat} {ops : Array Oper} {p : Nat} {tr : List (List Nat × List Nat)}
end
def inP(o:Nat)(j:Int)(n:Nat):Bool:=decide (0≤j)&&decide ((o:Int)+j<n)
section
variable {T : Type} {enc : T → List SV} {k : Nat}
end
section
variable {T : Type} {enc : T → List SV} {k : Nat}
end
section
variable {F : Fr} {P : Program} {L : LE} {H : a0o} {Q : h0f} {ops : Array Oper} {p : Nat} {tr : List (List Nat × List Nat)}
end
end Go.Sy
