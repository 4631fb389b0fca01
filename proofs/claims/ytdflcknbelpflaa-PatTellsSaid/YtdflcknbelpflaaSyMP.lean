/-
 The second shadow machine: maps that are written out, their entries laid in whatever order.
-/
import Derived.Test.YtdflcknbelpflaaSyMR
namespace Go.Sy
open Go Go.RowKit
set_option linter.unusedSimpArgs false
set_option linter.unusedVariables false
set_option linter.unusedSectionVars false
variable [Inhabited GT]
section
variable {F : Fr} {P : Program} {L : LE} {H : Heap} {Q : Post} {ops : Array Oper} {p : Nat} {tr : List (List Nat × List Nat)} {ρ : Env}
/-! Laying it. -/
end
end Go.Sy
