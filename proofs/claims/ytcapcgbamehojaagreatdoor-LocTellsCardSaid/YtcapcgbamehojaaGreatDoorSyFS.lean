/-
 A field of an element of a list, at a running place, is written.
-/
import Derived.Test.YtcapcgbamehojaaGreatDoorSyKK
namespace Go.Sy
open Go Go.RowKit
set_option linter.unusedVariables false
set_option linter.unusedSectionVars false
variable [Inhabited GT]
section
variable {T : Type} [Inhabited T] {enc : T → List SV} {k : Nat}
end
end Go.Sy
