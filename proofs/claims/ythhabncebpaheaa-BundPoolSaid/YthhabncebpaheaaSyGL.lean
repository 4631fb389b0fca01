/-
 The second shadow machine: what package variables hold when a law begins.
-/
import Derived.Test.YthhabncebpaheaaSyS
import Derived.MakeChecks
import Derived.ChangeArms
import Derived.OpenShut
import Derived.FnData
namespace Go.Sy
open Go Go.RowKit
set_option linter.unusedSimpArgs false
set_option linter.unusedVariables false
set_option linter.unusedSectionVars false
end Go.Sy
