/-
 What those functions come to, told by plain functions of lists and numbers. Conditions: as each theorem says.
-/
import Derived.Test.YtcapcgbamehojaaGreatDoorGc
import Derived.Test.YtcapcgbamehojaaGreatDoorSyZ
namespace Go.Proofs.YtcapcgbamehojaaGreatDoor
open Go Go.Sy Go.RowKit Go.ChangeShapes Go.WideShapes Go.ChangeAt
set_option linter.unusedVariables false
set_option linter.unusedSimpArgs false
set_option maxRecDepth 100000
set_option maxHeartbeats 4000000
theorem shown_true : exerguelaw15_shown = some true := by kernel_rfl

end Go.Proofs.YtcapcgbamehojaaGreatDoor
