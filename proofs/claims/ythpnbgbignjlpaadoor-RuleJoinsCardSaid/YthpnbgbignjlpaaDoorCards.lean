/-
  DERIVED. GIVEN WITH THE SEED: THE CARDS: each row of YthpnbgbignjlpaaDoorRows.lean that lists a variable, with what it lists TIED to the program's text (the seventh form; the later family's looks); each row that meets fmt, with fmt's text TOLD by the authors' own Lean function (tested against real Go, not proved from fmt's source: count such statements apart). THE CARD IS WHAT COUNTS. Prove the row's statement (the work); the ties are given (YthpnbgbignjlpaaDoorTie.lean); close each card by the builder's one call (the guide's Derived/Test/ToyasCard.lean, 'card_holds'). Laid BY PROGRAM, IN A SANDBOX (cutbox-door.mjs). By AI agents, Wed Nov 11 2026. No macro, syntax, notation, axiom, sorry.
-/
import Derived.Test.YthpnbgbignjlpaaDoorRows
import GoSem.ClaimSeven
namespace Go.Proofs.YthpnbgbignjlpaaDoor
namespace Rows

/-- THE TIED CARD OF 'exerguelaw11.RuleJoins'. -/
def ruleJoinsCard : Claim7 := { stood := { row := ruleJoinsRow, standIns := [], harness := (true, "685418db3fef076df66257e9506a1da9694b679f0b5ed40a25cd41672c9bff8e"), looks := false }, kinds := [], alts := [], laidByText := true, laidKinds := [.data, .data, .data], laidTests := true, laidLooks := .later }
def RuleJoinsCardSaid : Prop := Claim7.holds Tryd.pinned (.plain (OpenSpec.ofChange ruleJoinsSpec)) ruleJoinsCard

/-- THE TIED CARD OF 'exerguelaw11.RuleBlanks'. -/
def ruleBlanksCard : Claim7 := { stood := { row := ruleBlanksRow, standIns := [], harness := (true, "685418db3fef076df66257e9506a1da9694b679f0b5ed40a25cd41672c9bff8e"), looks := false }, kinds := [], alts := [], laidByText := true, laidKinds := [.data, .data, .data], laidTests := true, laidLooks := .later }
def RuleBlanksCardSaid : Prop := Claim7.holds Tryd.pinned (.plain (OpenSpec.ofChange ruleBlanksSpec)) ruleBlanksCard

/-- THE TIED CARD OF 'exerguelaw11.RuleWide'. -/
def ruleWideCard : Claim7 := { stood := { row := ruleWideRow, standIns := [], harness := (true, "685418db3fef076df66257e9506a1da9694b679f0b5ed40a25cd41672c9bff8e"), looks := false }, kinds := [], alts := [], laidByText := true, laidKinds := [.data, .data, .data], laidTests := true, laidLooks := .later }
def RuleWideCardSaid : Prop := Claim7.holds Tryd.pinned (.plain (OpenSpec.ofChange ruleWideSpec)) ruleWideCard

/-- THE SECOND FORM's CARD OF 'exerguelaw11.RuleJoins'. -/
def ruleJoinsUptoCard : Claim7 := { stood := { row := ruleJoinsUptoRow, standIns := [], harness := (true, "685418db3fef076df66257e9506a1da9694b679f0b5ed40a25cd41672c9bff8e"), looks := false }, kinds := [], alts := [], laidByText := true, laidKinds := [.data, .data, .data], laidTests := true, laidLooks := .later }
def RuleJoinsUptoCardSaid : Prop := Claim7.holds Tryd.pinned (.plain (OpenSpec.upto ruleJoinsSpec)) ruleJoinsUptoCard

/-- THE SECOND FORM's CARD OF 'exerguelaw11.RuleBlanks'. -/
def ruleBlanksUptoCard : Claim7 := { stood := { row := ruleBlanksUptoRow, standIns := [], harness := (true, "685418db3fef076df66257e9506a1da9694b679f0b5ed40a25cd41672c9bff8e"), looks := false }, kinds := [], alts := [], laidByText := true, laidKinds := [.data, .data, .data], laidTests := true, laidLooks := .later }
def RuleBlanksUptoCardSaid : Prop := Claim7.holds Tryd.pinned (.plain (OpenSpec.upto ruleBlanksSpec)) ruleBlanksUptoCard

/-- THE SECOND FORM's CARD OF 'exerguelaw11.RuleWide'. -/
def ruleWideUptoCard : Claim7 := { stood := { row := ruleWideUptoRow, standIns := [], harness := (true, "685418db3fef076df66257e9506a1da9694b679f0b5ed40a25cd41672c9bff8e"), looks := false }, kinds := [], alts := [], laidByText := true, laidKinds := [.data, .data, .data], laidTests := true, laidLooks := .later }
def RuleWideUptoCardSaid : Prop := Claim7.holds Tryd.pinned (.plain (OpenSpec.upto ruleWideSpec)) ruleWideUptoCard
end Rows
end Go.Proofs.YthpnbgbignjlpaaDoor
