/-
  DERIVED. GIVEN WITH THE SEED: THE CARDS: each row of YteaokhdkocddcaaDoorRows.lean that lists a variable, with what it lists TIED to the program's text (the seventh form; the later family's looks); each row that meets fmt, with fmt's text TOLD by the authors' own Lean function (tested against real Go, not proved from fmt's source: count such statements apart). THE CARD IS WHAT COUNTS. Prove the row's statement (the work); the ties are given (YteaokhdkocddcaaDoorTie.lean); close each card by the builder's one call (the guide's Derived/Test/ToyasCard.lean, 'card_holds'). Laid BY PROGRAM, IN A SANDBOX (cutbox-door.mjs). By AI agents, Wed Nov 11 2026. No macro, syntax, notation, axiom, sorry.
-/
import Derived.Test.YteaokhdkocddcaaDoorRows
import GoSem.ClaimSeven
namespace Go.Proofs.YteaokhdkocddcaaDoor
namespace Rows

/-- THE TIED CARD OF 'exerguelaw12.PlurNames'. -/
def plurNamesCard : Claim7 := { stood := { row := plurNamesRow, standIns := [], harness := (true, "603a443b9f164538e0739a3ea5e8106252434e29fdafd7d40ff0f4cd6fa4a95a"), looks := false }, kinds := [], alts := [], laidByText := true, laidKinds := [.data, .data, .data], laidTests := true, laidLooks := .later }
def PlurNamesCardSaid : Prop := Claim7.holds Tryd.pinned (.plain (OpenSpec.ofChange plurNamesSpec)) plurNamesCard

/-- THE TIED CARD OF 'exerguelaw12.PlurSames'. -/
def plurSamesCard : Claim7 := { stood := { row := plurSamesRow, standIns := [], harness := (true, "603a443b9f164538e0739a3ea5e8106252434e29fdafd7d40ff0f4cd6fa4a95a"), looks := false }, kinds := [], alts := [], laidByText := true, laidKinds := [.data, .data, .data], laidTests := true, laidLooks := .later }
def PlurSamesCardSaid : Prop := Claim7.holds Tryd.pinned (.plain (OpenSpec.ofChange plurSamesSpec)) plurSamesCard

/-- THE TIED CARD OF 'exerguelaw12.PlurRead'. -/
def plurReadCard : Claim7 := { stood := { row := plurReadRow, standIns := [], harness := (true, "603a443b9f164538e0739a3ea5e8106252434e29fdafd7d40ff0f4cd6fa4a95a"), looks := false }, kinds := [], alts := [], laidByText := true, laidKinds := [.data, .data, .data], laidTests := true, laidLooks := .later }
def PlurReadCardSaid : Prop := Claim7.holds Tryd.pinned (.plain (OpenSpec.ofChange plurReadSpec)) plurReadCard

/-- THE SECOND FORM's CARD OF 'exerguelaw12.PlurNames'. -/
def plurNamesUptoCard : Claim7 := { stood := { row := plurNamesUptoRow, standIns := [], harness := (true, "603a443b9f164538e0739a3ea5e8106252434e29fdafd7d40ff0f4cd6fa4a95a"), looks := false }, kinds := [], alts := [], laidByText := true, laidKinds := [.data, .data, .data], laidTests := true, laidLooks := .later }
def PlurNamesUptoCardSaid : Prop := Claim7.holds Tryd.pinned (.plain (OpenSpec.upto plurNamesSpec)) plurNamesUptoCard

/-- THE SECOND FORM's CARD OF 'exerguelaw12.PlurSames'. -/
def plurSamesUptoCard : Claim7 := { stood := { row := plurSamesUptoRow, standIns := [], harness := (true, "603a443b9f164538e0739a3ea5e8106252434e29fdafd7d40ff0f4cd6fa4a95a"), looks := false }, kinds := [], alts := [], laidByText := true, laidKinds := [.data, .data, .data], laidTests := true, laidLooks := .later }
def PlurSamesUptoCardSaid : Prop := Claim7.holds Tryd.pinned (.plain (OpenSpec.upto plurSamesSpec)) plurSamesUptoCard

/-- THE SECOND FORM's CARD OF 'exerguelaw12.PlurRead'. -/
def plurReadUptoCard : Claim7 := { stood := { row := plurReadUptoRow, standIns := [], harness := (true, "603a443b9f164538e0739a3ea5e8106252434e29fdafd7d40ff0f4cd6fa4a95a"), looks := false }, kinds := [], alts := [], laidByText := true, laidKinds := [.data, .data, .data], laidTests := true, laidLooks := .later }
def PlurReadUptoCardSaid : Prop := Claim7.holds Tryd.pinned (.plain (OpenSpec.upto plurReadSpec)) plurReadUptoCard
end Rows
end Go.Proofs.YteaokhdkocddcaaDoor
