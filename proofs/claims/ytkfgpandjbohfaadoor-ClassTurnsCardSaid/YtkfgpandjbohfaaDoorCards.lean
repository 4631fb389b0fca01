/-
  DERIVED. GIVEN WITH THE SEED: THE CARDS: each row of YtkfgpandjbohfaaDoorRows.lean that lists a variable, with what it lists TIED to the program's text (the seventh form; the later family's looks); each row that meets fmt, with fmt's text TOLD by the authors' own Lean function (tested against real Go, not proved from fmt's source: count such statements apart). THE CARD IS WHAT COUNTS. Prove the row's statement (the work); the ties are given (YtkfgpandjbohfaaDoorTie.lean); close each card by the builder's one call (the guide's Derived/Test/ToyasCard.lean, 'card_holds'). Laid BY PROGRAM, IN A SANDBOX (cutbox-door.mjs). By AI agents, Wed Nov 11 2026. No macro, syntax, notation, axiom, sorry.
-/
import Derived.Test.YtkfgpandjbohfaaDoorRows
import GoSem.ClaimSeven
namespace Go.Proofs.YtkfgpandjbohfaaDoor
namespace Rows

/-- THE TIED CARD OF 'exerguelaw02.ClassTells'. -/
def classTellsCard : Claim7 := { stood := { row := classTellsRow, standIns := [], harness := (true, "a133e539a428a76a80148d35644e63306282038f6d62e7d6125e3b0fe46df40a"), looks := false }, kinds := [], alts := [], laidByText := true, laidKinds := [.data], laidTests := true, laidLooks := .later }
def ClassTellsCardSaid : Prop := Claim7.holds Tryd.pinned (.plain (OpenSpec.ofChange classTellsSpec)) classTellsCard

/-- THE TIED CARD OF 'exerguelaw02.ClassRows'. -/
def classRowsCard : Claim7 := { stood := { row := classRowsRow, standIns := [], harness := (true, "a133e539a428a76a80148d35644e63306282038f6d62e7d6125e3b0fe46df40a"), looks := false }, kinds := [], alts := [], laidByText := true, laidKinds := [.data], laidTests := true, laidLooks := .later }
def ClassRowsCardSaid : Prop := Claim7.holds Tryd.pinned (.plain (OpenSpec.ofChange classRowsSpec)) classRowsCard

/-- THE TIED CARD OF 'exerguelaw02.ClassBlocks'. -/
def classBlocksCard : Claim7 := { stood := { row := classBlocksRow, standIns := [], harness := (true, "a133e539a428a76a80148d35644e63306282038f6d62e7d6125e3b0fe46df40a"), looks := false }, kinds := [], alts := [], laidByText := true, laidKinds := [.data], laidTests := true, laidLooks := .later }
def ClassBlocksCardSaid : Prop := Claim7.holds Tryd.pinned (.plain (OpenSpec.ofChange classBlocksSpec)) classBlocksCard

/-- THE TIED CARD OF 'exerguelaw02.ClassJoins'. -/
def classJoinsCard : Claim7 := { stood := { row := classJoinsRow, standIns := [], harness := (true, "a133e539a428a76a80148d35644e63306282038f6d62e7d6125e3b0fe46df40a"), looks := false }, kinds := [], alts := [], laidByText := true, laidKinds := [.data], laidTests := true, laidLooks := .later }
def ClassJoinsCardSaid : Prop := Claim7.holds Tryd.pinned (.plain (OpenSpec.ofChange classJoinsSpec)) classJoinsCard

/-- THE TIED CARD OF 'exerguelaw02.ClassWhole'. -/
def classWholeCard : Claim7 := { stood := { row := classWholeRow, standIns := [], harness := (true, "a133e539a428a76a80148d35644e63306282038f6d62e7d6125e3b0fe46df40a"), looks := false }, kinds := [], alts := [], laidByText := true, laidKinds := [.data], laidTests := true, laidLooks := .later }
def ClassWholeCardSaid : Prop := Claim7.holds Tryd.pinned (.plain (OpenSpec.ofChange classWholeSpec)) classWholeCard

/-- THE TIED CARD OF 'exerguelaw02.ClassTurns'. -/
def classTurnsCard : Claim7 := { stood := { row := classTurnsRow, standIns := [], harness := (true, "a133e539a428a76a80148d35644e63306282038f6d62e7d6125e3b0fe46df40a"), looks := false }, kinds := [], alts := [], laidByText := true, laidKinds := [.data], laidTests := true, laidLooks := .later }
def ClassTurnsCardSaid : Prop := Claim7.holds Tryd.pinned (.plain (OpenSpec.ofChange classTurnsSpec)) classTurnsCard

/-- THE SECOND FORM's CARD OF 'exerguelaw02.ClassTells'. -/
def classTellsUptoCard : Claim7 := { stood := { row := classTellsUptoRow, standIns := [], harness := (true, "a133e539a428a76a80148d35644e63306282038f6d62e7d6125e3b0fe46df40a"), looks := false }, kinds := [], alts := [], laidByText := true, laidKinds := [.data], laidTests := true, laidLooks := .later }
def ClassTellsUptoCardSaid : Prop := Claim7.holds Tryd.pinned (.plain (OpenSpec.upto classTellsSpec)) classTellsUptoCard

/-- THE SECOND FORM's CARD OF 'exerguelaw02.ClassRows'. -/
def classRowsUptoCard : Claim7 := { stood := { row := classRowsUptoRow, standIns := [], harness := (true, "a133e539a428a76a80148d35644e63306282038f6d62e7d6125e3b0fe46df40a"), looks := false }, kinds := [], alts := [], laidByText := true, laidKinds := [.data], laidTests := true, laidLooks := .later }
def ClassRowsUptoCardSaid : Prop := Claim7.holds Tryd.pinned (.plain (OpenSpec.upto classRowsSpec)) classRowsUptoCard

/-- THE SECOND FORM's CARD OF 'exerguelaw02.ClassBlocks'. -/
def classBlocksUptoCard : Claim7 := { stood := { row := classBlocksUptoRow, standIns := [], harness := (true, "a133e539a428a76a80148d35644e63306282038f6d62e7d6125e3b0fe46df40a"), looks := false }, kinds := [], alts := [], laidByText := true, laidKinds := [.data], laidTests := true, laidLooks := .later }
def ClassBlocksUptoCardSaid : Prop := Claim7.holds Tryd.pinned (.plain (OpenSpec.upto classBlocksSpec)) classBlocksUptoCard

/-- THE SECOND FORM's CARD OF 'exerguelaw02.ClassJoins'. -/
def classJoinsUptoCard : Claim7 := { stood := { row := classJoinsUptoRow, standIns := [], harness := (true, "a133e539a428a76a80148d35644e63306282038f6d62e7d6125e3b0fe46df40a"), looks := false }, kinds := [], alts := [], laidByText := true, laidKinds := [.data], laidTests := true, laidLooks := .later }
def ClassJoinsUptoCardSaid : Prop := Claim7.holds Tryd.pinned (.plain (OpenSpec.upto classJoinsSpec)) classJoinsUptoCard

/-- THE SECOND FORM's CARD OF 'exerguelaw02.ClassWhole'. -/
def classWholeUptoCard : Claim7 := { stood := { row := classWholeUptoRow, standIns := [], harness := (true, "a133e539a428a76a80148d35644e63306282038f6d62e7d6125e3b0fe46df40a"), looks := false }, kinds := [], alts := [], laidByText := true, laidKinds := [.data], laidTests := true, laidLooks := .later }
def ClassWholeUptoCardSaid : Prop := Claim7.holds Tryd.pinned (.plain (OpenSpec.upto classWholeSpec)) classWholeUptoCard

/-- THE SECOND FORM's CARD OF 'exerguelaw02.ClassTurns'. -/
def classTurnsUptoCard : Claim7 := { stood := { row := classTurnsUptoRow, standIns := [], harness := (true, "a133e539a428a76a80148d35644e63306282038f6d62e7d6125e3b0fe46df40a"), looks := false }, kinds := [], alts := [], laidByText := true, laidKinds := [.data], laidTests := true, laidLooks := .later }
def ClassTurnsUptoCardSaid : Prop := Claim7.holds Tryd.pinned (.plain (OpenSpec.upto classTurnsSpec)) classTurnsUptoCard
end Rows
end Go.Proofs.YtkfgpandjbohfaaDoor
