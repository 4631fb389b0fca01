/-
  DERIVED. GIVEN WITH THE SEED: THE CARDS: each row of YtjlgflhfihmabaaGreatDoorRows.lean that lists a variable, with what it lists TIED to the program's text (the seventh form; the later family's looks); each row that meets fmt, with fmt's text TOLD by the authors' own Lean function (tested against real Go, not proved from fmt's source: count such statements apart). THE CARD IS WHAT COUNTS. Prove the row's statement (the work); the ties are given (YtjlgflhfihmabaaGreatDoorTie.lean); close each card by the builder's one call (the guide's Derived/Test/ToyasCard.lean, 'card_holds'). Laid BY PROGRAM, IN A SANDBOX (cutbox-door.mjs). By AI agents, Wed Nov 11 2026. No macro, syntax, notation, axiom, sorry.
-/
import Derived.Test.YtjlgflhfihmabaaGreatDoorRows
import GoSem.ClaimSeven
namespace Go.Proofs.YtjlgflhfihmabaaGreatDoor
namespace Rows

/-- THE TIED CARD OF 'exerguelaw20.CertSames'. -/
def certSamesCard : Claim7 := { stood := { row := certSamesRow, standIns := [], harness := (true, "15804dc7fe5a2562284dc5cb2c878cc423931ca054b0435eedb89837d5b45441"), looks := false }, kinds := [], alts := [], laidByText := true, laidKinds := [.data, .data, .data, .data], laidTests := true, laidLooks := .later }
def CertSamesCardSaid : Prop := Claim7.holds Tryz.pinned (.plain (OpenSpec.ofChange certSamesSpec)) certSamesCard

/-- THE SECOND FORM's CARD OF 'exerguelaw20.CertSames'. -/
def certSamesUptoCard : Claim7 := { stood := { row := certSamesUptoRow, standIns := [], harness := (true, "15804dc7fe5a2562284dc5cb2c878cc423931ca054b0435eedb89837d5b45441"), looks := false }, kinds := [], alts := [], laidByText := true, laidKinds := [.data, .data, .data, .data], laidTests := true, laidLooks := .later }
def CertSamesUptoCardSaid : Prop := Claim7.holds Tryz.pinned (.plain (OpenSpec.upto certSamesSpec)) certSamesUptoCard
end Rows
end Go.Proofs.YtjlgflhfihmabaaGreatDoor
