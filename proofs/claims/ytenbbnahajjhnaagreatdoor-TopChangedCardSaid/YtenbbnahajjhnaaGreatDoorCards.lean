/-
  DERIVED. GIVEN WITH THE SEED: THE CARDS: each row of YtenbbnahajjhnaaGreatDoorRows.lean that lists a variable, with what it lists TIED to the program's text (the seventh form; the later family's looks); each row that meets fmt, with fmt's text TOLD by the authors' own Lean function (tested against real Go, not proved from fmt's source: count such statements apart). THE CARD IS WHAT COUNTS. Prove the row's statement (the work); the ties are given (YtenbbnahajjhnaaGreatDoorTie.lean); close each card by the builder's one call (the guide's Derived/Test/ToyasCard.lean, 'card_holds'). Laid BY PROGRAM, IN A SANDBOX (cutbox-door.mjs). By AI agents, Wed Nov 11 2026. No macro, syntax, notation, axiom, sorry.
-/
import Derived.Test.YtenbbnahajjhnaaGreatDoorRows
import GoSem.ClaimSeven
namespace Go.Proofs.YtenbbnahajjhnaaGreatDoor
namespace Rows

/-- THE TIED CARD OF 'exerguetop.TopChanged'. -/
def topChangedCard : Claim7 := { stood := { row := topChangedRow, standIns := [], harness := (true, "7486b52fbb669fbd4ed21edd4d3c93776b04cc92ca9d8b16fdb3c3e433460106"), looks := false }, kinds := [], alts := [], laidByText := true, laidKinds := [.data, .data, .data, .data], laidTests := true, laidLooks := .later }
def TopChangedCardSaid : Prop := Claim7.holds Tryz.pinned (.plain (OpenSpec.ofChange topChangedSpec)) topChangedCard

/-- THE SECOND FORM's CARD OF 'exerguetop.TopChanged'. -/
def topChangedUptoCard : Claim7 := { stood := { row := topChangedUptoRow, standIns := [], harness := (true, "7486b52fbb669fbd4ed21edd4d3c93776b04cc92ca9d8b16fdb3c3e433460106"), looks := false }, kinds := [], alts := [], laidByText := true, laidKinds := [.data, .data, .data, .data], laidTests := true, laidLooks := .later }
def TopChangedUptoCardSaid : Prop := Claim7.holds Tryz.pinned (.plain (OpenSpec.upto topChangedSpec)) topChangedUptoCard
end Rows
end Go.Proofs.YtenbbnahajjhnaaGreatDoor
