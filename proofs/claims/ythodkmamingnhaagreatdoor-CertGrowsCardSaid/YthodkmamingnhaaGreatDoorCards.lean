/-
  DERIVED. GIVEN WITH THE SEED: THE CARDS: each row of YthodkmamingnhaaGreatDoorRows.lean that lists a variable, with what it lists TIED to the program's text (the seventh form; the later family's looks); each row that meets fmt, with fmt's text TOLD by the authors' own Lean function (tested against real Go, not proved from fmt's source: count such statements apart). THE CARD IS WHAT COUNTS. Prove the row's statement (the work); the ties are given (YthodkmamingnhaaGreatDoorTie.lean); close each card by the builder's one call (the guide's Derived/Test/ToyasCard.lean, 'card_holds'). Laid BY PROGRAM, IN A SANDBOX (cutbox-door.mjs). By AI agents, Wed Nov 11 2026. No macro, syntax, notation, axiom, sorry.
-/
import Derived.Test.YthodkmamingnhaaGreatDoorRows
import GoSem.ClaimSeven
namespace Go.Proofs.YthodkmamingnhaaGreatDoor
namespace Rows

/-- THE TIED CARD OF 'exerguelaw20.CertGrows'. -/
def certGrowsCard : Claim7 := { stood := { row := certGrowsRow, standIns := [], harness := (true, "3259a06217691dcd40705606b0ea54ef8583cd43d20f9232a54cfcbd97247008"), looks := false }, kinds := [], alts := [], laidByText := true, laidKinds := [.data, .data, .data, .data], laidTests := true, laidLooks := .later }
def CertGrowsCardSaid : Prop := Claim7.holds Tryz.pinned (.plain (OpenSpec.ofChange certGrowsSpec)) certGrowsCard

/-- THE SECOND FORM's CARD OF 'exerguelaw20.CertGrows'. -/
def certGrowsUptoCard : Claim7 := { stood := { row := certGrowsUptoRow, standIns := [], harness := (true, "3259a06217691dcd40705606b0ea54ef8583cd43d20f9232a54cfcbd97247008"), looks := false }, kinds := [], alts := [], laidByText := true, laidKinds := [.data, .data, .data, .data], laidTests := true, laidLooks := .later }
def CertGrowsUptoCardSaid : Prop := Claim7.holds Tryz.pinned (.plain (OpenSpec.upto certGrowsSpec)) certGrowsUptoCard
end Rows
end Go.Proofs.YthodkmamingnhaaGreatDoor
