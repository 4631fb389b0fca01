/-
  DERIVED. GIVEN WITH THE SEED: THE CARDS: each row of YtafbfodcilkgmaaGreatDoorRows.lean that lists a variable, with what it lists TIED to the program's text (the seventh form; the later family's looks); each row that meets fmt, with fmt's text TOLD by the authors' own Lean function (tested against real Go, not proved from fmt's source: count such statements apart). THE CARD IS WHAT COUNTS. Prove the row's statement (the work); the ties are given (YtafbfodcilkgmaaGreatDoorTie.lean); close each card by the builder's one call (the guide's Derived/Test/ToyasCard.lean, 'card_holds'). Laid BY PROGRAM, IN A SANDBOX (cutbox-door.mjs). By AI agents, Wed Nov 11 2026. No macro, syntax, notation, axiom, sorry.
-/
import Derived.Test.YtafbfodcilkgmaaGreatDoorRows
import GoSem.ClaimSeven
namespace Go.Proofs.YtafbfodcilkgmaaGreatDoor
namespace Rows

/-- THE TIED CARD OF 'exerguelaw20.CertBounds'. -/
def certBoundsCard : Claim7 := { stood := { row := certBoundsRow, standIns := [], harness := (true, "c506bdc50fc89279cc88e470994b36ad160b1e57bffd288459224d24eab5d144"), looks := false }, kinds := [], alts := [], laidByText := true, laidKinds := [.data, .data, .data, .data], laidTests := true, laidLooks := .later }
def CertBoundsCardSaid : Prop := Claim7.holds Tryz.pinned (.plain (OpenSpec.ofChange certBoundsSpec)) certBoundsCard

/-- THE TIED CARD OF 'exerguelaw20.CertSame'. -/
def certSameCard : Claim7 := { stood := { row := certSameRow, standIns := [], harness := (true, "c506bdc50fc89279cc88e470994b36ad160b1e57bffd288459224d24eab5d144"), looks := false }, kinds := [], alts := [], laidByText := true, laidKinds := [.data, .data, .data, .data], laidTests := true, laidLooks := .later }
def CertSameCardSaid : Prop := Claim7.holds Tryz.pinned (.plain (OpenSpec.ofChange certSameSpec)) certSameCard

/-- THE TIED CARD OF 'exerguelaw20.CertStops'. -/
def certStopsCard : Claim7 := { stood := { row := certStopsRow, standIns := [], harness := (true, "c506bdc50fc89279cc88e470994b36ad160b1e57bffd288459224d24eab5d144"), looks := false }, kinds := [], alts := [], laidByText := true, laidKinds := [.data, .data, .data, .data], laidTests := true, laidLooks := .later }
def CertStopsCardSaid : Prop := Claim7.holds Tryz.pinned (.plain (OpenSpec.ofChange certStopsSpec)) certStopsCard

/-- THE SECOND FORM's CARD OF 'exerguelaw20.CertBounds'. -/
def certBoundsUptoCard : Claim7 := { stood := { row := certBoundsUptoRow, standIns := [], harness := (true, "c506bdc50fc89279cc88e470994b36ad160b1e57bffd288459224d24eab5d144"), looks := false }, kinds := [], alts := [], laidByText := true, laidKinds := [.data, .data, .data, .data], laidTests := true, laidLooks := .later }
def CertBoundsUptoCardSaid : Prop := Claim7.holds Tryz.pinned (.plain (OpenSpec.upto certBoundsSpec)) certBoundsUptoCard

/-- THE SECOND FORM's CARD OF 'exerguelaw20.CertSame'. -/
def certSameUptoCard : Claim7 := { stood := { row := certSameUptoRow, standIns := [], harness := (true, "c506bdc50fc89279cc88e470994b36ad160b1e57bffd288459224d24eab5d144"), looks := false }, kinds := [], alts := [], laidByText := true, laidKinds := [.data, .data, .data, .data], laidTests := true, laidLooks := .later }
def CertSameUptoCardSaid : Prop := Claim7.holds Tryz.pinned (.plain (OpenSpec.upto certSameSpec)) certSameUptoCard

/-- THE SECOND FORM's CARD OF 'exerguelaw20.CertStops'. -/
def certStopsUptoCard : Claim7 := { stood := { row := certStopsUptoRow, standIns := [], harness := (true, "c506bdc50fc89279cc88e470994b36ad160b1e57bffd288459224d24eab5d144"), looks := false }, kinds := [], alts := [], laidByText := true, laidKinds := [.data, .data, .data, .data], laidTests := true, laidLooks := .later }
def CertStopsUptoCardSaid : Prop := Claim7.holds Tryz.pinned (.plain (OpenSpec.upto certStopsSpec)) certStopsUptoCard
end Rows
end Go.Proofs.YtafbfodcilkgmaaGreatDoor
