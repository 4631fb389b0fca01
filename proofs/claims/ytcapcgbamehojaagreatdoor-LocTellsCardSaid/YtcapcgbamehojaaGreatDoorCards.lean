/-
  DERIVED. GIVEN WITH THE SEED: THE CARDS: each row of YtcapcgbamehojaaGreatDoorRows.lean that lists a variable, with what it lists TIED to the program's text (the seventh form; the later family's looks); each row that meets fmt, with fmt's text TOLD by the authors' own Lean function (tested against real Go, not proved from fmt's source: count such statements apart). THE CARD IS WHAT COUNTS. Prove the row's statement (the work); the ties are given (YtcapcgbamehojaaGreatDoorTie.lean); close each card by the builder's one call (the guide's Derived/Test/ToyasCard.lean, 'card_holds'). Laid BY PROGRAM, IN A SANDBOX (cutbox-door.mjs). By AI agents, Wed Nov 11 2026. No macro, syntax, notation, axiom, sorry.
-/
import Derived.Test.YtcapcgbamehojaaGreatDoorRows
import GoSem.ClaimSeven
namespace Go.Proofs.YtcapcgbamehojaaGreatDoor
namespace Rows

/-- THE TIED CARD OF 'exerguelaw15.LocTells'. -/
def locTellsCard : Claim7 := { stood := { row := locTellsRow, standIns := [], harness := (true, "de599d8f743361fb38ba7e693bad57f7b00ee969443c7958de219e14c746c2b3"), looks := false }, kinds := [], alts := [], laidByText := true, laidKinds := [.data, .data, .data, .data], laidTests := true, laidLooks := .later }
def LocTellsCardSaid : Prop := Claim7.holds Tryz.pinned (.plain (OpenSpec.ofChange locTellsSpec)) locTellsCard

/-- THE TIED CARD OF 'exerguelaw15.LocParts'. -/
def locPartsCard : Claim7 := { stood := { row := locPartsRow, standIns := [], harness := (true, "de599d8f743361fb38ba7e693bad57f7b00ee969443c7958de219e14c746c2b3"), looks := false }, kinds := [], alts := [], laidByText := true, laidKinds := [.data, .data, .data, .data], laidTests := true, laidLooks := .later }
def LocPartsCardSaid : Prop := Claim7.holds Tryz.pinned (.plain (OpenSpec.ofChange locPartsSpec)) locPartsCard

/-- THE TIED CARD OF 'exerguelaw15.LocLess'. -/
def locLessCard : Claim7 := { stood := { row := locLessRow, standIns := [], harness := (true, "de599d8f743361fb38ba7e693bad57f7b00ee969443c7958de219e14c746c2b3"), looks := false }, kinds := [], alts := [], laidByText := true, laidKinds := [.data, .data, .data, .data], laidTests := true, laidLooks := .later }
def LocLessCardSaid : Prop := Claim7.holds Tryz.pinned (.plain (OpenSpec.ofChange locLessSpec)) locLessCard

/-- THE TIED CARD OF 'exerguelaw15.LocPattern'. -/
def locPatternCard : Claim7 := { stood := { row := locPatternRow, standIns := [], harness := (true, "de599d8f743361fb38ba7e693bad57f7b00ee969443c7958de219e14c746c2b3"), looks := false }, kinds := [], alts := [], laidByText := true, laidKinds := [.data, .data, .data, .data], laidTests := true, laidLooks := .later }
def LocPatternCardSaid : Prop := Claim7.holds Tryz.pinned (.plain (OpenSpec.ofChange locPatternSpec)) locPatternCard

/-- THE TIED CARD OF 'exerguelaw15.LocTag'. -/
def locTagCard : Claim7 := { stood := { row := locTagRow, standIns := [], harness := (true, "de599d8f743361fb38ba7e693bad57f7b00ee969443c7958de219e14c746c2b3"), looks := false }, kinds := [], alts := [], laidByText := true, laidKinds := [.data, .data, .data, .data], laidTests := true, laidLooks := .later }
def LocTagCardSaid : Prop := Claim7.holds Tryz.pinned (.plain (OpenSpec.ofChange locTagSpec)) locTagCard

/-- THE TIED CARD OF 'exerguelaw15.LocConfused'. -/
def locConfusedCard : Claim7 := { stood := { row := locConfusedRow, standIns := [], harness := (true, "de599d8f743361fb38ba7e693bad57f7b00ee969443c7958de219e14c746c2b3"), looks := false }, kinds := [], alts := [], laidByText := true, laidKinds := [.data, .data, .data, .data], laidTests := true, laidLooks := .later }
def LocConfusedCardSaid : Prop := Claim7.holds Tryz.pinned (.plain (OpenSpec.ofChange locConfusedSpec)) locConfusedCard

/-- THE SECOND FORM's CARD OF 'exerguelaw15.LocTells'. -/
def locTellsUptoCard : Claim7 := { stood := { row := locTellsUptoRow, standIns := [], harness := (true, "de599d8f743361fb38ba7e693bad57f7b00ee969443c7958de219e14c746c2b3"), looks := false }, kinds := [], alts := [], laidByText := true, laidKinds := [.data, .data, .data, .data], laidTests := true, laidLooks := .later }
def LocTellsUptoCardSaid : Prop := Claim7.holds Tryz.pinned (.plain (OpenSpec.upto locTellsSpec)) locTellsUptoCard

/-- THE SECOND FORM's CARD OF 'exerguelaw15.LocParts'. -/
def locPartsUptoCard : Claim7 := { stood := { row := locPartsUptoRow, standIns := [], harness := (true, "de599d8f743361fb38ba7e693bad57f7b00ee969443c7958de219e14c746c2b3"), looks := false }, kinds := [], alts := [], laidByText := true, laidKinds := [.data, .data, .data, .data], laidTests := true, laidLooks := .later }
def LocPartsUptoCardSaid : Prop := Claim7.holds Tryz.pinned (.plain (OpenSpec.upto locPartsSpec)) locPartsUptoCard

/-- THE SECOND FORM's CARD OF 'exerguelaw15.LocLess'. -/
def locLessUptoCard : Claim7 := { stood := { row := locLessUptoRow, standIns := [], harness := (true, "de599d8f743361fb38ba7e693bad57f7b00ee969443c7958de219e14c746c2b3"), looks := false }, kinds := [], alts := [], laidByText := true, laidKinds := [.data, .data, .data, .data], laidTests := true, laidLooks := .later }
def LocLessUptoCardSaid : Prop := Claim7.holds Tryz.pinned (.plain (OpenSpec.upto locLessSpec)) locLessUptoCard

/-- THE SECOND FORM's CARD OF 'exerguelaw15.LocPattern'. -/
def locPatternUptoCard : Claim7 := { stood := { row := locPatternUptoRow, standIns := [], harness := (true, "de599d8f743361fb38ba7e693bad57f7b00ee969443c7958de219e14c746c2b3"), looks := false }, kinds := [], alts := [], laidByText := true, laidKinds := [.data, .data, .data, .data], laidTests := true, laidLooks := .later }
def LocPatternUptoCardSaid : Prop := Claim7.holds Tryz.pinned (.plain (OpenSpec.upto locPatternSpec)) locPatternUptoCard

/-- THE SECOND FORM's CARD OF 'exerguelaw15.LocTag'. -/
def locTagUptoCard : Claim7 := { stood := { row := locTagUptoRow, standIns := [], harness := (true, "de599d8f743361fb38ba7e693bad57f7b00ee969443c7958de219e14c746c2b3"), looks := false }, kinds := [], alts := [], laidByText := true, laidKinds := [.data, .data, .data, .data], laidTests := true, laidLooks := .later }
def LocTagUptoCardSaid : Prop := Claim7.holds Tryz.pinned (.plain (OpenSpec.upto locTagSpec)) locTagUptoCard

/-- THE SECOND FORM's CARD OF 'exerguelaw15.LocConfused'. -/
def locConfusedUptoCard : Claim7 := { stood := { row := locConfusedUptoRow, standIns := [], harness := (true, "de599d8f743361fb38ba7e693bad57f7b00ee969443c7958de219e14c746c2b3"), looks := false }, kinds := [], alts := [], laidByText := true, laidKinds := [.data, .data, .data, .data], laidTests := true, laidLooks := .later }
def LocConfusedUptoCardSaid : Prop := Claim7.holds Tryz.pinned (.plain (OpenSpec.upto locConfusedSpec)) locConfusedUptoCard
end Rows
end Go.Proofs.YtcapcgbamehojaaGreatDoor
