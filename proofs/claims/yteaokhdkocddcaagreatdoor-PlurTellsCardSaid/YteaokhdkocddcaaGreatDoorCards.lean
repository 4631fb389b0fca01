/-
  DERIVED. GIVEN WITH THE SEED: THE CARDS: each row of YteaokhdkocddcaaGreatDoorRows.lean that lists a variable, with what it lists TIED to the program's text (the seventh form; the later family's looks); each row that meets fmt, with fmt's text TOLD by the authors' own Lean function (tested against real Go, not proved from fmt's source: count such statements apart). THE CARD IS WHAT COUNTS. Prove the row's statement (the work); the ties are given (YteaokhdkocddcaaGreatDoorTie.lean); close each card by the builder's one call (the guide's Derived/Test/ToyasCard.lean, 'card_holds'). Laid BY PROGRAM, IN A SANDBOX (cutbox-door.mjs). By AI agents, Wed Nov 11 2026. No macro, syntax, notation, axiom, sorry.
-/
import Derived.Test.YteaokhdkocddcaaGreatDoorRows
import GoSem.ClaimSeven
namespace Go.Proofs.YteaokhdkocddcaaGreatDoor
namespace Rows

/-- THE TIED CARD OF 'exerguelaw12.PlurReads'. -/
def plurReadsCard : Claim7 := { stood := { row := plurReadsRow, standIns := [], harness := (true, "1df901756edcb7090dca3586d182771b87d59cff0259e4c5cc235352d138d1ff"), looks := false }, kinds := [], alts := [], laidByText := true, laidKinds := [.data, .data, .data], laidTests := true, laidLooks := .later }
def PlurReadsCardSaid : Prop := Claim7.holds Tryz.pinned (.plain (OpenSpec.ofChange plurReadsSpec)) plurReadsCard

/-- THE TIED CARD OF 'exerguelaw12.PlurTells'. -/
def plurTellsCard : Claim7 := { stood := { row := plurTellsRow, standIns := [], harness := (true, "1df901756edcb7090dca3586d182771b87d59cff0259e4c5cc235352d138d1ff"), looks := false }, kinds := [], alts := [], laidByText := true, laidKinds := [.data, .data, .data], laidTests := true, laidLooks := .later }
def PlurTellsCardSaid : Prop := Claim7.holds Tryz.pinned (.plain (OpenSpec.ofChange plurTellsSpec)) plurTellsCard

/-- THE TIED CARD OF 'exerguelaw12.PlurTotal'. -/
def plurTotalCard : Claim7 := { stood := { row := plurTotalRow, standIns := [], harness := (true, "1df901756edcb7090dca3586d182771b87d59cff0259e4c5cc235352d138d1ff"), looks := false }, kinds := [], alts := [], laidByText := true, laidKinds := [.data, .data, .data], laidTests := true, laidLooks := .later }
def PlurTotalCardSaid : Prop := Claim7.holds Tryz.pinned (.plain (OpenSpec.ofChange plurTotalSpec)) plurTotalCard

/-- THE TIED CARD OF 'exerguelaw12.PlurLess'. -/
def plurLessCard : Claim7 := { stood := { row := plurLessRow, standIns := [], harness := (true, "1df901756edcb7090dca3586d182771b87d59cff0259e4c5cc235352d138d1ff"), looks := false }, kinds := [], alts := [], laidByText := true, laidKinds := [.data, .data, .data], laidTests := true, laidLooks := .later }
def PlurLessCardSaid : Prop := Claim7.holds Tryz.pinned (.plain (OpenSpec.ofChange plurLessSpec)) plurLessCard

/-- THE SECOND FORM's CARD OF 'exerguelaw12.PlurReads'. -/
def plurReadsUptoCard : Claim7 := { stood := { row := plurReadsUptoRow, standIns := [], harness := (true, "1df901756edcb7090dca3586d182771b87d59cff0259e4c5cc235352d138d1ff"), looks := false }, kinds := [], alts := [], laidByText := true, laidKinds := [.data, .data, .data], laidTests := true, laidLooks := .later }
def PlurReadsUptoCardSaid : Prop := Claim7.holds Tryz.pinned (.plain (OpenSpec.upto plurReadsSpec)) plurReadsUptoCard

/-- THE SECOND FORM's CARD OF 'exerguelaw12.PlurTells'. -/
def plurTellsUptoCard : Claim7 := { stood := { row := plurTellsUptoRow, standIns := [], harness := (true, "1df901756edcb7090dca3586d182771b87d59cff0259e4c5cc235352d138d1ff"), looks := false }, kinds := [], alts := [], laidByText := true, laidKinds := [.data, .data, .data], laidTests := true, laidLooks := .later }
def PlurTellsUptoCardSaid : Prop := Claim7.holds Tryz.pinned (.plain (OpenSpec.upto plurTellsSpec)) plurTellsUptoCard

/-- THE SECOND FORM's CARD OF 'exerguelaw12.PlurTotal'. -/
def plurTotalUptoCard : Claim7 := { stood := { row := plurTotalUptoRow, standIns := [], harness := (true, "1df901756edcb7090dca3586d182771b87d59cff0259e4c5cc235352d138d1ff"), looks := false }, kinds := [], alts := [], laidByText := true, laidKinds := [.data, .data, .data], laidTests := true, laidLooks := .later }
def PlurTotalUptoCardSaid : Prop := Claim7.holds Tryz.pinned (.plain (OpenSpec.upto plurTotalSpec)) plurTotalUptoCard

/-- THE SECOND FORM's CARD OF 'exerguelaw12.PlurLess'. -/
def plurLessUptoCard : Claim7 := { stood := { row := plurLessUptoRow, standIns := [], harness := (true, "1df901756edcb7090dca3586d182771b87d59cff0259e4c5cc235352d138d1ff"), looks := false }, kinds := [], alts := [], laidByText := true, laidKinds := [.data, .data, .data], laidTests := true, laidLooks := .later }
def PlurLessUptoCardSaid : Prop := Claim7.holds Tryz.pinned (.plain (OpenSpec.upto plurLessSpec)) plurLessUptoCard
end Rows
end Go.Proofs.YteaokhdkocddcaaGreatDoor
