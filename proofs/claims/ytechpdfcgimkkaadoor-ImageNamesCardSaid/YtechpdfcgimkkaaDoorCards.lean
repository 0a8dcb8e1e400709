/-
  DERIVED. GIVEN WITH THE SEED: THE CARDS: each row of YtechpdfcgimkkaaDoorRows.lean that lists a variable, with what it lists TIED to the program's text (the seventh form; the later family's looks); each row that meets fmt, with fmt's text TOLD by the authors' own Lean function (tested against real Go, not proved from fmt's source: count such statements apart). THE CARD IS WHAT COUNTS. Prove the row's statement (the work); the ties are given (YtechpdfcgimkkaaDoorTie.lean); close each card by the builder's one call (the guide's Derived/Test/ToyasCard.lean, 'card_holds'). Laid BY PROGRAM, IN A SANDBOX (cutbox-door.mjs). By AI agents, Wed Nov 11 2026. No macro, syntax, notation, axiom, sorry.
-/
import Derived.Test.YtechpdfcgimkkaaDoorRows
import GoSem.ClaimSeven
namespace Go.Proofs.YtechpdfcgimkkaaDoor
namespace Rows

/-- THE TIED CARD OF 'boltholekeep.ImageBack'. -/
def imageBackCard : Claim7 := { stood := { row := imageBackRow, standIns := [], harness := (true, "6980de3a54825a6bb337ca5e764a7ac8c4e19a88ab31b0cb3f7e042dd533094f"), looks := false }, kinds := [], alts := [], laidByText := true, laidKinds := [.data, .data, .data, .data, .data], laidTests := true, laidLooks := .later }
def ImageBackCardSaid : Prop := Claim7.holds Tryd.pinned (.plain (OpenSpec.ofChange imageBackSpec)) imageBackCard

/-- THE TIED CARD OF 'boltholekeep.LinesAt'. -/
def linesAtCard : Claim7 := { stood := { row := linesAtRow, standIns := [], harness := (true, "6980de3a54825a6bb337ca5e764a7ac8c4e19a88ab31b0cb3f7e042dd533094f"), looks := false }, kinds := [], alts := [], laidByText := true, laidKinds := [.data, .data, .data, .data, .data], laidTests := true, laidLooks := .later }
def LinesAtCardSaid : Prop := Claim7.holds Tryd.pinned (.plain (OpenSpec.ofChange linesAtSpec)) linesAtCard

/-- THE TIED CARD OF 'boltholekeep.ImageNames'. -/
def imageNamesCard : Claim7 := { stood := { row := imageNamesRow, standIns := [], harness := (true, "6980de3a54825a6bb337ca5e764a7ac8c4e19a88ab31b0cb3f7e042dd533094f"), looks := false }, kinds := [], alts := [], laidByText := true, laidKinds := [.data, .data, .data, .data, .data], laidTests := true, laidLooks := .later }
def ImageNamesCardSaid : Prop := Claim7.holds Tryd.pinned (.plain (OpenSpec.ofChange imageNamesSpec)) imageNamesCard

/-- THE TIED CARD OF 'boltholekeep.ImageApart'. -/
def imageApartCard : Claim7 := { stood := { row := imageApartRow, standIns := [], harness := (true, "6980de3a54825a6bb337ca5e764a7ac8c4e19a88ab31b0cb3f7e042dd533094f"), looks := false }, kinds := [], alts := [], laidByText := true, laidKinds := [.data, .data, .data, .data, .data], laidTests := true, laidLooks := .later }
def ImageApartCardSaid : Prop := Claim7.holds Tryd.pinned (.plain (OpenSpec.ofChange imageApartSpec)) imageApartCard

/-- THE TIED CARD OF 'boltholelaw.StepRuns'. -/
def stepRunsCard : Claim7 := { stood := { row := stepRunsRow, standIns := [], harness := (true, "6980de3a54825a6bb337ca5e764a7ac8c4e19a88ab31b0cb3f7e042dd533094f"), looks := false }, kinds := [], alts := [], laidByText := true, laidKinds := [.data, .data], laidTests := true, laidLooks := .later }
def StepRunsCardSaid : Prop := Claim7.holds Tryd.pinned (.plain (OpenSpec.ofChange stepRunsSpec)) stepRunsCard

/-- THE TIED CARD OF 'boltholekeep.Sums'. -/
def sumsCard : Claim7 := { stood := { row := sumsRow, standIns := [], harness := (true, "6980de3a54825a6bb337ca5e764a7ac8c4e19a88ab31b0cb3f7e042dd533094f"), looks := false }, kinds := [], alts := [], laidByText := true, laidKinds := [.data, .data], laidTests := true, laidLooks := .later }
def SumsCardSaid : Prop := Claim7.holds Tryd.pinned (.plain (OpenSpec.ofChange sumsSpec)) sumsCard

/-- THE TIED CARD OF 'boltholekeep.Bits'. -/
def bitsCard : Claim7 := { stood := { row := bitsRow, standIns := [], harness := (true, "6980de3a54825a6bb337ca5e764a7ac8c4e19a88ab31b0cb3f7e042dd533094f"), looks := false }, kinds := [], alts := [], laidByText := true, laidKinds := [.data, .data], laidTests := true, laidLooks := .later }
def BitsCardSaid : Prop := Claim7.holds Tryd.pinned (.plain (OpenSpec.ofChange bitsSpec)) bitsCard

/-- THE TIED CARD OF 'boltholekeep.Memory'. -/
def memoryCard : Claim7 := { stood := { row := memoryRow, standIns := [], harness := (true, "6980de3a54825a6bb337ca5e764a7ac8c4e19a88ab31b0cb3f7e042dd533094f"), looks := false }, kinds := [], alts := [], laidByText := true, laidKinds := [.data, .data], laidTests := true, laidLooks := .later }
def MemoryCardSaid : Prop := Claim7.holds Tryd.pinned (.plain (OpenSpec.ofChange memorySpec)) memoryCard

/-- THE TIED CARD OF 'boltholekeep.Branches'. -/
def branchesCard : Claim7 := { stood := { row := branchesRow, standIns := [], harness := (true, "6980de3a54825a6bb337ca5e764a7ac8c4e19a88ab31b0cb3f7e042dd533094f"), looks := false }, kinds := [], alts := [], laidByText := true, laidKinds := [.data, .data], laidTests := true, laidLooks := .later }
def BranchesCardSaid : Prop := Claim7.holds Tryd.pinned (.plain (OpenSpec.ofChange branchesSpec)) branchesCard

/-- THE TIED CARD OF 'boltholekeep.Calls'. -/
def callsCard : Claim7 := { stood := { row := callsRow, standIns := [], harness := (true, "6980de3a54825a6bb337ca5e764a7ac8c4e19a88ab31b0cb3f7e042dd533094f"), looks := false }, kinds := [], alts := [], laidByText := true, laidKinds := [.data, .data], laidTests := true, laidLooks := .later }
def CallsCardSaid : Prop := Claim7.holds Tryd.pinned (.plain (OpenSpec.ofChange callsSpec)) callsCard

/-- THE TIED CARD OF 'boltholekeep.FuelRuns'. -/
def fuelRunsCard : Claim7 := { stood := { row := fuelRunsRow, standIns := [], harness := (true, "6980de3a54825a6bb337ca5e764a7ac8c4e19a88ab31b0cb3f7e042dd533094f"), looks := false }, kinds := [], alts := [], laidByText := true, laidKinds := [.data, .data, .data, .data, .data], laidTests := true, laidLooks := .later }
def FuelRunsCardSaid : Prop := Claim7.holds Tryd.pinned (.plain (OpenSpec.ofChange fuelRunsSpec)) fuelRunsCard

/-- THE TIED CARD OF 'boltholekeep.InputsIn'. -/
def inputsInCard : Claim7 := { stood := { row := inputsInRow, standIns := [], harness := (true, "6980de3a54825a6bb337ca5e764a7ac8c4e19a88ab31b0cb3f7e042dd533094f"), looks := false }, kinds := [], alts := [], laidByText := true, laidKinds := [.data, .data, .data, .data, .data], laidTests := true, laidLooks := .later }
def InputsInCardSaid : Prop := Claim7.holds Tryd.pinned (.plain (OpenSpec.ofChange inputsInSpec)) inputsInCard

/-- THE TIED CARD OF 'boltholekeep.Loops'. -/
def loopsCard : Claim7 := { stood := { row := loopsRow, standIns := [], harness := (true, "6980de3a54825a6bb337ca5e764a7ac8c4e19a88ab31b0cb3f7e042dd533094f"), looks := false }, kinds := [], alts := [], laidByText := true, laidKinds := [.data, .data], laidTests := true, laidLooks := .later }
def LoopsCardSaid : Prop := Claim7.holds Tryd.pinned (.plain (OpenSpec.ofChange loopsSpec)) loopsCard

/-- THE SECOND FORM's CARD OF 'boltholekeep.ImageBack'. -/
def imageBackUptoCard : Claim7 := { stood := { row := imageBackUptoRow, standIns := [], harness := (true, "6980de3a54825a6bb337ca5e764a7ac8c4e19a88ab31b0cb3f7e042dd533094f"), looks := false }, kinds := [], alts := [], laidByText := true, laidKinds := [.data, .data, .data, .data, .data], laidTests := true, laidLooks := .later }
def ImageBackUptoCardSaid : Prop := Claim7.holds Tryd.pinned (.plain (OpenSpec.upto imageBackSpec)) imageBackUptoCard

/-- THE SECOND FORM's CARD OF 'boltholekeep.LinesAt'. -/
def linesAtUptoCard : Claim7 := { stood := { row := linesAtUptoRow, standIns := [], harness := (true, "6980de3a54825a6bb337ca5e764a7ac8c4e19a88ab31b0cb3f7e042dd533094f"), looks := false }, kinds := [], alts := [], laidByText := true, laidKinds := [.data, .data, .data, .data, .data], laidTests := true, laidLooks := .later }
def LinesAtUptoCardSaid : Prop := Claim7.holds Tryd.pinned (.plain (OpenSpec.upto linesAtSpec)) linesAtUptoCard

/-- THE SECOND FORM's CARD OF 'boltholekeep.ImageNames'. -/
def imageNamesUptoCard : Claim7 := { stood := { row := imageNamesUptoRow, standIns := [], harness := (true, "6980de3a54825a6bb337ca5e764a7ac8c4e19a88ab31b0cb3f7e042dd533094f"), looks := false }, kinds := [], alts := [], laidByText := true, laidKinds := [.data, .data, .data, .data, .data], laidTests := true, laidLooks := .later }
def ImageNamesUptoCardSaid : Prop := Claim7.holds Tryd.pinned (.plain (OpenSpec.upto imageNamesSpec)) imageNamesUptoCard

/-- THE SECOND FORM's CARD OF 'boltholekeep.ImageApart'. -/
def imageApartUptoCard : Claim7 := { stood := { row := imageApartUptoRow, standIns := [], harness := (true, "6980de3a54825a6bb337ca5e764a7ac8c4e19a88ab31b0cb3f7e042dd533094f"), looks := false }, kinds := [], alts := [], laidByText := true, laidKinds := [.data, .data, .data, .data, .data], laidTests := true, laidLooks := .later }
def ImageApartUptoCardSaid : Prop := Claim7.holds Tryd.pinned (.plain (OpenSpec.upto imageApartSpec)) imageApartUptoCard

/-- THE SECOND FORM's CARD OF 'boltholelaw.StepRuns'. -/
def stepRunsUptoCard : Claim7 := { stood := { row := stepRunsUptoRow, standIns := [], harness := (true, "6980de3a54825a6bb337ca5e764a7ac8c4e19a88ab31b0cb3f7e042dd533094f"), looks := false }, kinds := [], alts := [], laidByText := true, laidKinds := [.data, .data], laidTests := true, laidLooks := .later }
def StepRunsUptoCardSaid : Prop := Claim7.holds Tryd.pinned (.plain (OpenSpec.upto stepRunsSpec)) stepRunsUptoCard

/-- THE SECOND FORM's CARD OF 'boltholekeep.Sums'. -/
def sumsUptoCard : Claim7 := { stood := { row := sumsUptoRow, standIns := [], harness := (true, "6980de3a54825a6bb337ca5e764a7ac8c4e19a88ab31b0cb3f7e042dd533094f"), looks := false }, kinds := [], alts := [], laidByText := true, laidKinds := [.data, .data], laidTests := true, laidLooks := .later }
def SumsUptoCardSaid : Prop := Claim7.holds Tryd.pinned (.plain (OpenSpec.upto sumsSpec)) sumsUptoCard

/-- THE SECOND FORM's CARD OF 'boltholekeep.Bits'. -/
def bitsUptoCard : Claim7 := { stood := { row := bitsUptoRow, standIns := [], harness := (true, "6980de3a54825a6bb337ca5e764a7ac8c4e19a88ab31b0cb3f7e042dd533094f"), looks := false }, kinds := [], alts := [], laidByText := true, laidKinds := [.data, .data], laidTests := true, laidLooks := .later }
def BitsUptoCardSaid : Prop := Claim7.holds Tryd.pinned (.plain (OpenSpec.upto bitsSpec)) bitsUptoCard

/-- THE SECOND FORM's CARD OF 'boltholekeep.Memory'. -/
def memoryUptoCard : Claim7 := { stood := { row := memoryUptoRow, standIns := [], harness := (true, "6980de3a54825a6bb337ca5e764a7ac8c4e19a88ab31b0cb3f7e042dd533094f"), looks := false }, kinds := [], alts := [], laidByText := true, laidKinds := [.data, .data], laidTests := true, laidLooks := .later }
def MemoryUptoCardSaid : Prop := Claim7.holds Tryd.pinned (.plain (OpenSpec.upto memorySpec)) memoryUptoCard

/-- THE SECOND FORM's CARD OF 'boltholekeep.Branches'. -/
def branchesUptoCard : Claim7 := { stood := { row := branchesUptoRow, standIns := [], harness := (true, "6980de3a54825a6bb337ca5e764a7ac8c4e19a88ab31b0cb3f7e042dd533094f"), looks := false }, kinds := [], alts := [], laidByText := true, laidKinds := [.data, .data], laidTests := true, laidLooks := .later }
def BranchesUptoCardSaid : Prop := Claim7.holds Tryd.pinned (.plain (OpenSpec.upto branchesSpec)) branchesUptoCard

/-- THE SECOND FORM's CARD OF 'boltholekeep.Calls'. -/
def callsUptoCard : Claim7 := { stood := { row := callsUptoRow, standIns := [], harness := (true, "6980de3a54825a6bb337ca5e764a7ac8c4e19a88ab31b0cb3f7e042dd533094f"), looks := false }, kinds := [], alts := [], laidByText := true, laidKinds := [.data, .data], laidTests := true, laidLooks := .later }
def CallsUptoCardSaid : Prop := Claim7.holds Tryd.pinned (.plain (OpenSpec.upto callsSpec)) callsUptoCard

/-- THE SECOND FORM's CARD OF 'boltholekeep.FuelRuns'. -/
def fuelRunsUptoCard : Claim7 := { stood := { row := fuelRunsUptoRow, standIns := [], harness := (true, "6980de3a54825a6bb337ca5e764a7ac8c4e19a88ab31b0cb3f7e042dd533094f"), looks := false }, kinds := [], alts := [], laidByText := true, laidKinds := [.data, .data, .data, .data, .data], laidTests := true, laidLooks := .later }
def FuelRunsUptoCardSaid : Prop := Claim7.holds Tryd.pinned (.plain (OpenSpec.upto fuelRunsSpec)) fuelRunsUptoCard

/-- THE SECOND FORM's CARD OF 'boltholekeep.InputsIn'. -/
def inputsInUptoCard : Claim7 := { stood := { row := inputsInUptoRow, standIns := [], harness := (true, "6980de3a54825a6bb337ca5e764a7ac8c4e19a88ab31b0cb3f7e042dd533094f"), looks := false }, kinds := [], alts := [], laidByText := true, laidKinds := [.data, .data, .data, .data, .data], laidTests := true, laidLooks := .later }
def InputsInUptoCardSaid : Prop := Claim7.holds Tryd.pinned (.plain (OpenSpec.upto inputsInSpec)) inputsInUptoCard

/-- THE SECOND FORM's CARD OF 'boltholekeep.Loops'. -/
def loopsUptoCard : Claim7 := { stood := { row := loopsUptoRow, standIns := [], harness := (true, "6980de3a54825a6bb337ca5e764a7ac8c4e19a88ab31b0cb3f7e042dd533094f"), looks := false }, kinds := [], alts := [], laidByText := true, laidKinds := [.data, .data], laidTests := true, laidLooks := .later }
def LoopsUptoCardSaid : Prop := Claim7.holds Tryd.pinned (.plain (OpenSpec.upto loopsSpec)) loopsUptoCard
end Rows
end Go.Proofs.YtechpdfcgimkkaaDoor
