/-
  DERIVED. GIVEN WITH THE SEED: THE CARDS: each row of YtfnfdofenaegpaaDoorRows.lean that lists a variable, with what it lists TIED to the program's text (the seventh form; the later family's looks); each row that meets fmt, with fmt's text TOLD by the authors' own Lean function (tested against real Go, not proved from fmt's source: count such statements apart). THE CARD IS WHAT COUNTS. Prove the row's statement (the work); the ties are given (YtfnfdofenaegpaaDoorTie.lean); close each card by the builder's one call (the guide's Derived/Test/ToyasCard.lean, 'card_holds'). Laid BY PROGRAM, IN A SANDBOX (cutbox-door.mjs). By AI agents, Wed Nov 11 2026. No macro, syntax, notation, axiom, sorry.
-/
import Derived.Test.YtfnfdofenaegpaaDoorRows
import GoSem.ClaimSeven
namespace Go.Proofs.YtfnfdofenaegpaaDoor
namespace Rows

/-- THE TIED CARD OF 'amblerlaw02.CtrlTells'. -/
def ctrlTellsCard : Claim7 := { stood := { row := ctrlTellsRow, standIns := [], harness := (true, "58e2d9ec8f7fe97adfdea93288fff4d8b5ccd3e790e50d061dbdbda07ac00f05"), looks := true }, kinds := [], alts := [], laidByText := true, laidKinds := [.sentinel, .sentinel], laidTests := true, laidLooks := .later }
def CtrlTellsCardSaid : Prop := Claim7.holds Tryd.pinned (.plain (OpenSpec.ofChange ctrlTellsSpec)) ctrlTellsCard

/-- THE TIED CARD OF 'amblerlaw02.CtrlSets'. -/
def ctrlSetsCard : Claim7 := { stood := { row := ctrlSetsRow, standIns := [], harness := (true, "58e2d9ec8f7fe97adfdea93288fff4d8b5ccd3e790e50d061dbdbda07ac00f05"), looks := true }, kinds := [], alts := [], laidByText := true, laidKinds := [.sentinel, .sentinel, .sentinel, .sentinel, .sentinel, .sentinel, .sentinel, .sentinel, .sentinel, .sentinel, .sentinel, .sentinel, .sentinel, .sentinel, .sentinel, .sentinel], laidTests := true, laidLooks := .later }
def CtrlSetsCardSaid : Prop := Claim7.holds Tryd.pinned (.plain (OpenSpec.ofChange ctrlSetsSpec)) ctrlSetsCard

/-- THE TIED CARD OF 'amblerlaw02.CtrlApart'. -/
def ctrlApartCard : Claim7 := { stood := { row := ctrlApartRow, standIns := [], harness := (true, "58e2d9ec8f7fe97adfdea93288fff4d8b5ccd3e790e50d061dbdbda07ac00f05"), looks := true }, kinds := [], alts := [], laidByText := true, laidKinds := [.sentinel, .sentinel], laidTests := true, laidLooks := .later }
def CtrlApartCardSaid : Prop := Claim7.holds Tryd.pinned (.plain (OpenSpec.ofChange ctrlApartSpec)) ctrlApartCard

/-- THE TIED CARD OF 'amblerlaw02.CtrlPaths'. -/
def ctrlPathsCard : Claim7 := { stood := { row := ctrlPathsRow, standIns := [], harness := (true, "58e2d9ec8f7fe97adfdea93288fff4d8b5ccd3e790e50d061dbdbda07ac00f05"), looks := true }, kinds := [], alts := [], laidByText := true, laidKinds := [.sentinel, .sentinel, .sentinel, .sentinel, .sentinel, .sentinel, .sentinel, .sentinel, .sentinel, .sentinel, .sentinel, .sentinel, .sentinel, .sentinel, .sentinel, .sentinel], laidTests := true, laidLooks := .later }
def CtrlPathsCardSaid : Prop := Claim7.holds Tryd.pinned (.plain (OpenSpec.ofChange ctrlPathsSpec)) ctrlPathsCard

/-- THE SECOND FORM's CARD OF 'amblerlaw02.CtrlTells'. -/
def ctrlTellsUptoCard : Claim7 := { stood := { row := ctrlTellsUptoRow, standIns := [], harness := (true, "58e2d9ec8f7fe97adfdea93288fff4d8b5ccd3e790e50d061dbdbda07ac00f05"), looks := true }, kinds := [], alts := [], laidByText := true, laidKinds := [.sentinel, .sentinel], laidTests := true, laidLooks := .later }
def CtrlTellsUptoCardSaid : Prop := Claim7.holds Tryd.pinned (.plain (OpenSpec.upto ctrlTellsSpec)) ctrlTellsUptoCard

/-- THE SECOND FORM's CARD OF 'amblerlaw02.CtrlSets'. -/
def ctrlSetsUptoCard : Claim7 := { stood := { row := ctrlSetsUptoRow, standIns := [], harness := (true, "58e2d9ec8f7fe97adfdea93288fff4d8b5ccd3e790e50d061dbdbda07ac00f05"), looks := true }, kinds := [], alts := [], laidByText := true, laidKinds := [.sentinel, .sentinel, .sentinel, .sentinel, .sentinel, .sentinel, .sentinel, .sentinel, .sentinel, .sentinel, .sentinel, .sentinel, .sentinel, .sentinel, .sentinel, .sentinel], laidTests := true, laidLooks := .later }
def CtrlSetsUptoCardSaid : Prop := Claim7.holds Tryd.pinned (.plain (OpenSpec.upto ctrlSetsSpec)) ctrlSetsUptoCard

/-- THE SECOND FORM's CARD OF 'amblerlaw02.CtrlApart'. -/
def ctrlApartUptoCard : Claim7 := { stood := { row := ctrlApartUptoRow, standIns := [], harness := (true, "58e2d9ec8f7fe97adfdea93288fff4d8b5ccd3e790e50d061dbdbda07ac00f05"), looks := true }, kinds := [], alts := [], laidByText := true, laidKinds := [.sentinel, .sentinel], laidTests := true, laidLooks := .later }
def CtrlApartUptoCardSaid : Prop := Claim7.holds Tryd.pinned (.plain (OpenSpec.upto ctrlApartSpec)) ctrlApartUptoCard

/-- THE SECOND FORM's CARD OF 'amblerlaw02.CtrlPaths'. -/
def ctrlPathsUptoCard : Claim7 := { stood := { row := ctrlPathsUptoRow, standIns := [], harness := (true, "58e2d9ec8f7fe97adfdea93288fff4d8b5ccd3e790e50d061dbdbda07ac00f05"), looks := true }, kinds := [], alts := [], laidByText := true, laidKinds := [.sentinel, .sentinel, .sentinel, .sentinel, .sentinel, .sentinel, .sentinel, .sentinel, .sentinel, .sentinel, .sentinel, .sentinel, .sentinel, .sentinel, .sentinel, .sentinel], laidTests := true, laidLooks := .later }
def CtrlPathsUptoCardSaid : Prop := Claim7.holds Tryd.pinned (.plain (OpenSpec.upto ctrlPathsSpec)) ctrlPathsUptoCard
end Rows
end Go.Proofs.YtfnfdofenaegpaaDoor
