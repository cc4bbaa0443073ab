/-
  DERIVED. GIVEN WITH THE SEED: THE CARDS: each row of YtibcokiijlamcaaGreatDoorRows.lean that lists a variable, with what it lists TIED to the program's text (the seventh form; the later family's looks); each row that meets fmt, with fmt's text TOLD by the authors' own Lean function (tested against real Go, not proved from fmt's source: count such statements apart). THE CARD IS WHAT COUNTS. Prove the row's statement (the work); the ties are given (YtibcokiijlamcaaGreatDoorTie.lean); close each card by the builder's one call (the guide's Derived/Test/ToyasCard.lean, 'card_holds'). Laid BY PROGRAM, IN A SANDBOX (cutbox-door.mjs). By AI agents, Wed Nov 11 2026. No macro, syntax, notation, axiom, sorry.
-/
import Derived.Test.YtibcokiijlamcaaGreatDoorRows
import GoSem.ClaimSeven
namespace Go.Proofs.YtibcokiijlamcaaGreatDoor
namespace Rows

/-- THE TIED CARD OF 'amblerlaw12.EvacSteps'. -/
def evacStepsCard : Claim7 := { stood := { row := evacStepsRow, standIns := [], harness := (true, "e60027224432eb552a0e7a6492dc64b0a4a8d738a6b332eee2c0be7196399b7a"), looks := true }, kinds := [], alts := [], laidByText := true, laidKinds := [.data, .sentinel, .sentinel, .sentinel, .sentinel, .sentinel, .sentinel, .sentinel, .sentinel, .sentinel, .sentinel, .sentinel, .sentinel, .sentinel, .sentinel, .sentinel, .sentinel], laidTests := true, laidLooks := .later }
def EvacStepsCardSaid : Prop := Claim7.holds Tryz.pinned (.plain (OpenSpec.ofChange evacStepsSpec)) evacStepsCard

/-- THE TIED CARD OF 'amblerlaw12.EvacAll'. -/
def evacAllCard : Claim7 := { stood := { row := evacAllRow, standIns := [], harness := (true, "e60027224432eb552a0e7a6492dc64b0a4a8d738a6b332eee2c0be7196399b7a"), looks := true }, kinds := [], alts := [], laidByText := true, laidKinds := [.data, .sentinel, .sentinel, .sentinel, .sentinel, .sentinel, .sentinel, .sentinel, .sentinel, .sentinel], laidTests := true, laidLooks := .later }
def EvacAllCardSaid : Prop := Claim7.holds Tryz.pinned (.plain (OpenSpec.ofChange evacAllSpec)) evacAllCard

/-- THE TIED CARD OF 'amblerlaw12.EvacErrs'. -/
def evacErrsCard : Claim7 := { stood := { row := evacErrsRow, standIns := [], harness := (true, "e60027224432eb552a0e7a6492dc64b0a4a8d738a6b332eee2c0be7196399b7a"), looks := true }, kinds := [], alts := [], laidByText := true, laidKinds := [.data, .sentinel, .sentinel, .sentinel, .sentinel, .sentinel, .sentinel, .sentinel, .sentinel, .sentinel, .sentinel, .sentinel, .sentinel, .sentinel, .sentinel, .sentinel, .sentinel], laidTests := true, laidLooks := .later }
def EvacErrsCardSaid : Prop := Claim7.holds Tryz.pinned (.plain (OpenSpec.ofChange evacErrsSpec)) evacErrsCard

/-- THE TIED CARD OF 'amblerlaw12.EvacSides'. -/
def evacSidesCard : Claim7 := { stood := { row := evacSidesRow, standIns := [], harness := (true, "e60027224432eb552a0e7a6492dc64b0a4a8d738a6b332eee2c0be7196399b7a"), looks := true }, kinds := [], alts := [], laidByText := true, laidKinds := [.data, .sentinel, .sentinel, .sentinel, .sentinel, .sentinel, .sentinel, .sentinel, .sentinel, .sentinel], laidTests := true, laidLooks := .later }
def EvacSidesCardSaid : Prop := Claim7.holds Tryz.pinned (.plain (OpenSpec.ofChange evacSidesSpec)) evacSidesCard

/-- THE SECOND FORM's CARD OF 'amblerlaw12.EvacSteps'. -/
def evacStepsUptoCard : Claim7 := { stood := { row := evacStepsUptoRow, standIns := [], harness := (true, "e60027224432eb552a0e7a6492dc64b0a4a8d738a6b332eee2c0be7196399b7a"), looks := true }, kinds := [], alts := [], laidByText := true, laidKinds := [.data, .sentinel, .sentinel, .sentinel, .sentinel, .sentinel, .sentinel, .sentinel, .sentinel, .sentinel, .sentinel, .sentinel, .sentinel, .sentinel, .sentinel, .sentinel, .sentinel], laidTests := true, laidLooks := .later }
def EvacStepsUptoCardSaid : Prop := Claim7.holds Tryz.pinned (.plain (OpenSpec.upto evacStepsSpec)) evacStepsUptoCard

/-- THE SECOND FORM's CARD OF 'amblerlaw12.EvacAll'. -/
def evacAllUptoCard : Claim7 := { stood := { row := evacAllUptoRow, standIns := [], harness := (true, "e60027224432eb552a0e7a6492dc64b0a4a8d738a6b332eee2c0be7196399b7a"), looks := true }, kinds := [], alts := [], laidByText := true, laidKinds := [.data, .sentinel, .sentinel, .sentinel, .sentinel, .sentinel, .sentinel, .sentinel, .sentinel, .sentinel], laidTests := true, laidLooks := .later }
def EvacAllUptoCardSaid : Prop := Claim7.holds Tryz.pinned (.plain (OpenSpec.upto evacAllSpec)) evacAllUptoCard

/-- THE SECOND FORM's CARD OF 'amblerlaw12.EvacErrs'. -/
def evacErrsUptoCard : Claim7 := { stood := { row := evacErrsUptoRow, standIns := [], harness := (true, "e60027224432eb552a0e7a6492dc64b0a4a8d738a6b332eee2c0be7196399b7a"), looks := true }, kinds := [], alts := [], laidByText := true, laidKinds := [.data, .sentinel, .sentinel, .sentinel, .sentinel, .sentinel, .sentinel, .sentinel, .sentinel, .sentinel, .sentinel, .sentinel, .sentinel, .sentinel, .sentinel, .sentinel, .sentinel], laidTests := true, laidLooks := .later }
def EvacErrsUptoCardSaid : Prop := Claim7.holds Tryz.pinned (.plain (OpenSpec.upto evacErrsSpec)) evacErrsUptoCard

/-- THE SECOND FORM's CARD OF 'amblerlaw12.EvacSides'. -/
def evacSidesUptoCard : Claim7 := { stood := { row := evacSidesUptoRow, standIns := [], harness := (true, "e60027224432eb552a0e7a6492dc64b0a4a8d738a6b332eee2c0be7196399b7a"), looks := true }, kinds := [], alts := [], laidByText := true, laidKinds := [.data, .sentinel, .sentinel, .sentinel, .sentinel, .sentinel, .sentinel, .sentinel, .sentinel, .sentinel], laidTests := true, laidLooks := .later }
def EvacSidesUptoCardSaid : Prop := Claim7.holds Tryz.pinned (.plain (OpenSpec.upto evacSidesSpec)) evacSidesUptoCard
end Rows
end Go.Proofs.YtibcokiijlamcaaGreatDoor
