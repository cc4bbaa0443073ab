/-
  DERIVED. GIVEN WITH THE SEED: THE CARDS: each row of YtpllkopllhldcaaGreatDoorRows.lean that lists a variable, with what it lists TIED to the program's text (the seventh form; the later family's looks); each row that meets fmt, with fmt's text TOLD by the authors' own Lean function (tested against real Go, not proved from fmt's source: count such statements apart). THE CARD IS WHAT COUNTS. Prove the row's statement (the work); the ties are given (YtpllkopllhldcaaGreatDoorTie.lean); close each card by the builder's one call (the guide's Derived/Test/ToyasCard.lean, 'card_holds'). Laid BY PROGRAM, IN A SANDBOX (cutbox-door.mjs). By AI agents, Wed Nov 11 2026. No macro, syntax, notation, axiom, sorry.
-/
import Derived.Test.YtpllkopllhldcaaGreatDoorRows
import GoSem.ClaimSeven
namespace Go.Proofs.YtpllkopllhldcaaGreatDoor
namespace Rows

/-- THE TIED CARD OF 'amblerlaw10.SoundShapes'. -/
def soundShapesCard : Claim7 := { stood := { row := soundShapesRow, standIns := [], harness := (true, "aa29c99f00d360abeb185ded32457618ef880cd2537ed538e07cc19a5c606306"), looks := true }, kinds := [], alts := [], laidByText := true, laidKinds := [.data, .sentinel, .sentinel, .sentinel, .sentinel, .sentinel, .sentinel, .sentinel, .sentinel, .sentinel, .sentinel, .sentinel, .sentinel, .sentinel, .sentinel, .sentinel, .sentinel], laidTests := true, laidLooks := .later }
def SoundShapesCardSaid : Prop := Claim7.holds Tryz.pinned (.plain (OpenSpec.ofChange soundShapesSpec)) soundShapesCard

/-- THE TIED CARD OF 'amblerlaw10.SoundStays'. -/
def soundStaysCard : Claim7 := { stood := { row := soundStaysRow, standIns := [], harness := (true, "aa29c99f00d360abeb185ded32457618ef880cd2537ed538e07cc19a5c606306"), looks := true }, kinds := [], alts := [], laidByText := true, laidKinds := [.data, .sentinel, .sentinel, .sentinel, .sentinel, .sentinel, .sentinel, .sentinel, .sentinel], laidTests := true, laidLooks := .later }
def SoundStaysCardSaid : Prop := Claim7.holds Tryz.pinned (.plain (OpenSpec.ofChange soundStaysSpec)) soundStaysCard

/-- THE TIED CARD OF 'amblerlaw10.SoundPaths'. -/
def soundPathsCard : Claim7 := { stood := { row := soundPathsRow, standIns := [], harness := (true, "aa29c99f00d360abeb185ded32457618ef880cd2537ed538e07cc19a5c606306"), looks := true }, kinds := [], alts := [], laidByText := true, laidKinds := [.data, .sentinel, .sentinel, .sentinel, .sentinel, .sentinel, .sentinel, .sentinel, .sentinel], laidTests := true, laidLooks := .later }
def SoundPathsCardSaid : Prop := Claim7.holds Tryz.pinned (.plain (OpenSpec.ofChange soundPathsSpec)) soundPathsCard

/-- THE SECOND FORM's CARD OF 'amblerlaw10.SoundShapes'. -/
def soundShapesUptoCard : Claim7 := { stood := { row := soundShapesUptoRow, standIns := [], harness := (true, "aa29c99f00d360abeb185ded32457618ef880cd2537ed538e07cc19a5c606306"), looks := true }, kinds := [], alts := [], laidByText := true, laidKinds := [.data, .sentinel, .sentinel, .sentinel, .sentinel, .sentinel, .sentinel, .sentinel, .sentinel, .sentinel, .sentinel, .sentinel, .sentinel, .sentinel, .sentinel, .sentinel, .sentinel], laidTests := true, laidLooks := .later }
def SoundShapesUptoCardSaid : Prop := Claim7.holds Tryz.pinned (.plain (OpenSpec.upto soundShapesSpec)) soundShapesUptoCard

/-- THE SECOND FORM's CARD OF 'amblerlaw10.SoundStays'. -/
def soundStaysUptoCard : Claim7 := { stood := { row := soundStaysUptoRow, standIns := [], harness := (true, "aa29c99f00d360abeb185ded32457618ef880cd2537ed538e07cc19a5c606306"), looks := true }, kinds := [], alts := [], laidByText := true, laidKinds := [.data, .sentinel, .sentinel, .sentinel, .sentinel, .sentinel, .sentinel, .sentinel, .sentinel], laidTests := true, laidLooks := .later }
def SoundStaysUptoCardSaid : Prop := Claim7.holds Tryz.pinned (.plain (OpenSpec.upto soundStaysSpec)) soundStaysUptoCard

/-- THE SECOND FORM's CARD OF 'amblerlaw10.SoundPaths'. -/
def soundPathsUptoCard : Claim7 := { stood := { row := soundPathsUptoRow, standIns := [], harness := (true, "aa29c99f00d360abeb185ded32457618ef880cd2537ed538e07cc19a5c606306"), looks := true }, kinds := [], alts := [], laidByText := true, laidKinds := [.data, .sentinel, .sentinel, .sentinel, .sentinel, .sentinel, .sentinel, .sentinel, .sentinel], laidTests := true, laidLooks := .later }
def SoundPathsUptoCardSaid : Prop := Claim7.holds Tryz.pinned (.plain (OpenSpec.upto soundPathsSpec)) soundPathsUptoCard
end Rows
end Go.Proofs.YtpllkopllhldcaaGreatDoor
