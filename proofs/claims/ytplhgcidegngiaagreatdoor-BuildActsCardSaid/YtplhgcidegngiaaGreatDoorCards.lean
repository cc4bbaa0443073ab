/-
  DERIVED. GIVEN WITH THE SEED: THE CARDS: each row of YtplhgcidegngiaaGreatDoorRows.lean that lists a variable, with what it lists TIED to the program's text (the seventh form; the later family's looks); each row that meets fmt, with fmt's text TOLD by the authors' own Lean function (tested against real Go, not proved from fmt's source: count such statements apart). THE CARD IS WHAT COUNTS. Prove the row's statement (the work); the ties are given (YtplhgcidegngiaaGreatDoorTie.lean); close each card by the builder's one call (the guide's Derived/Test/ToyasCard.lean, 'card_holds'). Laid BY PROGRAM, IN A SANDBOX (cutbox-door.mjs). By AI agents, Wed Nov 11 2026. No macro, syntax, notation, axiom, sorry.
-/
import Derived.Test.YtplhgcidegngiaaGreatDoorRows
import GoSem.ClaimSeven
namespace Go.Proofs.YtplhgcidegngiaaGreatDoor
namespace Rows

/-- THE TIED CARD OF 'amblerlaw11.BuildActs'. -/
def buildActsCard : Claim7 := { stood := { row := buildActsRow, standIns := [], harness := (true, "396f426dc03103e318abc7a50f4813814b8fb613c9915b3c407041a286b2cb81"), looks := true }, kinds := [], alts := [], laidByText := true, laidKinds := [.data, .sentinel, .sentinel, .sentinel, .sentinel, .sentinel, .sentinel, .sentinel, .sentinel, .sentinel, .sentinel, .sentinel, .sentinel, .sentinel, .sentinel, .sentinel, .sentinel], laidTests := true, laidLooks := .later }
def BuildActsCardSaid : Prop := Claim7.holds Tryz.pinned (.plain (OpenSpec.ofChange buildActsSpec)) buildActsCard

/-- THE SECOND FORM's CARD OF 'amblerlaw11.BuildActs'. -/
def buildActsUptoCard : Claim7 := { stood := { row := buildActsUptoRow, standIns := [], harness := (true, "396f426dc03103e318abc7a50f4813814b8fb613c9915b3c407041a286b2cb81"), looks := true }, kinds := [], alts := [], laidByText := true, laidKinds := [.data, .sentinel, .sentinel, .sentinel, .sentinel, .sentinel, .sentinel, .sentinel, .sentinel, .sentinel, .sentinel, .sentinel, .sentinel, .sentinel, .sentinel, .sentinel, .sentinel], laidTests := true, laidLooks := .later }
def BuildActsUptoCardSaid : Prop := Claim7.holds Tryz.pinned (.plain (OpenSpec.upto buildActsSpec)) buildActsUptoCard
end Rows
end Go.Proofs.YtplhgcidegngiaaGreatDoor
