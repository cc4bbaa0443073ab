/-
  DERIVED. GIVEN WITH THE SEED: THE CARDS: each row of YtmbdfoobnkanlaaDoorRows.lean that lists a variable, with what it lists TIED to the program's text (the seventh form; the later family's looks); each row that meets fmt, with fmt's text TOLD by the authors' own Lean function (tested against real Go, not proved from fmt's source: count such statements apart). THE CARD IS WHAT COUNTS. Prove the row's statement (the work); the ties are given (YtmbdfoobnkanlaaDoorTie.lean); close each card by the builder's one call (the guide's Derived/Test/ToyasCard.lean, 'card_holds'). Laid BY PROGRAM, IN A SANDBOX (cutbox-door.mjs). By AI agents, Wed Nov 11 2026. No macro, syntax, notation, axiom, sorry.
-/
import Derived.Test.YtmbdfoobnkanlaaDoorRows
import GoSem.ClaimSeven
namespace Go.Proofs.YtmbdfoobnkanlaaDoor
namespace Rows

/-- THE TIED CARD OF 'amblerlaw17.CopyistActs'. -/
def copyistActsCard : Claim7 := { stood := { row := copyistActsRow, standIns := [], harness := (true, "56f8e512b73d0303433abb4612f0913586b60afe49fe3a798c02233ef874f8d4"), looks := true }, kinds := [], alts := [], laidByText := true, laidKinds := [.sentinel, .sentinel, .sentinel, .sentinel, .sentinel, .sentinel, .sentinel, .sentinel, .sentinel, .sentinel, .sentinel, .sentinel, .sentinel, .sentinel, .sentinel, .sentinel], laidTests := true, laidLooks := .later }
def CopyistActsCardSaid : Prop := Claim7.holds Tryd.pinned (.plain (OpenSpec.ofChange copyistActsSpec)) copyistActsCard

/-- THE TIED CARD OF 'amblerlaw17.CopyistKeeps'. -/
def copyistKeepsCard : Claim7 := { stood := { row := copyistKeepsRow, standIns := [], harness := (true, "56f8e512b73d0303433abb4612f0913586b60afe49fe3a798c02233ef874f8d4"), looks := true }, kinds := [], alts := [], laidByText := true, laidKinds := [.sentinel, .sentinel, .sentinel, .sentinel], laidTests := true, laidLooks := .later }
def CopyistKeepsCardSaid : Prop := Claim7.holds Tryd.pinned (.plain (OpenSpec.ofChange copyistKeepsSpec)) copyistKeepsCard

/-- THE SECOND FORM's CARD OF 'amblerlaw17.CopyistActs'. -/
def copyistActsUptoCard : Claim7 := { stood := { row := copyistActsUptoRow, standIns := [], harness := (true, "56f8e512b73d0303433abb4612f0913586b60afe49fe3a798c02233ef874f8d4"), looks := true }, kinds := [], alts := [], laidByText := true, laidKinds := [.sentinel, .sentinel, .sentinel, .sentinel, .sentinel, .sentinel, .sentinel, .sentinel, .sentinel, .sentinel, .sentinel, .sentinel, .sentinel, .sentinel, .sentinel, .sentinel], laidTests := true, laidLooks := .later }
def CopyistActsUptoCardSaid : Prop := Claim7.holds Tryd.pinned (.plain (OpenSpec.upto copyistActsSpec)) copyistActsUptoCard

/-- THE SECOND FORM's CARD OF 'amblerlaw17.CopyistKeeps'. -/
def copyistKeepsUptoCard : Claim7 := { stood := { row := copyistKeepsUptoRow, standIns := [], harness := (true, "56f8e512b73d0303433abb4612f0913586b60afe49fe3a798c02233ef874f8d4"), looks := true }, kinds := [], alts := [], laidByText := true, laidKinds := [.sentinel, .sentinel, .sentinel, .sentinel], laidTests := true, laidLooks := .later }
def CopyistKeepsUptoCardSaid : Prop := Claim7.holds Tryd.pinned (.plain (OpenSpec.upto copyistKeepsSpec)) copyistKeepsUptoCard
end Rows
end Go.Proofs.YtmbdfoobnkanlaaDoor
