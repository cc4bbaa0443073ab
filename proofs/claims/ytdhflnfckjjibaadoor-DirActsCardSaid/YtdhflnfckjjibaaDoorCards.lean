/-
  DERIVED. GIVEN WITH THE SEED: THE CARDS: each row of YtdhflnfckjjibaaDoorRows.lean that lists a variable, with what it lists TIED to the program's text (the seventh form; the later family's looks); each row that meets fmt, with fmt's text TOLD by the authors' own Lean function (tested against real Go, not proved from fmt's source: count such statements apart). THE CARD IS WHAT COUNTS. Prove the row's statement (the work); the ties are given (YtdhflnfckjjibaaDoorTie.lean); close each card by the builder's one call (the guide's Derived/Test/ToyasCard.lean, 'card_holds'). Laid BY PROGRAM, IN A SANDBOX (cutbox-door.mjs). By AI agents, Wed Nov 11 2026. No macro, syntax, notation, axiom, sorry.
-/
import Derived.Test.YtdhflnfckjjibaaDoorRows
import GoSem.ClaimSeven
namespace Go.Proofs.YtdhflnfckjjibaaDoor
namespace Rows

/-- THE TIED CARD OF 'amblerlaw16.DirActs'. -/
def dirActsCard : Claim7 := { stood := { row := dirActsRow, standIns := [], harness := (true, "ab8b09a5b7121a49b9677e5a2ef3818f402286a38d0a99cd965346a217a03e6f"), looks := true }, kinds := [], alts := [], laidByText := true, laidKinds := [.sentinel, .sentinel, .sentinel, .sentinel, .sentinel, .sentinel, .sentinel, .sentinel, .sentinel, .sentinel, .sentinel, .sentinel, .sentinel, .sentinel, .sentinel, .sentinel], laidTests := true, laidLooks := .later }
def DirActsCardSaid : Prop := Claim7.holds Tryd.pinned (.plain (OpenSpec.ofChange dirActsSpec)) dirActsCard

/-- THE TIED CARD OF 'amblerlaw16.DirParts'. -/
def dirPartsCard : Claim7 := { stood := { row := dirPartsRow, standIns := [], harness := (true, "ab8b09a5b7121a49b9677e5a2ef3818f402286a38d0a99cd965346a217a03e6f"), looks := true }, kinds := [], alts := [], laidByText := true, laidKinds := [.sentinel], laidTests := true, laidLooks := .later }
def DirPartsCardSaid : Prop := Claim7.holds Tryd.pinned (.plain (OpenSpec.ofChange dirPartsSpec)) dirPartsCard

/-- THE TIED CARD OF 'amblerlaw16.DirHalves'. -/
def dirHalvesCard : Claim7 := { stood := { row := dirHalvesRow, standIns := [], harness := (true, "ab8b09a5b7121a49b9677e5a2ef3818f402286a38d0a99cd965346a217a03e6f"), looks := true }, kinds := [], alts := [], laidByText := true, laidKinds := [.sentinel], laidTests := true, laidLooks := .later }
def DirHalvesCardSaid : Prop := Claim7.holds Tryd.pinned (.plain (OpenSpec.ofChange dirHalvesSpec)) dirHalvesCard

/-- THE SECOND FORM's CARD OF 'amblerlaw16.DirActs'. -/
def dirActsUptoCard : Claim7 := { stood := { row := dirActsUptoRow, standIns := [], harness := (true, "ab8b09a5b7121a49b9677e5a2ef3818f402286a38d0a99cd965346a217a03e6f"), looks := true }, kinds := [], alts := [], laidByText := true, laidKinds := [.sentinel, .sentinel, .sentinel, .sentinel, .sentinel, .sentinel, .sentinel, .sentinel, .sentinel, .sentinel, .sentinel, .sentinel, .sentinel, .sentinel, .sentinel, .sentinel], laidTests := true, laidLooks := .later }
def DirActsUptoCardSaid : Prop := Claim7.holds Tryd.pinned (.plain (OpenSpec.upto dirActsSpec)) dirActsUptoCard

/-- THE SECOND FORM's CARD OF 'amblerlaw16.DirParts'. -/
def dirPartsUptoCard : Claim7 := { stood := { row := dirPartsUptoRow, standIns := [], harness := (true, "ab8b09a5b7121a49b9677e5a2ef3818f402286a38d0a99cd965346a217a03e6f"), looks := true }, kinds := [], alts := [], laidByText := true, laidKinds := [.sentinel], laidTests := true, laidLooks := .later }
def DirPartsUptoCardSaid : Prop := Claim7.holds Tryd.pinned (.plain (OpenSpec.upto dirPartsSpec)) dirPartsUptoCard

/-- THE SECOND FORM's CARD OF 'amblerlaw16.DirHalves'. -/
def dirHalvesUptoCard : Claim7 := { stood := { row := dirHalvesUptoRow, standIns := [], harness := (true, "ab8b09a5b7121a49b9677e5a2ef3818f402286a38d0a99cd965346a217a03e6f"), looks := true }, kinds := [], alts := [], laidByText := true, laidKinds := [.sentinel], laidTests := true, laidLooks := .later }
def DirHalvesUptoCardSaid : Prop := Claim7.holds Tryd.pinned (.plain (OpenSpec.upto dirHalvesSpec)) dirHalvesUptoCard
end Rows
end Go.Proofs.YtdhflnfckjjibaaDoor
