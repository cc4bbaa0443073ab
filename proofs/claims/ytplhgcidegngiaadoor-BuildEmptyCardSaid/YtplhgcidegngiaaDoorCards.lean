/-
  DERIVED. GIVEN WITH THE SEED: THE CARDS: each row of YtplhgcidegngiaaDoorRows.lean that lists a variable, with what it lists TIED to the program's text (the seventh form; the later family's looks); each row that meets fmt, with fmt's text TOLD by the authors' own Lean function (tested against real Go, not proved from fmt's source: count such statements apart). THE CARD IS WHAT COUNTS. Prove the row's statement (the work); the ties are given (YtplhgcidegngiaaDoorTie.lean); close each card by the builder's one call (the guide's Derived/Test/ToyasCard.lean, 'card_holds'). Laid BY PROGRAM, IN A SANDBOX (cutbox-door.mjs). By AI agents, Wed Nov 11 2026. No macro, syntax, notation, axiom, sorry.
-/
import Derived.Test.YtplhgcidegngiaaDoorRows
import GoSem.ClaimSeven
namespace Go.Proofs.YtplhgcidegngiaaDoor
namespace Rows

/-- THE TIED CARD OF 'amblerlaw11.BuildEmpty'. -/
def buildEmptyCard : Claim7 := { stood := { row := buildEmptyRow, standIns := [], harness := (true, "61c203472267062ecb26287dfa07b429b17450d667b6400364776ad0bd10334e"), looks := true }, kinds := [], alts := [], laidByText := true, laidKinds := [.data, .sentinel, .sentinel, .sentinel, .sentinel, .sentinel, .sentinel, .sentinel, .sentinel, .sentinel, .sentinel, .sentinel, .sentinel, .sentinel, .sentinel, .sentinel, .sentinel], laidTests := true, laidLooks := .later }
def BuildEmptyCardSaid : Prop := Claim7.holds Tryd.pinned (.plain (OpenSpec.ofChange buildEmptySpec)) buildEmptyCard

/-- THE SECOND FORM's CARD OF 'amblerlaw11.BuildEmpty'. -/
def buildEmptyUptoCard : Claim7 := { stood := { row := buildEmptyUptoRow, standIns := [], harness := (true, "61c203472267062ecb26287dfa07b429b17450d667b6400364776ad0bd10334e"), looks := true }, kinds := [], alts := [], laidByText := true, laidKinds := [.data, .sentinel, .sentinel, .sentinel, .sentinel, .sentinel, .sentinel, .sentinel, .sentinel, .sentinel, .sentinel, .sentinel, .sentinel, .sentinel, .sentinel, .sentinel, .sentinel], laidTests := true, laidLooks := .later }
def BuildEmptyUptoCardSaid : Prop := Claim7.holds Tryd.pinned (.plain (OpenSpec.upto buildEmptySpec)) buildEmptyUptoCard
end Rows
end Go.Proofs.YtplhgcidegngiaaDoor
