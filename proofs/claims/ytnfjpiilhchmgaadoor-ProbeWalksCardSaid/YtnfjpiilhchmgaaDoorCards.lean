/-
  DERIVED. GIVEN WITH THE SEED: THE CARDS: each row of YtnfjpiilhchmgaaDoorRows.lean that lists a variable, with what it lists TIED to the program's text (the seventh form; the later family's looks); each row that meets fmt, with fmt's text TOLD by the authors' own Lean function (tested against real Go, not proved from fmt's source: count such statements apart). THE CARD IS WHAT COUNTS. Prove the row's statement (the work); the ties are given (YtnfjpiilhchmgaaDoorTie.lean); close each card by the builder's one call (the guide's Derived/Test/ToyasCard.lean, 'card_holds'). Laid BY PROGRAM, IN A SANDBOX (cutbox-door.mjs). By AI agents, Wed Nov 11 2026. No macro, syntax, notation, axiom, sorry.
-/
import Derived.Test.YtnfjpiilhchmgaaDoorRows
import GoSem.ClaimSeven
namespace Go.Proofs.YtnfjpiilhchmgaaDoor
namespace Rows

/-- THE TIED CARD OF 'amblerlaw04.ProbeWalks'. -/
def probeWalksCard : Claim7 := { stood := { row := probeWalksRow, standIns := [], harness := (true, "f8184c307b752b6f3741504fb6f12ebec55a5a70eb023a8132ff85c5afd13870"), looks := true }, kinds := [], alts := [], laidByText := true, laidKinds := [.sentinel, .sentinel, .sentinel, .sentinel, .sentinel, .sentinel, .sentinel, .sentinel, .sentinel, .sentinel, .sentinel, .sentinel, .sentinel, .sentinel, .sentinel, .sentinel], laidTests := true, laidLooks := .later }
def ProbeWalksCardSaid : Prop := Claim7.holds Tryd.pinned (.plain (OpenSpec.ofChange probeWalksSpec)) probeWalksCard

/-- THE SECOND FORM's CARD OF 'amblerlaw04.ProbeWalks'. -/
def probeWalksUptoCard : Claim7 := { stood := { row := probeWalksUptoRow, standIns := [], harness := (true, "f8184c307b752b6f3741504fb6f12ebec55a5a70eb023a8132ff85c5afd13870"), looks := true }, kinds := [], alts := [], laidByText := true, laidKinds := [.sentinel, .sentinel, .sentinel, .sentinel, .sentinel, .sentinel, .sentinel, .sentinel, .sentinel, .sentinel, .sentinel, .sentinel, .sentinel, .sentinel, .sentinel, .sentinel], laidTests := true, laidLooks := .later }
def ProbeWalksUptoCardSaid : Prop := Claim7.holds Tryd.pinned (.plain (OpenSpec.upto probeWalksSpec)) probeWalksUptoCard
end Rows
end Go.Proofs.YtnfjpiilhchmgaaDoor
