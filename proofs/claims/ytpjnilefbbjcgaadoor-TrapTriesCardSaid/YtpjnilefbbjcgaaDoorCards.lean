/-
  DERIVED. GIVEN WITH THE SEED: THE CARDS: each row of YtpjnilefbbjcgaaDoorRows.lean that lists a variable, with what it lists TIED to the program's text (the seventh form; the later family's looks); each row that meets fmt, with fmt's text TOLD by the authors' own Lean function (tested against real Go, not proved from fmt's source: count such statements apart). THE CARD IS WHAT COUNTS. Prove the row's statement (the work); the ties are given (YtpjnilefbbjcgaaDoorTie.lean); close each card by the builder's one call (the guide's Derived/Test/ToyasCard.lean, 'card_holds'). Laid BY PROGRAM, IN A SANDBOX (cutbox-door.mjs). By AI agents, Wed Nov 11 2026. No macro, syntax, notation, axiom, sorry.
-/
import Derived.Test.YtpjnilefbbjcgaaDoorRows
import GoSem.ClaimSeven
namespace Go.Proofs.YtpjnilefbbjcgaaDoor
namespace Rows

/-- THE TIED CARD OF 'amblerlaw05.TrapCatches'. -/
def trapCatchesCard : Claim7 := { stood := { row := trapCatchesRow, standIns := [], harness := (true, "c0bf87a3f3bd130ef2b6758b54e39f0f7cd43d40e8509d9db7ca40feabe406ce"), looks := true }, kinds := [], alts := [], laidByText := true, laidKinds := [.sentinel, .sentinel, .sentinel, .sentinel, .sentinel, .sentinel, .sentinel, .sentinel, .sentinel, .sentinel, .sentinel, .sentinel, .sentinel, .sentinel, .sentinel, .sentinel], laidTests := true, laidLooks := .later }
def TrapCatchesCardSaid : Prop := Claim7.holds Tryd.pinned (.plain (OpenSpec.ofChange trapCatchesSpec)) trapCatchesCard

/-- THE TIED CARD OF 'amblerlaw05.TrapTries'. -/
def trapTriesCard : Claim7 := { stood := { row := trapTriesRow, standIns := [], harness := (true, "c0bf87a3f3bd130ef2b6758b54e39f0f7cd43d40e8509d9db7ca40feabe406ce"), looks := true }, kinds := [], alts := [], laidByText := true, laidKinds := [.sentinel, .sentinel, .sentinel, .sentinel, .sentinel, .sentinel, .sentinel, .sentinel, .sentinel, .sentinel, .sentinel, .sentinel, .sentinel, .sentinel, .sentinel, .sentinel], laidTests := true, laidLooks := .later }
def TrapTriesCardSaid : Prop := Claim7.holds Tryd.pinned (.plain (OpenSpec.ofChange trapTriesSpec)) trapTriesCard

/-- THE TIED CARD OF 'amblerlaw05.TrapNests'. -/
def trapNestsCard : Claim7 := { stood := { row := trapNestsRow, standIns := [], harness := (true, "c0bf87a3f3bd130ef2b6758b54e39f0f7cd43d40e8509d9db7ca40feabe406ce"), looks := true }, kinds := [], alts := [], laidByText := true, laidKinds := [.sentinel, .sentinel, .sentinel, .sentinel, .sentinel, .sentinel, .sentinel, .sentinel, .sentinel, .sentinel, .sentinel, .sentinel, .sentinel, .sentinel, .sentinel, .sentinel], laidTests := true, laidLooks := .later }
def TrapNestsCardSaid : Prop := Claim7.holds Tryd.pinned (.plain (OpenSpec.ofChange trapNestsSpec)) trapNestsCard

/-- THE SECOND FORM's CARD OF 'amblerlaw05.TrapCatches'. -/
def trapCatchesUptoCard : Claim7 := { stood := { row := trapCatchesUptoRow, standIns := [], harness := (true, "c0bf87a3f3bd130ef2b6758b54e39f0f7cd43d40e8509d9db7ca40feabe406ce"), looks := true }, kinds := [], alts := [], laidByText := true, laidKinds := [.sentinel, .sentinel, .sentinel, .sentinel, .sentinel, .sentinel, .sentinel, .sentinel, .sentinel, .sentinel, .sentinel, .sentinel, .sentinel, .sentinel, .sentinel, .sentinel], laidTests := true, laidLooks := .later }
def TrapCatchesUptoCardSaid : Prop := Claim7.holds Tryd.pinned (.plain (OpenSpec.upto trapCatchesSpec)) trapCatchesUptoCard

/-- THE SECOND FORM's CARD OF 'amblerlaw05.TrapTries'. -/
def trapTriesUptoCard : Claim7 := { stood := { row := trapTriesUptoRow, standIns := [], harness := (true, "c0bf87a3f3bd130ef2b6758b54e39f0f7cd43d40e8509d9db7ca40feabe406ce"), looks := true }, kinds := [], alts := [], laidByText := true, laidKinds := [.sentinel, .sentinel, .sentinel, .sentinel, .sentinel, .sentinel, .sentinel, .sentinel, .sentinel, .sentinel, .sentinel, .sentinel, .sentinel, .sentinel, .sentinel, .sentinel], laidTests := true, laidLooks := .later }
def TrapTriesUptoCardSaid : Prop := Claim7.holds Tryd.pinned (.plain (OpenSpec.upto trapTriesSpec)) trapTriesUptoCard

/-- THE SECOND FORM's CARD OF 'amblerlaw05.TrapNests'. -/
def trapNestsUptoCard : Claim7 := { stood := { row := trapNestsUptoRow, standIns := [], harness := (true, "c0bf87a3f3bd130ef2b6758b54e39f0f7cd43d40e8509d9db7ca40feabe406ce"), looks := true }, kinds := [], alts := [], laidByText := true, laidKinds := [.sentinel, .sentinel, .sentinel, .sentinel, .sentinel, .sentinel, .sentinel, .sentinel, .sentinel, .sentinel, .sentinel, .sentinel, .sentinel, .sentinel, .sentinel, .sentinel], laidTests := true, laidLooks := .later }
def TrapNestsUptoCardSaid : Prop := Claim7.holds Tryd.pinned (.plain (OpenSpec.upto trapNestsSpec)) trapNestsUptoCard
end Rows
end Go.Proofs.YtpjnilefbbjcgaaDoor
