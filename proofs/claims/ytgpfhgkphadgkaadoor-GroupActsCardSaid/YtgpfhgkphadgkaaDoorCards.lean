/-
  DERIVED. GIVEN WITH THE SEED: THE CARDS: each row of YtgpfhgkphadgkaaDoorRows.lean that lists a variable, with what it lists TIED to the program's text (the seventh form; the later family's looks); each row that meets fmt, with fmt's text TOLD by the authors' own Lean function (tested against real Go, not proved from fmt's source: count such statements apart). THE CARD IS WHAT COUNTS. Prove the row's statement (the work); the ties are given (YtgpfhgkphadgkaaDoorTie.lean); close each card by the builder's one call (the guide's Derived/Test/ToyasCard.lean, 'card_holds'). Laid BY PROGRAM, IN A SANDBOX (cutbox-door.mjs). By AI agents, Wed Nov 11 2026. No macro, syntax, notation, axiom, sorry.
-/
import Derived.Test.YtgpfhgkphadgkaaDoorRows
import GoSem.ClaimSeven
namespace Go.Proofs.YtgpfhgkphadgkaaDoor
namespace Rows

/-- THE TIED CARD OF 'amblerlaw08.GroupActs'. -/
def groupActsCard : Claim7 := { stood := { row := groupActsRow, standIns := [], harness := (true, "523528fa74e62a43d1fe8cc3000c9716fa4d7b4f5914feaf906b6545f83872b9"), looks := true }, kinds := [], alts := [], laidByText := true, laidKinds := [.data, .sentinel, .sentinel, .sentinel, .sentinel, .sentinel, .sentinel, .sentinel, .sentinel, .sentinel, .sentinel, .sentinel, .sentinel, .sentinel, .sentinel, .sentinel, .sentinel], laidTests := true, laidLooks := .later }
def GroupActsCardSaid : Prop := Claim7.holds Tryd.pinned (.plain (OpenSpec.ofChange groupActsSpec)) groupActsCard

/-- THE TIED CARD OF 'amblerlaw08.GroupOpen'. -/
def groupOpenCard : Claim7 := { stood := { row := groupOpenRow, standIns := [], harness := (true, "523528fa74e62a43d1fe8cc3000c9716fa4d7b4f5914feaf906b6545f83872b9"), looks := true }, kinds := [], alts := [], laidByText := true, laidKinds := [.data, .sentinel, .sentinel, .sentinel], laidTests := true, laidLooks := .later }
def GroupOpenCardSaid : Prop := Claim7.holds Tryd.pinned (.plain (OpenSpec.ofChange groupOpenSpec)) groupOpenCard

/-- THE TIED CARD OF 'amblerlaw08.GroupOrder'. -/
def groupOrderCard : Claim7 := { stood := { row := groupOrderRow, standIns := [], harness := (true, "523528fa74e62a43d1fe8cc3000c9716fa4d7b4f5914feaf906b6545f83872b9"), looks := true }, kinds := [], alts := [], laidByText := true, laidKinds := [.data, .sentinel, .sentinel, .sentinel], laidTests := true, laidLooks := .later }
def GroupOrderCardSaid : Prop := Claim7.holds Tryd.pinned (.plain (OpenSpec.ofChange groupOrderSpec)) groupOrderCard

/-- THE SECOND FORM's CARD OF 'amblerlaw08.GroupActs'. -/
def groupActsUptoCard : Claim7 := { stood := { row := groupActsUptoRow, standIns := [], harness := (true, "523528fa74e62a43d1fe8cc3000c9716fa4d7b4f5914feaf906b6545f83872b9"), looks := true }, kinds := [], alts := [], laidByText := true, laidKinds := [.data, .sentinel, .sentinel, .sentinel, .sentinel, .sentinel, .sentinel, .sentinel, .sentinel, .sentinel, .sentinel, .sentinel, .sentinel, .sentinel, .sentinel, .sentinel, .sentinel], laidTests := true, laidLooks := .later }
def GroupActsUptoCardSaid : Prop := Claim7.holds Tryd.pinned (.plain (OpenSpec.upto groupActsSpec)) groupActsUptoCard

/-- THE SECOND FORM's CARD OF 'amblerlaw08.GroupOpen'. -/
def groupOpenUptoCard : Claim7 := { stood := { row := groupOpenUptoRow, standIns := [], harness := (true, "523528fa74e62a43d1fe8cc3000c9716fa4d7b4f5914feaf906b6545f83872b9"), looks := true }, kinds := [], alts := [], laidByText := true, laidKinds := [.data, .sentinel, .sentinel, .sentinel], laidTests := true, laidLooks := .later }
def GroupOpenUptoCardSaid : Prop := Claim7.holds Tryd.pinned (.plain (OpenSpec.upto groupOpenSpec)) groupOpenUptoCard

/-- THE SECOND FORM's CARD OF 'amblerlaw08.GroupOrder'. -/
def groupOrderUptoCard : Claim7 := { stood := { row := groupOrderUptoRow, standIns := [], harness := (true, "523528fa74e62a43d1fe8cc3000c9716fa4d7b4f5914feaf906b6545f83872b9"), looks := true }, kinds := [], alts := [], laidByText := true, laidKinds := [.data, .sentinel, .sentinel, .sentinel], laidTests := true, laidLooks := .later }
def GroupOrderUptoCardSaid : Prop := Claim7.holds Tryd.pinned (.plain (OpenSpec.upto groupOrderSpec)) groupOrderUptoCard
end Rows
end Go.Proofs.YtgpfhgkphadgkaaDoor
