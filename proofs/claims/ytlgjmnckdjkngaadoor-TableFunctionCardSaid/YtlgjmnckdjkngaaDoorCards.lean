/-
  DERIVED. GIVEN WITH THE SEED: THE CARDS: each row of YtlgjmnckdjkngaaDoorRows.lean that lists a variable, with what it lists TIED to the program's text (the seventh form; the later family's looks); each row that meets fmt, with fmt's text TOLD by the authors' own Lean function (tested against real Go, not proved from fmt's source: count such statements apart). THE CARD IS WHAT COUNTS. Prove the row's statement (the work); the ties are given (YtlgjmnckdjkngaaDoorTie.lean); close each card by the builder's one call (the guide's Derived/Test/ToyasCard.lean, 'card_holds'). Laid BY PROGRAM, IN A SANDBOX (cutbox-door.mjs). By AI agents, Wed Nov 11 2026. No macro, syntax, notation, axiom, sorry.
-/
import Derived.Test.YtlgjmnckdjkngaaDoorRows
import GoSem.ClaimSeven
namespace Go.Proofs.YtlgjmnckdjkngaaDoor
namespace Rows

/-- THE TIED CARD OF 'amblerlaw09.TableRaw'. -/
def tableRawCard : Claim7 := { stood := { row := tableRawRow, standIns := [], harness := (true, "aa445aba486dd4920d1545ad8a25e3a3dd2d12998d97d30f1c0688c52baab7eb"), looks := true }, kinds := [], alts := [], laidByText := true, laidKinds := [.data, .sentinel, .sentinel, .sentinel, .sentinel, .sentinel, .sentinel, .sentinel, .sentinel, .sentinel, .sentinel, .sentinel, .sentinel, .sentinel, .sentinel, .sentinel, .sentinel], laidTests := true, laidLooks := .later }
def TableRawCardSaid : Prop := Claim7.holds Tryd.pinned (.plain (OpenSpec.ofChange tableRawSpec)) tableRawCard

/-- THE TIED CARD OF 'amblerlaw09.TableFunction'. -/
def tableFunctionCard : Claim7 := { stood := { row := tableFunctionRow, standIns := [], harness := (true, "aa445aba486dd4920d1545ad8a25e3a3dd2d12998d97d30f1c0688c52baab7eb"), looks := true }, kinds := [], alts := [], laidByText := true, laidKinds := [.data, .sentinel, .sentinel, .sentinel, .sentinel, .sentinel, .sentinel, .sentinel, .sentinel, .sentinel, .sentinel, .sentinel, .sentinel, .sentinel, .sentinel, .sentinel, .sentinel], laidTests := true, laidLooks := .later }
def TableFunctionCardSaid : Prop := Claim7.holds Tryd.pinned (.plain (OpenSpec.ofChange tableFunctionSpec)) tableFunctionCard

/-- THE TIED CARD OF 'amblerlaw09.TableOne'. -/
def tableOneCard : Claim7 := { stood := { row := tableOneRow, standIns := [], harness := (true, "aa445aba486dd4920d1545ad8a25e3a3dd2d12998d97d30f1c0688c52baab7eb"), looks := true }, kinds := [], alts := [], laidByText := true, laidKinds := [.data, .sentinel, .sentinel, .sentinel, .sentinel, .sentinel, .sentinel, .sentinel, .sentinel, .sentinel, .sentinel, .sentinel, .sentinel, .sentinel, .sentinel, .sentinel, .sentinel], laidTests := true, laidLooks := .later }
def TableOneCardSaid : Prop := Claim7.holds Tryd.pinned (.plain (OpenSpec.ofChange tableOneSpec)) tableOneCard

/-- THE TIED CARD OF 'amblerlaw09.TableLeast'. -/
def tableLeastCard : Claim7 := { stood := { row := tableLeastRow, standIns := [], harness := (true, "aa445aba486dd4920d1545ad8a25e3a3dd2d12998d97d30f1c0688c52baab7eb"), looks := true }, kinds := [], alts := [], laidByText := true, laidKinds := [.data, .sentinel, .sentinel, .sentinel, .sentinel, .sentinel, .sentinel, .sentinel, .sentinel, .sentinel, .sentinel, .sentinel, .sentinel, .sentinel, .sentinel, .sentinel, .sentinel], laidTests := true, laidLooks := .later }
def TableLeastCardSaid : Prop := Claim7.holds Tryd.pinned (.plain (OpenSpec.ofChange tableLeastSpec)) tableLeastCard

/-- THE SECOND FORM's CARD OF 'amblerlaw09.TableRaw'. -/
def tableRawUptoCard : Claim7 := { stood := { row := tableRawUptoRow, standIns := [], harness := (true, "aa445aba486dd4920d1545ad8a25e3a3dd2d12998d97d30f1c0688c52baab7eb"), looks := true }, kinds := [], alts := [], laidByText := true, laidKinds := [.data, .sentinel, .sentinel, .sentinel, .sentinel, .sentinel, .sentinel, .sentinel, .sentinel, .sentinel, .sentinel, .sentinel, .sentinel, .sentinel, .sentinel, .sentinel, .sentinel], laidTests := true, laidLooks := .later }
def TableRawUptoCardSaid : Prop := Claim7.holds Tryd.pinned (.plain (OpenSpec.upto tableRawSpec)) tableRawUptoCard

/-- THE SECOND FORM's CARD OF 'amblerlaw09.TableFunction'. -/
def tableFunctionUptoCard : Claim7 := { stood := { row := tableFunctionUptoRow, standIns := [], harness := (true, "aa445aba486dd4920d1545ad8a25e3a3dd2d12998d97d30f1c0688c52baab7eb"), looks := true }, kinds := [], alts := [], laidByText := true, laidKinds := [.data, .sentinel, .sentinel, .sentinel, .sentinel, .sentinel, .sentinel, .sentinel, .sentinel, .sentinel, .sentinel, .sentinel, .sentinel, .sentinel, .sentinel, .sentinel, .sentinel], laidTests := true, laidLooks := .later }
def TableFunctionUptoCardSaid : Prop := Claim7.holds Tryd.pinned (.plain (OpenSpec.upto tableFunctionSpec)) tableFunctionUptoCard

/-- THE SECOND FORM's CARD OF 'amblerlaw09.TableOne'. -/
def tableOneUptoCard : Claim7 := { stood := { row := tableOneUptoRow, standIns := [], harness := (true, "aa445aba486dd4920d1545ad8a25e3a3dd2d12998d97d30f1c0688c52baab7eb"), looks := true }, kinds := [], alts := [], laidByText := true, laidKinds := [.data, .sentinel, .sentinel, .sentinel, .sentinel, .sentinel, .sentinel, .sentinel, .sentinel, .sentinel, .sentinel, .sentinel, .sentinel, .sentinel, .sentinel, .sentinel, .sentinel], laidTests := true, laidLooks := .later }
def TableOneUptoCardSaid : Prop := Claim7.holds Tryd.pinned (.plain (OpenSpec.upto tableOneSpec)) tableOneUptoCard

/-- THE SECOND FORM's CARD OF 'amblerlaw09.TableLeast'. -/
def tableLeastUptoCard : Claim7 := { stood := { row := tableLeastUptoRow, standIns := [], harness := (true, "aa445aba486dd4920d1545ad8a25e3a3dd2d12998d97d30f1c0688c52baab7eb"), looks := true }, kinds := [], alts := [], laidByText := true, laidKinds := [.data, .sentinel, .sentinel, .sentinel, .sentinel, .sentinel, .sentinel, .sentinel, .sentinel, .sentinel, .sentinel, .sentinel, .sentinel, .sentinel, .sentinel, .sentinel, .sentinel], laidTests := true, laidLooks := .later }
def TableLeastUptoCardSaid : Prop := Claim7.holds Tryd.pinned (.plain (OpenSpec.upto tableLeastSpec)) tableLeastUptoCard
end Rows
end Go.Proofs.YtlgjmnckdjkngaaDoor
