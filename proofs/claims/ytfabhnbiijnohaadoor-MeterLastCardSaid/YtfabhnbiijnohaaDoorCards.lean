/-
  DERIVED. GIVEN WITH THE SEED: THE CARDS: each row of YtfabhnbiijnohaaDoorRows.lean that lists a variable, with what it lists TIED to the program's text (the seventh form; the later family's looks); each row that meets fmt, with fmt's text TOLD by the authors' own Lean function (tested against real Go, not proved from fmt's source: count such statements apart). THE CARD IS WHAT COUNTS. Prove the row's statement (the work); the ties are given (YtfabhnbiijnohaaDoorTie.lean); close each card by the builder's one call (the guide's Derived/Test/ToyasCard.lean, 'card_holds'). Laid BY PROGRAM, IN A SANDBOX (cutbox-door.mjs). By AI agents, Wed Nov 11 2026. No macro, syntax, notation, axiom, sorry.
-/
import Derived.Test.YtfabhnbiijnohaaDoorRows
import GoSem.ClaimSeven
namespace Go.Proofs.YtfabhnbiijnohaaDoor
namespace Rows

/-- THE TIED CARD OF 'amblerlaw06.MeterActs'. -/
def meterActsCard : Claim7 := { stood := { row := meterActsRow, standIns := [], harness := (true, "0cbd647331381b8d40edf76fb2f4c9f508ff7854e0dccf011041401355ea414d"), looks := true }, kinds := [], alts := [], laidByText := true, laidKinds := [.sentinel, .sentinel, .sentinel, .sentinel, .sentinel, .sentinel, .sentinel, .sentinel, .sentinel, .sentinel, .sentinel, .sentinel, .sentinel, .sentinel, .sentinel, .sentinel], laidTests := true, laidLooks := .later }
def MeterActsCardSaid : Prop := Claim7.holds Tryd.pinned (.plain (OpenSpec.ofChange meterActsSpec)) meterActsCard

/-- THE TIED CARD OF 'amblerlaw06.MeterSums'. -/
def meterSumsCard : Claim7 := { stood := { row := meterSumsRow, standIns := [], harness := (true, "0cbd647331381b8d40edf76fb2f4c9f508ff7854e0dccf011041401355ea414d"), looks := true }, kinds := [], alts := [], laidByText := true, laidKinds := [.sentinel], laidTests := true, laidLooks := .later }
def MeterSumsCardSaid : Prop := Claim7.holds Tryd.pinned (.plain (OpenSpec.ofChange meterSumsSpec)) meterSumsCard

/-- THE TIED CARD OF 'amblerlaw06.MeterLast'. -/
def meterLastCard : Claim7 := { stood := { row := meterLastRow, standIns := [], harness := (true, "0cbd647331381b8d40edf76fb2f4c9f508ff7854e0dccf011041401355ea414d"), looks := true }, kinds := [], alts := [], laidByText := true, laidKinds := [.sentinel, .sentinel, .sentinel, .sentinel, .sentinel, .sentinel, .sentinel, .sentinel, .sentinel, .sentinel, .sentinel, .sentinel, .sentinel, .sentinel, .sentinel, .sentinel], laidTests := true, laidLooks := .later }
def MeterLastCardSaid : Prop := Claim7.holds Tryd.pinned (.plain (OpenSpec.ofChange meterLastSpec)) meterLastCard

/-- THE TIED CARD OF 'amblerlaw06.MeterJoins'. -/
def meterJoinsCard : Claim7 := { stood := { row := meterJoinsRow, standIns := [], harness := (true, "0cbd647331381b8d40edf76fb2f4c9f508ff7854e0dccf011041401355ea414d"), looks := true }, kinds := [], alts := [], laidByText := true, laidKinds := [.sentinel, .sentinel, .sentinel, .sentinel, .sentinel, .sentinel, .sentinel, .sentinel, .sentinel, .sentinel, .sentinel, .sentinel, .sentinel, .sentinel, .sentinel, .sentinel], laidTests := true, laidLooks := .later }
def MeterJoinsCardSaid : Prop := Claim7.holds Tryd.pinned (.plain (OpenSpec.ofChange meterJoinsSpec)) meterJoinsCard

/-- THE SECOND FORM's CARD OF 'amblerlaw06.MeterActs'. -/
def meterActsUptoCard : Claim7 := { stood := { row := meterActsUptoRow, standIns := [], harness := (true, "0cbd647331381b8d40edf76fb2f4c9f508ff7854e0dccf011041401355ea414d"), looks := true }, kinds := [], alts := [], laidByText := true, laidKinds := [.sentinel, .sentinel, .sentinel, .sentinel, .sentinel, .sentinel, .sentinel, .sentinel, .sentinel, .sentinel, .sentinel, .sentinel, .sentinel, .sentinel, .sentinel, .sentinel], laidTests := true, laidLooks := .later }
def MeterActsUptoCardSaid : Prop := Claim7.holds Tryd.pinned (.plain (OpenSpec.upto meterActsSpec)) meterActsUptoCard

/-- THE SECOND FORM's CARD OF 'amblerlaw06.MeterSums'. -/
def meterSumsUptoCard : Claim7 := { stood := { row := meterSumsUptoRow, standIns := [], harness := (true, "0cbd647331381b8d40edf76fb2f4c9f508ff7854e0dccf011041401355ea414d"), looks := true }, kinds := [], alts := [], laidByText := true, laidKinds := [.sentinel], laidTests := true, laidLooks := .later }
def MeterSumsUptoCardSaid : Prop := Claim7.holds Tryd.pinned (.plain (OpenSpec.upto meterSumsSpec)) meterSumsUptoCard

/-- THE SECOND FORM's CARD OF 'amblerlaw06.MeterLast'. -/
def meterLastUptoCard : Claim7 := { stood := { row := meterLastUptoRow, standIns := [], harness := (true, "0cbd647331381b8d40edf76fb2f4c9f508ff7854e0dccf011041401355ea414d"), looks := true }, kinds := [], alts := [], laidByText := true, laidKinds := [.sentinel, .sentinel, .sentinel, .sentinel, .sentinel, .sentinel, .sentinel, .sentinel, .sentinel, .sentinel, .sentinel, .sentinel, .sentinel, .sentinel, .sentinel, .sentinel], laidTests := true, laidLooks := .later }
def MeterLastUptoCardSaid : Prop := Claim7.holds Tryd.pinned (.plain (OpenSpec.upto meterLastSpec)) meterLastUptoCard

/-- THE SECOND FORM's CARD OF 'amblerlaw06.MeterJoins'. -/
def meterJoinsUptoCard : Claim7 := { stood := { row := meterJoinsUptoRow, standIns := [], harness := (true, "0cbd647331381b8d40edf76fb2f4c9f508ff7854e0dccf011041401355ea414d"), looks := true }, kinds := [], alts := [], laidByText := true, laidKinds := [.sentinel, .sentinel, .sentinel, .sentinel, .sentinel, .sentinel, .sentinel, .sentinel, .sentinel, .sentinel, .sentinel, .sentinel, .sentinel, .sentinel, .sentinel, .sentinel], laidTests := true, laidLooks := .later }
def MeterJoinsUptoCardSaid : Prop := Claim7.holds Tryd.pinned (.plain (OpenSpec.upto meterJoinsSpec)) meterJoinsUptoCard
end Rows
end Go.Proofs.YtfabhnbiijnohaaDoor
