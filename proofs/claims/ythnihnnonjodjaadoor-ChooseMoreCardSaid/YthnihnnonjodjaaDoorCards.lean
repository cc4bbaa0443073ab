/-
  DERIVED. GIVEN WITH THE SEED: THE CARDS: each row of YthnihnnonjodjaaDoorRows.lean that lists a variable, with what it lists TIED to the program's text (the seventh form; the later family's looks); each row that meets fmt, with fmt's text TOLD by the authors' own Lean function (tested against real Go, not proved from fmt's source: count such statements apart). THE CARD IS WHAT COUNTS. Prove the row's statement (the work); the ties are given (YthnihnnonjodjaaDoorTie.lean); close each card by the builder's one call (the guide's Derived/Test/ToyasCard.lean, 'card_holds'). Laid BY PROGRAM, IN A SANDBOX (cutbox-door.mjs). By AI agents, Wed Nov 11 2026. No macro, syntax, notation, axiom, sorry.
-/
import Derived.Test.YthnihnnonjodjaaDoorRows
import GoSem.ClaimSeven
namespace Go.Proofs.YthnihnnonjodjaaDoor
namespace Rows

/-- THE TIED CARD OF 'amblerlaw14.ChooseTells'. -/
def chooseTellsCard : Claim7 := { stood := { row := chooseTellsRow, standIns := [], harness := (true, "92f46ad417d84ee0b0ae481a65fc09cc7beaf918f74ffbb71eae5405c20c350d"), looks := true }, kinds := [], alts := [], laidByText := true, laidKinds := [.sentinel, .sentinel, .sentinel, .sentinel, .sentinel, .sentinel, .sentinel, .sentinel, .sentinel, .sentinel, .sentinel, .sentinel, .sentinel, .sentinel, .sentinel, .sentinel, .data, .data], laidTests := true, laidLooks := .later }
def ChooseTellsCardSaid : Prop := Claim7.holds Tryd.pinned (.plain (OpenSpec.ofChange chooseTellsSpec)) chooseTellsCard

/-- THE TIED CARD OF 'amblerlaw14.ChooseRoom'. -/
def chooseRoomCard : Claim7 := { stood := { row := chooseRoomRow, standIns := [], harness := (true, "92f46ad417d84ee0b0ae481a65fc09cc7beaf918f74ffbb71eae5405c20c350d"), looks := true }, kinds := [], alts := [], laidByText := true, laidKinds := [.sentinel, .sentinel, .data, .data], laidTests := true, laidLooks := .later }
def ChooseRoomCardSaid : Prop := Claim7.holds Tryd.pinned (.plain (OpenSpec.ofChange chooseRoomSpec)) chooseRoomCard

/-- THE TIED CARD OF 'amblerlaw14.ChooseMore'. -/
def chooseMoreCard : Claim7 := { stood := { row := chooseMoreRow, standIns := [], harness := (true, "92f46ad417d84ee0b0ae481a65fc09cc7beaf918f74ffbb71eae5405c20c350d"), looks := true }, kinds := [], alts := [], laidByText := true, laidKinds := [.data], laidTests := true, laidLooks := .later }
def ChooseMoreCardSaid : Prop := Claim7.holds Tryd.pinned (.plain (OpenSpec.ofChange chooseMoreSpec)) chooseMoreCard

/-- THE SECOND FORM's CARD OF 'amblerlaw14.ChooseTells'. -/
def chooseTellsUptoCard : Claim7 := { stood := { row := chooseTellsUptoRow, standIns := [], harness := (true, "92f46ad417d84ee0b0ae481a65fc09cc7beaf918f74ffbb71eae5405c20c350d"), looks := true }, kinds := [], alts := [], laidByText := true, laidKinds := [.sentinel, .sentinel, .sentinel, .sentinel, .sentinel, .sentinel, .sentinel, .sentinel, .sentinel, .sentinel, .sentinel, .sentinel, .sentinel, .sentinel, .sentinel, .sentinel, .data, .data], laidTests := true, laidLooks := .later }
def ChooseTellsUptoCardSaid : Prop := Claim7.holds Tryd.pinned (.plain (OpenSpec.upto chooseTellsSpec)) chooseTellsUptoCard

/-- THE SECOND FORM's CARD OF 'amblerlaw14.ChooseRoom'. -/
def chooseRoomUptoCard : Claim7 := { stood := { row := chooseRoomUptoRow, standIns := [], harness := (true, "92f46ad417d84ee0b0ae481a65fc09cc7beaf918f74ffbb71eae5405c20c350d"), looks := true }, kinds := [], alts := [], laidByText := true, laidKinds := [.sentinel, .sentinel, .data, .data], laidTests := true, laidLooks := .later }
def ChooseRoomUptoCardSaid : Prop := Claim7.holds Tryd.pinned (.plain (OpenSpec.upto chooseRoomSpec)) chooseRoomUptoCard

/-- THE SECOND FORM's CARD OF 'amblerlaw14.ChooseMore'. -/
def chooseMoreUptoCard : Claim7 := { stood := { row := chooseMoreUptoRow, standIns := [], harness := (true, "92f46ad417d84ee0b0ae481a65fc09cc7beaf918f74ffbb71eae5405c20c350d"), looks := true }, kinds := [], alts := [], laidByText := true, laidKinds := [.data], laidTests := true, laidLooks := .later }
def ChooseMoreUptoCardSaid : Prop := Claim7.holds Tryd.pinned (.plain (OpenSpec.upto chooseMoreSpec)) chooseMoreUptoCard
end Rows
end Go.Proofs.YthnihnnonjodjaaDoor
