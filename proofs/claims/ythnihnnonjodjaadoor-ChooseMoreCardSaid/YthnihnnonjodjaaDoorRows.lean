/-
  NARROWER THAN 'FOR EVERY INPUT', by the rows' own cells (each row's printed sentence says how): ChooseTells: laid · ChooseRoom: laid · ChooseMore: laid.
  DERIVED. THE GIVEN ROWS OF THIS SEAT. 3 by the template 'for every input the law returns true; each argument reads behind the call as it read before'; 0 by the template 'total and deterministic' (their statements: YthnihnnonjodjaaDoorTotals.lean).
  GIVEN WITH THE SEED: the statements are not yours to turn. If you find one false, say at which input.
  Laid BY PROGRAM, IN A SANDBOX (cutbox-rows.mjs): the forced cells as the released guide's own fill.sh prints them over the translation fad97fe90f5fce10… (all of the seat's roots in one cut). By AI agents, Wed Nov 11 2026. No macro, syntax, notation, axiom, sorry.
-/
import Derived.Test.YthnihnnonjodjaaDoorChecked
import GoSem.Claim
import GoSem.ClaimJoined
import GoSem.ClaimMapViews
import Derived.JoinedTies
import Derived.KernelRfl
namespace Go.Proofs.YthnihnnonjodjaaDoor
/- THE CELL 'sum', in the pinned program and in every row, IS THE sha256 OF THE DUMP (.gsa) THAT YthnihnnonjodjaaDoorProg.lean LOADS. Nothing in Lean hashes anything: it is a label: what it is worth is what the hold of that sum in a sandbox is worth. -/
noncomputable def Tryd.pinned : Pinned := { name := "ythnihnnonjodjaadoor", sum := "fad97fe90f5fce106ff8c7a925fd92714b7e0eff39234cc383cffec44996d6ef", checked := Tryd.checked }
namespace Rows
def none {H : Type} : Left H := { results := [], args := [] }

/- WHAT THE LISTED PACKAGE-LEVEL VARIABLES READ AS WHEN THE CALL BEGINS. Each datum BY PROGRAM (the guide's laid-datum.mjs) off the statement by which the dump's own 'gosem.cut.vars' lays the variable. In a bare row this is a premise. The card (YthnihnnonjodjaaDoorCards.lean) ties it to the program's text. -/
def laid_ambler_api_ErrRange {H : Type} : DataW H := .iface "*errors.errorString" (.ptr (.agg [.lit (.string [97, 32, 110, 117, 109, 98, 101, 114, 32, 105, 115, 32, 111, 117, 116, 32, 111, 102, 32, 105, 116, 115, 32, 114, 97, 110, 103, 101])]))
def laid_ambler_api_ErrFull {H : Type} : DataW H := .iface "*errors.errorString" (.ptr (.agg [.lit (.string [116, 104, 101, 114, 101, 32, 105, 115, 32, 110, 111, 32, 109, 111, 114, 101, 32, 114, 111, 111, 109])]))
def laid_ambler_api_ErrForm {H : Type} : DataW H := .iface "*errors.errorString" (.ptr (.agg [.lit (.string [105, 116, 32, 105, 115, 32, 110, 111, 116, 32, 111, 102, 32, 105, 116, 115, 32, 102, 111, 114, 109])]))
def laid_ambler_api_ErrNone {H : Type} : DataW H := .iface "*errors.errorString" (.ptr (.agg [.lit (.string [116, 104, 101, 114, 101, 32, 105, 115, 32, 110, 111, 110, 101])]))
def laid_ambler_api_ErrState {H : Type} : DataW H := .iface "*errors.errorString" (.ptr (.agg [.lit (.string [105, 116, 32, 99, 97, 110, 32, 110, 111, 116, 32, 98, 101, 32, 100, 111, 110, 101, 32, 105, 110, 32, 116, 104, 105, 115, 32, 115, 116, 97, 116, 101])]))
def laid_ambler_api_ErrBadIter {H : Type} : DataW H := .iface "*errors.errorString" (.ptr (.agg [.lit (.string [116, 104, 101, 114, 101, 32, 105, 115, 32, 110, 111, 32, 115, 117, 99, 104, 32, 105, 116, 101, 114, 97, 116, 111, 114])]))
def laid_ambler_api_ErrTooMany {H : Type} : DataW H := .iface "*errors.errorString" (.ptr (.agg [.lit (.string [116, 104, 101, 114, 101, 32, 97, 114, 101, 32, 116, 111, 111, 32, 109, 97, 110, 121, 32, 105, 116, 101, 114, 97, 116, 111, 114, 115])]))
def laid_ambler_api_ErrHash {H : Type} : DataW H := .iface "*errors.errorString" (.ptr (.agg [.lit (.string [111, 110, 101, 32, 107, 101, 121, 32, 104, 97, 115, 32, 116, 119, 111, 32, 104, 97, 115, 104, 101, 115])]))
def laid_ambler_api_ErrLong {H : Type} : DataW H := .iface "*errors.errorString" (.ptr (.agg [.lit (.string [116, 104, 101, 114, 101, 32, 105, 115, 32, 109, 111, 114, 101, 32, 116, 104, 97, 110, 32, 109, 97, 121, 32, 98, 101])]))
def laid_ambler_api_ErrBroken {H : Type} : DataW H := .iface "*errors.errorString" (.ptr (.agg [.lit (.string [115, 111, 109, 101, 116, 104, 105, 110, 103, 32, 116, 104, 97, 116, 32, 109, 117, 115, 116, 32, 98, 101, 32, 115, 111, 32, 105, 115, 32, 110, 111, 116])]))
def laid_ambler_api_ErrLimit {H : Type} : DataW H := .iface "*errors.errorString" (.ptr (.agg [.lit (.string [97, 32, 108, 105, 109, 105, 116, 32, 105, 115, 32, 112, 97, 115, 115, 101, 100])]))
def laid_ambler_api_ErrEmpty {H : Type} : DataW H := .iface "*errors.errorString" (.ptr (.agg [.lit (.string [116, 104, 101, 114, 101, 32, 105, 115, 32, 110, 111, 116, 104, 105, 110, 103, 32, 105, 110, 32, 105, 116])]))
def laid_ambler_api_ErrNumber {H : Type} : DataW H := .iface "*errors.errorString" (.ptr (.agg [.lit (.string [116, 104, 101, 32, 116, 101, 120, 116, 32, 105, 115, 32, 110, 111, 32, 110, 117, 109, 98, 101, 114])]))
def laid_ambler_api_ErrKind {H : Type} : DataW H := .iface "*errors.errorString" (.ptr (.agg [.lit (.string [105, 116, 32, 105, 115, 32, 111, 102, 32, 97, 110, 111, 116, 104, 101, 114, 32, 107, 105, 110, 100])]))
def laid_ambler_api_ErrName {H : Type} : DataW H := .iface "*errors.errorString" (.ptr (.agg [.lit (.string [116, 104, 101, 114, 101, 32, 105, 115, 32, 110, 111, 32, 115, 117, 99, 104, 32, 110, 97, 109, 101])]))
def laid_ambler_api_ErrDup {H : Type} : DataW H := .iface "*errors.errorString" (.ptr (.agg [.lit (.string [105, 116, 32, 105, 115, 32, 116, 104, 101, 114, 101, 32, 97, 108, 114, 101, 97, 100, 121])]))
def laid_ambler_choose_words {H : Type} : DataW H := .agg [.lit (.string [110, 111, 110, 101]), .lit (.string [115, 119, 101, 101, 112]), .lit (.string [103, 114, 111, 119]), .lit (.string [115, 112, 108, 105, 116])]
def laid_ambler_choose_fresh {H : Type} : DataW H := .agg [.agg [.lit (.int .i64 0), .lit (.int .i64 0)], .agg [.lit (.int .i64 1), .lit (.int .i64 1)], .agg [.lit (.int .i64 2), .lit (.int .i64 1)], .agg [.lit (.int .i64 1), .lit (.int .i64 2)]]

/-- 'amblerlaw14.ChooseTells': WHATEVER THE INPUT: true; the input reads as it did. -/
def chooseTellsSpec : ChangeSpec := { name := "chooseTells", fn := fun _ => fun
  | [d1, d2] => { results := [.lit (.bool true)], args := [d1, d2] }
  | _ => none }
def chooseTellsRow : OpenClaim := { program := "ythnihnnonjodjaadoor", sum := "fad97fe90f5fce106ff8c7a925fd92714b7e0eff39234cc383cffec44996d6ef", func := "ambler/amblerlaw14.ChooseTells", spec := "chooseTells", inPlace := ["internal/reflectlite.TypeOf"], unfollowed := true, recurses := true, named := ["ambler/choose.words", "ambler/api.ErrKind", "ambler/choose.fresh", "ambler/api.ErrRange", "ambler/api.ErrFull", "ambler/api.ErrForm", "ambler/api.ErrNone", "ambler/api.ErrState", "ambler/api.ErrBadIter", "ambler/api.ErrTooMany", "ambler/api.ErrHash", "ambler/api.ErrLong", "ambler/api.ErrBroken", "ambler/api.ErrLimit", "ambler/api.ErrEmpty", "ambler/api.ErrNumber", "ambler/api.ErrName", "ambler/api.ErrDup"], apart := false, laid := [("ambler/api.ErrRange", laid_ambler_api_ErrRange), ("ambler/api.ErrFull", laid_ambler_api_ErrFull), ("ambler/api.ErrForm", laid_ambler_api_ErrForm), ("ambler/api.ErrNone", laid_ambler_api_ErrNone), ("ambler/api.ErrState", laid_ambler_api_ErrState), ("ambler/api.ErrBadIter", laid_ambler_api_ErrBadIter), ("ambler/api.ErrTooMany", laid_ambler_api_ErrTooMany), ("ambler/api.ErrHash", laid_ambler_api_ErrHash), ("ambler/api.ErrLong", laid_ambler_api_ErrLong), ("ambler/api.ErrBroken", laid_ambler_api_ErrBroken), ("ambler/api.ErrLimit", laid_ambler_api_ErrLimit), ("ambler/api.ErrEmpty", laid_ambler_api_ErrEmpty), ("ambler/api.ErrNumber", laid_ambler_api_ErrNumber), ("ambler/api.ErrKind", laid_ambler_api_ErrKind), ("ambler/api.ErrName", laid_ambler_api_ErrName), ("ambler/api.ErrDup", laid_ambler_api_ErrDup), ("ambler/choose.words", laid_ambler_choose_words), ("ambler/choose.fresh", laid_ambler_choose_fresh)] }
def ChooseTellsSaid : Prop := chooseTellsRow.holds Tryd.pinned (OpenSpec.ofChange chooseTellsSpec)

/-- ITS FALSE NEIGHBOUR: 'it returns false'. Refute it at one input. -/
def chooseTellsWrong : ChangeSpec := { name := "chooseTells", fn := fun _ => fun
  | [d1, d2] => { results := [.lit (.bool false)], args := [d1, d2] }
  | _ => none }
def ChooseTellsWrongFalsely : Prop := chooseTellsRow.holds Tryd.pinned (OpenSpec.ofChange chooseTellsWrong)

/-- 'amblerlaw14.ChooseRoom': WHATEVER THE INPUT: true; the input reads as it did. -/
def chooseRoomSpec : ChangeSpec := { name := "chooseRoom", fn := fun _ => fun
  | [d] => { results := [.lit (.bool true)], args := [d] }
  | _ => none }
def chooseRoomRow : OpenClaim := { program := "ythnihnnonjodjaadoor", sum := "fad97fe90f5fce106ff8c7a925fd92714b7e0eff39234cc383cffec44996d6ef", func := "ambler/amblerlaw14.ChooseRoom", spec := "chooseRoom", named := ["ambler/choose.words", "ambler/api.ErrKind", "ambler/choose.fresh", "ambler/api.ErrRange"], apart := false, laid := [("ambler/api.ErrRange", laid_ambler_api_ErrRange), ("ambler/api.ErrKind", laid_ambler_api_ErrKind), ("ambler/choose.words", laid_ambler_choose_words), ("ambler/choose.fresh", laid_ambler_choose_fresh)] }
def ChooseRoomSaid : Prop := chooseRoomRow.holds Tryd.pinned (OpenSpec.ofChange chooseRoomSpec)

/-- ITS FALSE NEIGHBOUR: 'it returns false'. Refute it at one input. -/
def chooseRoomWrong : ChangeSpec := { name := "chooseRoom", fn := fun _ => fun
  | [d] => { results := [.lit (.bool false)], args := [d] }
  | _ => none }
def ChooseRoomWrongFalsely : Prop := chooseRoomRow.holds Tryd.pinned (OpenSpec.ofChange chooseRoomWrong)

/-- 'amblerlaw14.ChooseMore': WHATEVER THE INPUT: true; the input reads as it did. -/
def chooseMoreSpec : ChangeSpec := { name := "chooseMore", fn := fun _ => fun
  | [d1, d2] => { results := [.lit (.bool true)], args := [d1, d2] }
  | _ => none }
def chooseMoreRow : OpenClaim := { program := "ythnihnnonjodjaadoor", sum := "fad97fe90f5fce106ff8c7a925fd92714b7e0eff39234cc383cffec44996d6ef", func := "ambler/amblerlaw14.ChooseMore", spec := "chooseMore", named := ["ambler/choose.words"], apart := false, laid := [("ambler/choose.words", laid_ambler_choose_words)] }
def ChooseMoreSaid : Prop := chooseMoreRow.holds Tryd.pinned (OpenSpec.ofChange chooseMoreSpec)

/-- ITS FALSE NEIGHBOUR: 'it returns false'. Refute it at one input. -/
def chooseMoreWrong : ChangeSpec := { name := "chooseMore", fn := fun _ => fun
  | [d1, d2] => { results := [.lit (.bool false)], args := [d1, d2] }
  | _ => none }
def ChooseMoreWrongFalsely : Prop := chooseMoreRow.holds Tryd.pinned (OpenSpec.ofChange chooseMoreWrong)

/- THE SECOND FORM. 'bulk': how many values and letters a reading holds, each counted each time it is reached (what is shared counts as often as it is met; a slice's spare places count too). A statement '..UptoSaid' is the law's where the arguments, and the package variables that the reading takes, are together of bulk at most 1048576: NARROWER than '..Said'. Prove '..Said' where nothing that the law and all that it calls make is longer than what came in: it says more and counts as full. Else prove '..UptoSaid'. A law counts once. -/
mutual
def uptoBulk {H : Type} : DataW H → Nat
  | .lit (.string bytes) => bytes.length + 1
  | .lit _ => 1
  | .nil => 1
  | .ptr d => uptoBulk d + 1
  | .slice elems spare => uptoBulkAll elems + uptoBulkAll spare + 1
  | .agg parts => uptoBulkAll parts + 1
  | .iface _ d => uptoBulk d + 1
  | .map entries => uptoBulkEntries entries + 1
  | .held _ => 1
def uptoBulkAll {H : Type} : List (DataW H) → Nat
  | [] => 0
  | d :: r => uptoBulk d + uptoBulkAll r
def uptoBulkEntries {H : Type} : List (Lit × DataW H) → Nat
  | [] => 0
  | x :: r => uptoBulkEntry x + uptoBulkEntries r
def uptoBulkEntry {H : Type} : Lit × DataW H → Nat
  | (.string bytes, d) => bytes.length + uptoBulk d + 1
  | (_, d) => uptoBulk d + 1
 end
def uptoSmall : (H : Type) → List (DataW H) → Bool := fun _ ds => decide (uptoBulkAll ds ≤ 1048576)
def OpenSpec.upto (s : _root_.Go.ChangeSpec) : _root_.Go.OpenSpec := { _root_.Go.OpenSpec.ofChange s with cond := some uptoSmall }

/-- 'amblerlaw14.ChooseTells', WHERE WHAT IT READS IS OF BULK AT MOST 1048576: true; the input reads as it did. -/
def chooseTellsUptoRow : OpenClaim := { program := "ythnihnnonjodjaadoor", sum := "fad97fe90f5fce106ff8c7a925fd92714b7e0eff39234cc383cffec44996d6ef", func := "ambler/amblerlaw14.ChooseTells", spec := "chooseTells", inPlace := ["internal/reflectlite.TypeOf"], unfollowed := true, recurses := true, named := ["ambler/choose.words", "ambler/api.ErrKind", "ambler/choose.fresh", "ambler/api.ErrRange", "ambler/api.ErrFull", "ambler/api.ErrForm", "ambler/api.ErrNone", "ambler/api.ErrState", "ambler/api.ErrBadIter", "ambler/api.ErrTooMany", "ambler/api.ErrHash", "ambler/api.ErrLong", "ambler/api.ErrBroken", "ambler/api.ErrLimit", "ambler/api.ErrEmpty", "ambler/api.ErrNumber", "ambler/api.ErrName", "ambler/api.ErrDup"], apart := false, laid := [("ambler/api.ErrRange", laid_ambler_api_ErrRange), ("ambler/api.ErrFull", laid_ambler_api_ErrFull), ("ambler/api.ErrForm", laid_ambler_api_ErrForm), ("ambler/api.ErrNone", laid_ambler_api_ErrNone), ("ambler/api.ErrState", laid_ambler_api_ErrState), ("ambler/api.ErrBadIter", laid_ambler_api_ErrBadIter), ("ambler/api.ErrTooMany", laid_ambler_api_ErrTooMany), ("ambler/api.ErrHash", laid_ambler_api_ErrHash), ("ambler/api.ErrLong", laid_ambler_api_ErrLong), ("ambler/api.ErrBroken", laid_ambler_api_ErrBroken), ("ambler/api.ErrLimit", laid_ambler_api_ErrLimit), ("ambler/api.ErrEmpty", laid_ambler_api_ErrEmpty), ("ambler/api.ErrNumber", laid_ambler_api_ErrNumber), ("ambler/api.ErrKind", laid_ambler_api_ErrKind), ("ambler/api.ErrName", laid_ambler_api_ErrName), ("ambler/api.ErrDup", laid_ambler_api_ErrDup), ("ambler/choose.words", laid_ambler_choose_words), ("ambler/choose.fresh", laid_ambler_choose_fresh)], narrowed := true }
def ChooseTellsUptoSaid : Prop := chooseTellsUptoRow.holds Tryd.pinned (OpenSpec.upto chooseTellsSpec)

/-- 'amblerlaw14.ChooseRoom', WHERE WHAT IT READS IS OF BULK AT MOST 1048576: true; the input reads as it did. -/
def chooseRoomUptoRow : OpenClaim := { program := "ythnihnnonjodjaadoor", sum := "fad97fe90f5fce106ff8c7a925fd92714b7e0eff39234cc383cffec44996d6ef", func := "ambler/amblerlaw14.ChooseRoom", spec := "chooseRoom", named := ["ambler/choose.words", "ambler/api.ErrKind", "ambler/choose.fresh", "ambler/api.ErrRange"], apart := false, laid := [("ambler/api.ErrRange", laid_ambler_api_ErrRange), ("ambler/api.ErrKind", laid_ambler_api_ErrKind), ("ambler/choose.words", laid_ambler_choose_words), ("ambler/choose.fresh", laid_ambler_choose_fresh)], narrowed := true }
def ChooseRoomUptoSaid : Prop := chooseRoomUptoRow.holds Tryd.pinned (OpenSpec.upto chooseRoomSpec)

/-- 'amblerlaw14.ChooseMore', WHERE WHAT IT READS IS OF BULK AT MOST 1048576: true; the input reads as it did. -/
def chooseMoreUptoRow : OpenClaim := { program := "ythnihnnonjodjaadoor", sum := "fad97fe90f5fce106ff8c7a925fd92714b7e0eff39234cc383cffec44996d6ef", func := "ambler/amblerlaw14.ChooseMore", spec := "chooseMore", named := ["ambler/choose.words"], apart := false, laid := [("ambler/choose.words", laid_ambler_choose_words)], narrowed := true }
def ChooseMoreUptoSaid : Prop := chooseMoreUptoRow.holds Tryd.pinned (OpenSpec.upto chooseMoreSpec)

end Rows
end Go.Proofs.YthnihnnonjodjaaDoor
