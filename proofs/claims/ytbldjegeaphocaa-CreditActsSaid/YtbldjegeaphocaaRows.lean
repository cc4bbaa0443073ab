/-
  No cell of these rows narrows 'for every input' (looked for: loops, veiled, ifaces, maps, wideKeys, modest, calm, conditions, laid).
  DERIVED. THE GIVEN ROWS OF THIS SEAT. 4 by the template 'for every input the law returns true; each argument reads behind the call as it read before'; 0 by the template 'total and deterministic' (their statements: YtbldjegeaphocaaTotals.lean).
  GIVEN WITH THE SEED: the statements are not yours to turn. If you find one false, say at which input.
  Laid BY PROGRAM, IN A SANDBOX (cutbox-rows.mjs): the forced cells as the released guide's own fill.sh prints them over the translation 96f365ef33d5e3ca… (all of the seat's roots in one cut). By AI agents, Wed Nov 11 2026. No macro, syntax, notation, axiom, sorry.
-/
import Derived.Test.YtbldjegeaphocaaChecked
import GoSem.Claim
import GoSem.ClaimJoined
import GoSem.ClaimMapViews
import Derived.JoinedTies
import Derived.KernelRfl
namespace Go.Proofs.Ytbldjegeaphocaa
/- THE CELL 'sum', in the pinned program and in every row, IS THE sha256 OF THE DUMP (.gsa) THAT YtbldjegeaphocaaProg.lean LOADS. Nothing in Lean hashes anything: it is a label: what it is worth is what the hold of that sum in a sandbox is worth. -/
noncomputable def Try.pinned : Pinned := { name := "ytbldjegeaphocaa", sum := "96f365ef33d5e3ca5c2f6be7088d593e3ef99c47cbb3907bbc5cfc667f95bf93", checked := Try.checked }
namespace Rows
def none {H : Type} : Left H := { results := [], args := [] }

/-- 'amblerlaw07.CreditActs': WHATEVER THE INPUT: true; the input reads as it did. -/
def creditActsSpec : ChangeSpec := { name := "creditActs", fn := fun _ => fun
  | [d] => { results := [.lit (.bool true)], args := [d] }
  | _ => none }
def creditActsRow : OpenClaim := { program := "ytbldjegeaphocaa", sum := "96f365ef33d5e3ca5c2f6be7088d593e3ef99c47cbb3907bbc5cfc667f95bf93", func := "ambler/amblerlaw07.CreditActs", spec := "creditActs", apart := false }
def CreditActsSaid : Prop := creditActsRow.holds Try.pinned (OpenSpec.ofChange creditActsSpec)

/-- ITS FALSE NEIGHBOUR: 'it returns false'. Refute it at one input. -/
def creditActsWrong : ChangeSpec := { name := "creditActs", fn := fun _ => fun
  | [d] => { results := [.lit (.bool false)], args := [d] }
  | _ => none }
def CreditActsWrongFalsely : Prop := creditActsRow.holds Try.pinned (OpenSpec.ofChange creditActsWrong)

/-- 'amblerlaw07.CreditWhole': WHATEVER THE INPUT: true; the input reads as it did. -/
def creditWholeSpec : ChangeSpec := { name := "creditWhole", fn := fun _ => fun
  | [d] => { results := [.lit (.bool true)], args := [d] }
  | _ => none }
def creditWholeRow : OpenClaim := { program := "ytbldjegeaphocaa", sum := "96f365ef33d5e3ca5c2f6be7088d593e3ef99c47cbb3907bbc5cfc667f95bf93", func := "ambler/amblerlaw07.CreditWhole", spec := "creditWhole", apart := false }
def CreditWholeSaid : Prop := creditWholeRow.holds Try.pinned (OpenSpec.ofChange creditWholeSpec)

/-- ITS FALSE NEIGHBOUR: 'it returns false'. Refute it at one input. -/
def creditWholeWrong : ChangeSpec := { name := "creditWhole", fn := fun _ => fun
  | [d] => { results := [.lit (.bool false)], args := [d] }
  | _ => none }
def CreditWholeWrongFalsely : Prop := creditWholeRow.holds Try.pinned (OpenSpec.ofChange creditWholeWrong)

/-- 'amblerlaw07.CreditKeeps': WHATEVER THE INPUT: true; the input reads as it did. -/
def creditKeepsSpec : ChangeSpec := { name := "creditKeeps", fn := fun _ => fun
  | [d] => { results := [.lit (.bool true)], args := [d] }
  | _ => none }
def creditKeepsRow : OpenClaim := { program := "ytbldjegeaphocaa", sum := "96f365ef33d5e3ca5c2f6be7088d593e3ef99c47cbb3907bbc5cfc667f95bf93", func := "ambler/amblerlaw07.CreditKeeps", spec := "creditKeeps", apart := false }
def CreditKeepsSaid : Prop := creditKeepsRow.holds Try.pinned (OpenSpec.ofChange creditKeepsSpec)

/-- ITS FALSE NEIGHBOUR: 'it returns false'. Refute it at one input. -/
def creditKeepsWrong : ChangeSpec := { name := "creditKeeps", fn := fun _ => fun
  | [d] => { results := [.lit (.bool false)], args := [d] }
  | _ => none }
def CreditKeepsWrongFalsely : Prop := creditKeepsRow.holds Try.pinned (OpenSpec.ofChange creditKeepsWrong)

/-- 'amblerlaw07.CreditParts': WHATEVER THE INPUT: true; the input reads as it did. -/
def creditPartsSpec : ChangeSpec := { name := "creditParts", fn := fun _ => fun
  | [d1, d2] => { results := [.lit (.bool true)], args := [d1, d2] }
  | _ => none }
def creditPartsRow : OpenClaim := { program := "ytbldjegeaphocaa", sum := "96f365ef33d5e3ca5c2f6be7088d593e3ef99c47cbb3907bbc5cfc667f95bf93", func := "ambler/amblerlaw07.CreditParts", spec := "creditParts", apart := false }
def CreditPartsSaid : Prop := creditPartsRow.holds Try.pinned (OpenSpec.ofChange creditPartsSpec)

/-- ITS FALSE NEIGHBOUR: 'it returns false'. Refute it at one input. -/
def creditPartsWrong : ChangeSpec := { name := "creditParts", fn := fun _ => fun
  | [d1, d2] => { results := [.lit (.bool false)], args := [d1, d2] }
  | _ => none }
def CreditPartsWrongFalsely : Prop := creditPartsRow.holds Try.pinned (OpenSpec.ofChange creditPartsWrong)

/- THE SECOND FORM. 'bulk': how many values and letters a reading holds, each counted each time it is reached (what is shared counts as often as it is met; a slice's spare places count too). A statement '..UptoSaid' is the law's where the arguments, and the package variables that the reading takes, are together of bulk at most 1048576: NARROWER than '..Said'. Prove '..Said' where nothing that the law and all that it calls make is longer than what came in: it says more and counts as full. Else prove '..UptoSaid'. A law counts once. -/
mutual
def uptoBulk {H : Type} : DataW H → Nat
  | .lit (.string bytes) => bytes.length + 1
  | .lit _ => 1
  | .nil => 1
  | .ptr d => uptoBulk d + 1
  | .slice elems spare => uptoBulkAll elems + uptoBulkAll spare + 1
  | .agg parts => uptoBulkAll parts + 1
  | .iface _ d => uptoBulk d + 1
  | .map entries => uptoBulkEntries entries + 1
  | .held _ => 1
def uptoBulkAll {H : Type} : List (DataW H) → Nat
  | [] => 0
  | d :: r => uptoBulk d + uptoBulkAll r
def uptoBulkEntries {H : Type} : List (Lit × DataW H) → Nat
  | [] => 0
  | x :: r => uptoBulkEntry x + uptoBulkEntries r
def uptoBulkEntry {H : Type} : Lit × DataW H → Nat
  | (.string bytes, d) => bytes.length + uptoBulk d + 1
  | (_, d) => uptoBulk d + 1
 end
def uptoSmall : (H : Type) → List (DataW H) → Bool := fun _ ds => decide (uptoBulkAll ds ≤ 1048576)
def OpenSpec.upto (s : _root_.Go.ChangeSpec) : _root_.Go.OpenSpec := { _root_.Go.OpenSpec.ofChange s with cond := some uptoSmall }

/-- 'amblerlaw07.CreditActs', WHERE WHAT IT READS IS OF BULK AT MOST 1048576: true; the input reads as it did. -/
def creditActsUptoRow : OpenClaim := { program := "ytbldjegeaphocaa", sum := "96f365ef33d5e3ca5c2f6be7088d593e3ef99c47cbb3907bbc5cfc667f95bf93", func := "ambler/amblerlaw07.CreditActs", spec := "creditActs", apart := false, narrowed := true }
def CreditActsUptoSaid : Prop := creditActsUptoRow.holds Try.pinned (OpenSpec.upto creditActsSpec)

/-- 'amblerlaw07.CreditWhole', WHERE WHAT IT READS IS OF BULK AT MOST 1048576: true; the input reads as it did. -/
def creditWholeUptoRow : OpenClaim := { program := "ytbldjegeaphocaa", sum := "96f365ef33d5e3ca5c2f6be7088d593e3ef99c47cbb3907bbc5cfc667f95bf93", func := "ambler/amblerlaw07.CreditWhole", spec := "creditWhole", apart := false, narrowed := true }
def CreditWholeUptoSaid : Prop := creditWholeUptoRow.holds Try.pinned (OpenSpec.upto creditWholeSpec)

/-- 'amblerlaw07.CreditKeeps', WHERE WHAT IT READS IS OF BULK AT MOST 1048576: true; the input reads as it did. -/
def creditKeepsUptoRow : OpenClaim := { program := "ytbldjegeaphocaa", sum := "96f365ef33d5e3ca5c2f6be7088d593e3ef99c47cbb3907bbc5cfc667f95bf93", func := "ambler/amblerlaw07.CreditKeeps", spec := "creditKeeps", apart := false, narrowed := true }
def CreditKeepsUptoSaid : Prop := creditKeepsUptoRow.holds Try.pinned (OpenSpec.upto creditKeepsSpec)

/-- 'amblerlaw07.CreditParts', WHERE WHAT IT READS IS OF BULK AT MOST 1048576: true; the input reads as it did. -/
def creditPartsUptoRow : OpenClaim := { program := "ytbldjegeaphocaa", sum := "96f365ef33d5e3ca5c2f6be7088d593e3ef99c47cbb3907bbc5cfc667f95bf93", func := "ambler/amblerlaw07.CreditParts", spec := "creditParts", apart := false, narrowed := true }
def CreditPartsUptoSaid : Prop := creditPartsUptoRow.holds Try.pinned (OpenSpec.upto creditPartsSpec)

end Rows
end Go.Proofs.Ytbldjegeaphocaa
