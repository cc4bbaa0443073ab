/- The order of entries: Less, Before (for seats without layer 3's own law). -/
import Derived.Test.YtibcokiijlamcaaGreatDoorSplitFns
import Derived.Test.YtibcokiijlamcaaGreatDoorKit
import Derived.Test.YtibcokiijlamcaaGreatDoorErrors
namespace Go.Proofs.YtibcokiijlamcaaGreatDoor.split
open Go.ChangeShapes Go.WideShapes Go.ChangeAt Go.RowKit

/-- an entry: key, value, hash -/
abbrev entV (k v h : Nat) : Value := .agg #[.int .u64 ((k : Nat) : Int), .int .u64 ((v : Nat) : Int), .int .u64 ((h : Nat) : Int)]
/-- does it come ahead, by hash and key -/
def lessB (k1 h1 k2 h2 : Nat) : Bool := if h1 = h2 then decide (k1 < k2) else decide (h1 < h2)
/-- the order is one of all entries -/
theorem lessB_lt {k1 h1 k2 h2 : Nat} (h : h1 < h2) : lessB k1 h1 k2 h2 = true ∧ lessB k2 h2 k1 h1 = false := by
  unfold lessB; rw [if_neg (by omega), if_neg (by omega)]; simp; omega
theorem lessB_key {k1 k2 h : Nat} (hk : k1 < k2) : lessB k1 h k2 h = true ∧ lessB k2 h k1 h = false := by
  unfold lessB; rw [if_pos rfl, if_pos rfl]; simp; omega
theorem lessB_same (k h : Nat) : lessB k h k h = false := by unfold lessB; rw [if_pos rfl]; simp
theorem lessB_iff (k1 h1 k2 h2 : Nat) : lessB k1 h1 k2 h2 = true ↔ (h1 < h2 ∨ h1 = h2 ∧ k1 < k2) := by
  unfold lessB; split <;> simp <;> omega
end Go.Proofs.YtibcokiijlamcaaGreatDoor.split
