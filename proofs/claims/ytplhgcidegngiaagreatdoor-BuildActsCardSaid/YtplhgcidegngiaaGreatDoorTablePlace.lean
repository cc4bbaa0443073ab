/- table: Place; what is free. -/
import Derived.Test.YtplhgcidegngiaaGreatDoorTableSpot
namespace Go.Proofs.YtplhgcidegngiaaGreatDoor.table
open Go.ChangeShapes Go.WideShapes Go.ChangeAt Go.RowKit swar under trap meter group probe lens tail call
attribute [local go_sem] Oper.semAt_some stage.pureUpon move.stepUpon
set_option linter.unusedSimpArgs false
set_option linter.unusedVariables false
/-- the boxes of a spot and of an entry, behind a call and a third box -/
theorem boxes3 (T B key h a b k2 v2 h2 : Nat) {w w1 : World} (hb1 : Below ((boxS T B key h a b w).alloc (.cells #[.int .u64 (k2 : Nat), .int .u64 (v2 : Nat), .int .u64 (h2 : Nat)] 86)).heap.size ((boxS T B key h a b w).alloc (.cells #[.int .u64 (k2 : Nat), .int .u64 (v2 : Nat), .int .u64 (h2 : Nat)] 86)) w1) (o : Obj) :
    Below w.heap.size w (w1.alloc o) ∧ SBox w.heap.size T B key h a b (w1.alloc o) ∧ EBox (w.heap.size + 1) k2 v2 h2 (w1.alloc o) := by
  have hB := two_new w (.cells #[.pointer (some ⟨T, 0, none⟩), .int .u64 (key : Nat), .int .u64 (h : Nat), .pointer (some ⟨B, a * 25, none⟩), .pointer (some ⟨B, b * 25, none⟩)] 115) (.cells #[.int .u64 (k2 : Nat), .int .u64 (v2 : Nat), .int .u64 (h2 : Nat)] 86)
  have h1 := under.below_step hb1 (new_block w1 o)
  exact ⟨under.below_step hB h1, ((SBox.new T B key h a b w).keep (new_block _ _)).keep h1, (EBox.second k2 v2 h2 w _).keep h1⟩
end Go.Proofs.YtplhgcidegngiaaGreatDoor.table
