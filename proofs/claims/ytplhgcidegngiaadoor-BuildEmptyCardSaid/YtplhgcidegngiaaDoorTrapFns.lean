/- trap: Must, the document's Of, kinds, Num of what was caught; the functions that the laws make. -/
import Derived.Test.YtplhgcidegngiaaDoorTrapCatch
namespace Go.Proofs.YtplhgcidegngiaaDoor.trap
open Go.RowKit errs under
set_option linter.unusedSimpArgs false
set_option linter.unusedVariables false

/-! ### Num of what was caught -/
theorem num_err (a : String → Addr) (b : Nat) (hb : b ≤ 16) (w : World) (h : ErrsOk names a w) :
    Calls Tryd.prog 12 #[errAt a b] w fun e w' => e = .returned (.int .i64 (b : Nat)) ∧ Below w.heap.size w w' := by
  cases b with
  | zero => exact (num_nil w).mono fun e w' ⟨he, hw⟩ => ⟨he, by subst hw; exact Below.refl _ _⟩
  | succ k => exact num_at a k (by omega) w h
theorem actN_le (k : Nat) (n : Int) : actN k n ≤ 16 := by
  unfold actN
  split
  · omega
  · split
    · split <;> omega
    · omega
/-! ### the number of what is done -/
def kindN (x : Int) : Nat := (x % 18446744073709551616).toNat % 11
theorem kindN_lt (x : Int) : kindN x < 11 := Nat.mod_lt _ (by decide)
/-! ### Must -/
/-! ### what the laws hand to Catch -/
theorem act_in (w : World) : ActIn w.heap.size (w.alloc (.cells #[.int .i64 1] 3)) := ⟨by simp, by simp [go_sem]⟩
end Go.Proofs.YtplhgcidegngiaaDoor.trap
