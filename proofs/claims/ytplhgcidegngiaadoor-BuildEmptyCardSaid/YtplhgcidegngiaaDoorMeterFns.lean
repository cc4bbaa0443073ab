/- meter: contracts. -/
import Derived.Test.YtplhgcidegngiaaDoorMath
import Derived.Test.YtplhgcidegngiaaDoorTrapFns
import Derived.Deep.RegionWith
import Derived.Deep.QuietTactic
import Derived.IntWalk
namespace Go.Proofs.YtplhgcidegngiaaDoor.meter
open Go.RowKit errs under trap
set_option linter.unusedSimpArgs false
set_option linter.unusedVariables false

theorem within_any (x : Int) (w : World) : Calls Tryd.prog 71 #[.int .i64 x] w fun e w' => e = .returned (.int .i64 (cl x)) ∧ w = w' := by
  go_enter Tryd.func71, Tryd.ntmps71
  go_wp2
  all_goals
    go_ret
    refine ⟨congrArg Ending.returned (congrArg (Value.int .i64) ?_), rfl⟩
    unfold cl; omega
theorem sum_any (a b : Int) (w : World) : Calls Tryd.prog 53 #[.int .i64 a, .int .i64 b] w fun e w' => e = .returned (.int .i64 (sm a b)) ∧ w = w' := by
  have h1 := cl_lo a
  have h2 := cl_hi a
  have h3 := cl_lo b
  have h4 := cl_hi b
  go_enter Tryd.func53, Tryd.ntmps53
  go_wp2_with (go_at_call 71; refine (within_any _ _).mono ?_; rintro e w' ⟨rfl, rfl⟩)
  go_ret
  exact ⟨rfl, rfl⟩
set_option maxHeartbeats 4000000 in
theorem add_any (B o : Nat) (a l n : Int) (w : World) (ha : w.cell? ⟨B, o, none⟩ = some (.int .i64 a)) (hl : w.cell? ⟨B, o + 1, none⟩ = some (.int .i64 l)) (fa : w.frozen? ⟨B, o, none⟩ = false) (fl : w.frozen? ⟨B, o + 1, none⟩ = false) :
    Calls Tryd.prog 36 #[.pointer (some ⟨B, o, none⟩), .int .i64 n] w fun e w' => e = .returned (.tuple #[]) ∧ w' = ((w.setCell ⟨B, o, none⟩ (.int .i64 (sm a n))).setCell ⟨B, o + 1, none⟩ (.int .i64 (sm l n))).drew := by
  go_enter Tryd.func36, Tryd.ntmps36
  go_wp2
  go_region_with (go_at_call 53; refine (sum_any _ _ _).mono ?_; rintro e w' ⟨rfl, rfl⟩)
  all_goals
    go_wp2
    go_end0
    exact ⟨rfl, rfl⟩
end Go.Proofs.YtplhgcidegngiaaDoor.meter
