/- The contracts of package ctrl's functions. -/
import Derived.Test.YtplhgcidegngiaaDoorSwarDoc
import Derived.Test.YtplhgcidegngiaaDoorMath
import Derived.Test.YtplhgcidegngiaaDoorErrs
import Derived.Deep.RegionWith
namespace Go.Proofs.YtplhgcidegngiaaDoor.ctrl
open Go.ChangeShapes Go.WideShapes Go.ChangeAt Go.RowKit swar

theorem isFull_any (b : Nat) (w : World) :
    Calls Tryd.prog 76 #[.int .u8 b] w fun e w' => e = .returned (.bool (decide ((b : Int) < 128))) ∧ w = w' := by
  go_enter Tryd.func76, Tryd.ntmps76
  go_wp2
  all_goals (go_ret; exact ⟨by simp_all, rfl⟩)
theorem new_any (w : World) :
    Calls Tryd.prog 52 #[] w fun e w' => e = .returned (.int .u64 9259542123273814144) ∧ w = w' := by
  have c := fun w1 => repeat_any 128 (by decide) w1
  have e : pk8 128 128 128 128 128 128 128 128 = 9259542123273814144 := by decide
  rw [e] at c
  go_enter Tryd.func52, Tryd.ntmps52
  go_wp2_with (go_at_call 70; refine (c _).mono ?_; rintro e w' ⟨rfl, rfl⟩)
  go_ret
  exact ⟨rfl, rfl⟩
theorem empties_any (n : Nat) (hn : n < 18446744073709551616) (w : World) :
    Calls Tryd.prog 58 #[.int .u64 n] w fun e w' => e = .returned (.int .u64 (eqM n 128 : Nat)) ∧ w = w' := by
  go_enter Tryd.func58, Tryd.ntmps58
  go_wp2_with (go_at_call 74; refine (equal_any n 128 hn (by decide) _).mono ?_; rintro e w' ⟨rfl, rfl⟩)
  go_ret
  exact ⟨rfl, rfl⟩
theorem frees_any (n : Nat) (hn : n < 18446744073709551616) (w : World) :
    Calls Tryd.prog 57 #[.int .u64 n] w fun e w' => e = .returned (.int .u64 (hiM n : Nat)) ∧ w = w' := by
  go_enter Tryd.func57, Tryd.ntmps57
  go_wp2_with (go_at_call 72; refine (high_any n hn _).mono ?_; rintro e w' ⟨rfl, rfl⟩)
  go_ret
  exact ⟨rfl, rfl⟩
theorem match_full (n b : Nat) (hn : n < 18446744073709551616) (hb : b < 128) (w : World) :
    Calls Tryd.prog 60 #[.int .u64 n, .int .u8 b] w fun e w' => e = .returned (.int .u64 (eqM n b : Nat)) ∧ w = w' := by
  have d : decide ((b : Int) < 128) = true := decide_eq_true (by omega)
  have c := fun w1 => isFull_any b w1
  rw [d] at c
  go_enter Tryd.func60, Tryd.ntmps60
  go_wp2_with (first
    | (go_at_call 76; refine (c _).mono ?_; rintro e w' ⟨rfl, rfl⟩)
    | (go_at_call 74; refine (equal_any n b hn (by omega) _).mono ?_; rintro e w' ⟨rfl, rfl⟩))
  all_goals (go_ret; exact ⟨rfl, rfl⟩)
theorem match_none (n b : Nat) (hb : 128 ≤ b) (w : World) :
    Calls Tryd.prog 60 #[.int .u64 n, .int .u8 b] w fun e w' => e = .returned (.int .u64 0) ∧ w = w' := by
  have d : decide ((b : Int) < 128) = false := decide_eq_false (by omega)
  have c := fun w1 => isFull_any b w1
  rw [d] at c
  go_enter Tryd.func60, Tryd.ntmps60
  go_wp2_with (go_at_call 76; refine (c _).mono ?_; rintro e w' ⟨rfl, rfl⟩)
  all_goals (go_ret; exact ⟨rfl, rfl⟩)
theorem get_yes (n k : Nat) (hn : n < 18446744073709551616) (hk : k < 8) (w : World) :
    Calls Tryd.prog 78 #[.int .u64 n, .int .i64 k] w fun e w' => e = .returned (.int .u8 (ln n k : Nat)) ∧ w = w' := by
  go_enter Tryd.func78, Tryd.ntmps78
  go_wp2_with (go_at_call 80; refine (lane_yes n k hn hk _).mono ?_; rintro e w' ⟨rfl, rfl⟩)
  all_goals (go_ret; exact ⟨rfl, rfl⟩)
theorem get_no (n : Nat) (i : Int) (h : i < 0 ∨ 8 ≤ i) (w : World) :
    Calls Tryd.prog 78 #[.int .u64 n, .int .i64 i] w fun e w' => e = .returned (.int .u8 0) ∧ w = w' := by
  go_enter Tryd.func78, Tryd.ntmps78
  go_wp2_with (go_at_call 80; refine (lane_no n i h _).mono ?_; rintro e w' ⟨rfl, rfl⟩)
  all_goals (go_ret; exact ⟨rfl, rfl⟩)
end Go.Proofs.YtplhgcidegngiaaDoor.ctrl
