/- The contracts of package ctrl's functions. -/
import Derived.Test.YtplhgcidegngiaaGreatDoorSwarDoc
import Derived.Test.YtplhgcidegngiaaGreatDoorMath
import Derived.Test.YtplhgcidegngiaaGreatDoorErrs
import Derived.Deep.RegionWith
namespace Go.Proofs.YtplhgcidegngiaaGreatDoor.ctrl
open Go.ChangeShapes Go.WideShapes Go.ChangeAt Go.RowKit swar

theorem isFull_any (b : Nat) (w : World) :
    Calls Tryz.prog 91 #[.int .u8 b] w fun e w' => e = .returned (.bool (decide ((b : Int) < 128))) ∧ w = w' := by
  go_enter Tryz.func91, Tryz.ntmps91
  go_wp2
  all_goals (go_ret; exact ⟨by simp_all, rfl⟩)
theorem new_any (w : World) :
    Calls Tryz.prog 52 #[] w fun e w' => e = .returned (.int .u64 9259542123273814144) ∧ w = w' := by
  have c := fun w1 => repeat_any 128 (by decide) w1
  have e : pk8 128 128 128 128 128 128 128 128 = 9259542123273814144 := by decide
  rw [e] at c
  go_enter Tryz.func52, Tryz.ntmps52
  go_wp2_with (go_at_call 67; refine (c _).mono ?_; rintro e w' ⟨rfl, rfl⟩)
  go_ret
  exact ⟨rfl, rfl⟩
theorem empties_any (n : Nat) (hn : n < 18446744073709551616) (w : World) :
    Calls Tryz.prog 76 #[.int .u64 n] w fun e w' => e = .returned (.int .u64 (eqM n 128 : Nat)) ∧ w = w' := by
  go_enter Tryz.func76, Tryz.ntmps76
  go_wp2_with (go_at_call 90; refine (equal_any n 128 hn (by decide) _).mono ?_; rintro e w' ⟨rfl, rfl⟩)
  go_ret
  exact ⟨rfl, rfl⟩
theorem frees_any (n : Nat) (hn : n < 18446744073709551616) (w : World) :
    Calls Tryz.prog 75 #[.int .u64 n] w fun e w' => e = .returned (.int .u64 (hiM n : Nat)) ∧ w = w' := by
  go_enter Tryz.func75, Tryz.ntmps75
  go_wp2_with (go_at_call 88; refine (high_any n hn _).mono ?_; rintro e w' ⟨rfl, rfl⟩)
  go_ret
  exact ⟨rfl, rfl⟩
theorem fulls_any (n : Nat) (hn : n < 18446744073709551616) (w : World) :
    Calls Tryz.prog 71 #[.int .u64 n] w fun e w' => e = .returned (.int .u64 (hiM (18446744073709551615 - n) : Nat)) ∧ w = w' := by
  have c := fun w1 => high_any (18446744073709551615 - n) (not_lt n) w1
  have HE := Lib.hid (not_int n hn)
  go_enter Tryz.func71, Tryz.ntmps71
  go_wp2_with (go_at_call 88; rw [HE.out]; refine (c _).mono ?_; rintro e w' ⟨rfl, rfl⟩)
  go_ret
  exact ⟨rfl, rfl⟩
theorem match_full (n b : Nat) (hn : n < 18446744073709551616) (hb : b < 128) (w : World) :
    Calls Tryz.prog 77 #[.int .u64 n, .int .u8 b] w fun e w' => e = .returned (.int .u64 (eqM n b : Nat)) ∧ w = w' := by
  have d : decide ((b : Int) < 128) = true := decide_eq_true (by omega)
  have c := fun w1 => isFull_any b w1
  rw [d] at c
  go_enter Tryz.func77, Tryz.ntmps77
  go_wp2_with (first
    | (go_at_call 91; refine (c _).mono ?_; rintro e w' ⟨rfl, rfl⟩)
    | (go_at_call 90; refine (equal_any n b hn (by omega) _).mono ?_; rintro e w' ⟨rfl, rfl⟩))
  all_goals (go_ret; exact ⟨rfl, rfl⟩)
theorem match_none (n b : Nat) (hb : 128 ≤ b) (w : World) :
    Calls Tryz.prog 77 #[.int .u64 n, .int .u8 b] w fun e w' => e = .returned (.int .u64 0) ∧ w = w' := by
  have d : decide ((b : Int) < 128) = false := decide_eq_false (by omega)
  have c := fun w1 => isFull_any b w1
  rw [d] at c
  go_enter Tryz.func77, Tryz.ntmps77
  go_wp2_with (go_at_call 91; refine (c _).mono ?_; rintro e w' ⟨rfl, rfl⟩)
  all_goals (go_ret; exact ⟨rfl, rfl⟩)
theorem get_yes (n k : Nat) (hn : n < 18446744073709551616) (hk : k < 8) (w : World) :
    Calls Tryz.prog 95 #[.int .u64 n, .int .i64 k] w fun e w' => e = .returned (.int .u8 (ln n k : Nat)) ∧ w = w' := by
  go_enter Tryz.func95, Tryz.ntmps95
  go_wp2_with (go_at_call 96; refine (lane_yes n k hn hk _).mono ?_; rintro e w' ⟨rfl, rfl⟩)
  all_goals (go_ret; exact ⟨rfl, rfl⟩)
theorem get_no (n : Nat) (i : Int) (h : i < 0 ∨ 8 ≤ i) (w : World) :
    Calls Tryz.prog 95 #[.int .u64 n, .int .i64 i] w fun e w' => e = .returned (.int .u8 0) ∧ w = w' := by
  go_enter Tryz.func95, Tryz.ntmps95
  go_wp2_with (go_at_call 96; refine (lane_no n i h _).mono ?_; rintro e w' ⟨rfl, rfl⟩)
  all_goals (go_ret; exact ⟨rfl, rfl⟩)
end Go.Proofs.YtplhgcidegngiaaGreatDoor.ctrl
