/- The contracts of package ctrl's functions. -/
import Derived.Test.YtfnfdofenaegpaaDoorSwarDoc
import Derived.Test.YtfnfdofenaegpaaDoorCtrlMath
import Derived.Test.YtfnfdofenaegpaaDoorSwarMath2
import Derived.Test.YtfnfdofenaegpaaDoorErrs
import Derived.Deep.RegionWith
namespace Go.Proofs.YtfnfdofenaegpaaDoor.ctrl
open Go.ChangeShapes Go.WideShapes Go.ChangeAt Go.RowKit swar

theorem isFull_any (b : Nat) (w : World) :
    Calls Tryd.prog 29 #[.int .u8 b] w fun e w' => e = .returned (.bool (decide ((b : Int) < 128))) ∧ w = w' := by
  go_enter Tryd.func29, Tryd.ntmps29
  go_wp2
  all_goals (go_ret; exact ⟨by simp_all, rfl⟩)
theorem new_any (w : World) :
    Calls Tryd.prog 26 #[] w fun e w' => e = .returned (.int .u64 9259542123273814144) ∧ w = w' := by
  have c := fun w1 => repeat_any 128 (by decide) w1
  have e : pk8 128 128 128 128 128 128 128 128 = 9259542123273814144 := by decide
  rw [e] at c
  go_enter Tryd.func26, Tryd.ntmps26
  go_wp2_with (go_at_call 39; refine (c _).mono ?_; rintro e w' ⟨rfl, rfl⟩)
  go_ret
  exact ⟨rfl, rfl⟩
theorem empties_any (n : Nat) (hn : n < 18446744073709551616) (w : World) :
    Calls Tryd.prog 12 #[.int .u64 n] w fun e w' => e = .returned (.int .u64 (eqM n 128 : Nat)) ∧ w = w' := by
  go_enter Tryd.func12, Tryd.ntmps12
  go_wp2_with (go_at_call 30; refine (equal_any n 128 hn (by decide) _).mono ?_; rintro e w' ⟨rfl, rfl⟩)
  go_ret
  exact ⟨rfl, rfl⟩
theorem deleteds_any (n : Nat) (hn : n < 18446744073709551616) (w : World) :
    Calls Tryd.prog 14 #[.int .u64 n] w fun e w' => e = .returned (.int .u64 (eqM n 254 : Nat)) ∧ w = w' := by
  go_enter Tryd.func14, Tryd.ntmps14
  go_wp2_with (go_at_call 30; refine (equal_any n 254 hn (by decide) _).mono ?_; rintro e w' ⟨rfl, rfl⟩)
  go_ret
  exact ⟨rfl, rfl⟩
theorem frees_any (n : Nat) (hn : n < 18446744073709551616) (w : World) :
    Calls Tryd.prog 16 #[.int .u64 n] w fun e w' => e = .returned (.int .u64 (hiM n : Nat)) ∧ w = w' := by
  go_enter Tryd.func16, Tryd.ntmps16
  go_wp2_with (go_at_call 32; refine (high_any n hn _).mono ?_; rintro e w' ⟨rfl, rfl⟩)
  go_ret
  exact ⟨rfl, rfl⟩
theorem fulls_any (n : Nat) (hn : n < 18446744073709551616) (w : World) :
    Calls Tryd.prog 15 #[.int .u64 n] w fun e w' => e = .returned (.int .u64 (hiM (18446744073709551615 - n) : Nat)) ∧ w = w' := by
  have c := fun w1 => high_any (18446744073709551615 - n) (not_lt n) w1
  have HE := Lib.hid (not_int n hn)
  go_enter Tryd.func15, Tryd.ntmps15
  go_wp2_with (go_at_call 32; rw [HE.out]; refine (c _).mono ?_; rintro e w' ⟨rfl, rfl⟩)
  go_ret
  exact ⟨rfl, rfl⟩
theorem right_any (n : Nat) (hn : n < 18446744073709551616) (w : World) :
    Calls Tryd.prog 18 #[.int .u64 n] w fun e w' => e = .returned (.bool (okW n)) ∧ w = w' := by
  have c := fun w1 => count_any (mkM fun k => okB (ln n k)) (mkM_lt _) w1
  have HE := Lib.hid (known n hn)
  have HC := Lib.hid (known_cnt n)
  go_enter Tryd.func18, Tryd.ntmps18
  go_wp2_with (first
    | (go_at_call 15; refine (fulls_any n hn _).mono ?_; rintro e w' ⟨rfl, rfl⟩)
    | (go_at_call 12; refine (empties_any n hn _).mono ?_; rintro e w' ⟨rfl, rfl⟩)
    | (go_at_call 14; refine (deleteds_any n hn _).mono ?_; rintro e w' ⟨rfl, rfl⟩)
    | (go_at_call 27; rw [HE.out]; refine (c _).mono ?_; rintro e w' ⟨rfl, rfl⟩))
  go_ret
  refine ⟨?_, rfl⟩
  rw [← HC.out]; rfl
theorem match_full (n b : Nat) (hn : n < 18446744073709551616) (hb : b < 128) (w : World) :
    Calls Tryd.prog 11 #[.int .u64 n, .int .u8 b] w fun e w' => e = .returned (.int .u64 (eqM n b : Nat)) ∧ w = w' := by
  have d : decide ((b : Int) < 128) = true := decide_eq_true (by omega)
  have c := fun w1 => isFull_any b w1
  rw [d] at c
  go_enter Tryd.func11, Tryd.ntmps11
  go_wp2_with (first
    | (go_at_call 29; refine (c _).mono ?_; rintro e w' ⟨rfl, rfl⟩)
    | (go_at_call 30; refine (equal_any n b hn (by omega) _).mono ?_; rintro e w' ⟨rfl, rfl⟩))
  all_goals (go_ret; exact ⟨rfl, rfl⟩)
theorem match_none (n b : Nat) (hb : 128 ≤ b) (w : World) :
    Calls Tryd.prog 11 #[.int .u64 n, .int .u8 b] w fun e w' => e = .returned (.int .u64 0) ∧ w = w' := by
  have d : decide ((b : Int) < 128) = false := decide_eq_false (by omega)
  have c := fun w1 => isFull_any b w1
  rw [d] at c
  go_enter Tryd.func11, Tryd.ntmps11
  go_wp2_with (go_at_call 29; refine (c _).mono ?_; rintro e w' ⟨rfl, rfl⟩)
  all_goals (go_ret; exact ⟨rfl, rfl⟩)
theorem get_yes (n k : Nat) (hn : n < 18446744073709551616) (hk : k < 8) (w : World) :
    Calls Tryd.prog 22 #[.int .u64 n, .int .i64 k] w fun e w' => e = .returned (.int .u8 (ln n k : Nat)) ∧ w = w' := by
  go_enter Tryd.func22, Tryd.ntmps22
  go_wp2_with (go_at_call 35; refine (lane_yes n k hn hk _).mono ?_; rintro e w' ⟨rfl, rfl⟩)
  all_goals (go_ret; exact ⟨rfl, rfl⟩)
theorem get_no (n : Nat) (i : Int) (h : i < 0 ∨ 8 ≤ i) (w : World) :
    Calls Tryd.prog 22 #[.int .u64 n, .int .i64 i] w fun e w' => e = .returned (.int .u8 0) ∧ w = w' := by
  go_enter Tryd.func22, Tryd.ntmps22
  go_wp2_with (go_at_call 35; refine (lane_no n i h _).mono ?_; rintro e w' ⟨rfl, rfl⟩)
  all_goals (go_ret; exact ⟨rfl, rfl⟩)
end Go.Proofs.YtfnfdofenaegpaaDoor.ctrl
