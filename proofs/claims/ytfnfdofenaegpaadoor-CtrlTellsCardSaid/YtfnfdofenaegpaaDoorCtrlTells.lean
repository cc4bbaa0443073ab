/- CtrlTells: the walk. -/
import Derived.Test.YtfnfdofenaegpaaDoorCtrlAlive
namespace Go.Proofs.YtfnfdofenaegpaaDoor.ctrl
open Go.ChangeShapes Go.WideShapes Go.ChangeAt Go.RowKit swar

theorem mask_hi_at (n : Nat) (w : World) :
    Calls Tryd.prog 8 #[bagg8 (decide (128 ≤ ((ln n 0 : Nat) : Int))) (decide (128 ≤ ((ln n 1 : Nat) : Int))) (decide (128 ≤ ((ln n 2 : Nat) : Int))) (decide (128 ≤ ((ln n 3 : Nat) : Int))) (decide (128 ≤ ((ln n 4 : Nat) : Int))) (decide (128 ≤ ((ln n 5 : Nat) : Int))) (decide (128 ≤ ((ln n 6 : Nat) : Int))) (decide (128 ≤ ((ln n 7 : Nat) : Int)))] w fun e w' => e = .returned (.int .u64 (hiM n : Nat)) ∧ Below w.heap.size w w' := by
  rw [← mask_hi n]; exact ref_mask _ _ _ _ _ _ _ _ w
theorem mask_eq_at (n b : Nat) (w : World) :
    Calls Tryd.prog 8 #[bagg8 (((ln n 0 : Nat) : Int) == (b : Int)) (((ln n 1 : Nat) : Int) == (b : Int)) (((ln n 2 : Nat) : Int) == (b : Int)) (((ln n 3 : Nat) : Int) == (b : Int)) (((ln n 4 : Nat) : Int) == (b : Int)) (((ln n 5 : Nat) : Int) == (b : Int)) (((ln n 6 : Nat) : Int) == (b : Int)) (((ln n 7 : Nat) : Int) == (b : Int))] w fun e w' => e = .returned (.int .u64 (eqM n b : Nat)) ∧ Below w.heap.size w w' := by
  rw [← mask_eq n b]; exact ref_mask _ _ _ _ _ _ _ _ w
set_option maxRecDepth 20000 in
theorem tells_no (n h : Nat) (i : Int) (hn : n < 18446744073709551616) (hh : 128 ≤ h) (hi : i < 0 ∨ 8 ≤ i) (w : World) :
    Calls Tryd.prog 3 #[.int .u64 n, .int .u8 h, .int .i64 i] w fun e w' => e = .returned (.bool true) ∧ Below w.heap.size w w' := by
  have hmHi := fun wx => mask_hi_at n wx
  have hh' : decide ((h : Int) < 128) = false := decide_eq_false (by omega)
  go_enter Tryd.func3, Tryd.ntmps3
  go_wp2_with (first
    | (go_at_call 7; refine (alive_any _).mono ?_; rintro e w1 ⟨rfl, hb1⟩)
    | (go_at_call 11; refine (match_none n h hh _).mono ?_; rintro e w' ⟨rfl, rfl⟩)
    | (go_at_call 12; refine (empties_any n hn _).mono ?_; rintro e w' ⟨rfl, rfl⟩)
    | (go_at_call 14; refine (deleteds_any n hn _).mono ?_; rintro e w' ⟨rfl, rfl⟩)
    | (go_at_call 15; refine (fulls_any n hn _).mono ?_; rintro e w' ⟨rfl, rfl⟩)
    | (go_at_call 16; refine (frees_any n hn _).mono ?_; rintro e w' ⟨rfl, rfl⟩)
    | (go_at_call 18; refine (right_any n hn _).mono ?_; rintro e w' ⟨rfl, rfl⟩)
    | (go_at_call 20; refine (text_any n hn _).mono ?_; rintro e w7 ⟨rfl, hb7⟩)
    | (go_at_call 22; refine (get_no n i hi _).mono ?_; rintro e w' ⟨rfl, rfl⟩)
    | (go_at_call 10; refine (ref_lanes n hn _).mono ?_; rintro e w6 ⟨rfl, hb6⟩)
    | (go_at_call 13; (with_reducible refine (empties_of n hn _).mono ?_); rintro e w3 ⟨rfl, hb3⟩)
    | (go_at_call 13; (with_reducible refine (deleteds_of n hn _).mono ?_); rintro e w4 ⟨rfl, hb4⟩)
    | (go_at_call 13; (with_reducible refine (fulls_of n hn _).mono ?_); rintro e w5 ⟨rfl, hb5⟩)
    | (go_at_call 17; refine (ref_high n hn _).mono ?_; rintro e w8 ⟨rfl, hb8⟩)
    | (go_at_call 8; (with_reducible refine (hmHi _).mono ?_); rintro e w9 ⟨rfl, hb9⟩)
    | (go_at_call 19; refine (rright_any n hn _).mono ?_; rintro e w10 ⟨rfl, hb10⟩)
    | (go_at_call 21; refine (rtext_any n hn _).mono ?_; rintro e w11 ⟨rfl, hb11⟩))
  all_goals
    go_ret
    refine ⟨by simp, ?_⟩
    repeat (first | assumption | refine below_step (by assumption) ?_)
set_option maxRecDepth 20000 in
theorem tells_fo (n h : Nat) (i : Int) (hn : n < 18446744073709551616) (hh : h < 128) (hi : i < 0 ∨ 8 ≤ i) (w : World) :
    Calls Tryd.prog 3 #[.int .u64 n, .int .u8 h, .int .i64 i] w fun e w' => e = .returned (.bool true) ∧ Below w.heap.size w w' := by
  have hmHi := fun wx => mask_hi_at n wx
  have hmEq := fun wx => mask_eq_at n h wx
  have hh' : decide ((h : Int) < 128) = true := decide_eq_true (by omega)
  go_enter Tryd.func3, Tryd.ntmps3
  go_wp2_with (first
    | (go_at_call 7; refine (alive_any _).mono ?_; rintro e w1 ⟨rfl, hb1⟩)
    | (go_at_call 9; refine (ref_equal n h hn _).mono ?_; rintro e w12 ⟨rfl, hb12⟩)
    | (go_at_call 8; (with_reducible refine (hmEq _).mono ?_); rintro e w13 ⟨rfl, hb13⟩)
    | (go_at_call 11; refine (match_full n h hn hh _).mono ?_; rintro e w' ⟨rfl, rfl⟩)
    | (go_at_call 12; refine (empties_any n hn _).mono ?_; rintro e w' ⟨rfl, rfl⟩)
    | (go_at_call 14; refine (deleteds_any n hn _).mono ?_; rintro e w' ⟨rfl, rfl⟩)
    | (go_at_call 15; refine (fulls_any n hn _).mono ?_; rintro e w' ⟨rfl, rfl⟩)
    | (go_at_call 16; refine (frees_any n hn _).mono ?_; rintro e w' ⟨rfl, rfl⟩)
    | (go_at_call 18; refine (right_any n hn _).mono ?_; rintro e w' ⟨rfl, rfl⟩)
    | (go_at_call 20; refine (text_any n hn _).mono ?_; rintro e w7 ⟨rfl, hb7⟩)
    | (go_at_call 22; refine (get_no n i hi _).mono ?_; rintro e w' ⟨rfl, rfl⟩)
    | (go_at_call 10; refine (ref_lanes n hn _).mono ?_; rintro e w6 ⟨rfl, hb6⟩)
    | (go_at_call 13; (with_reducible refine (empties_of n hn _).mono ?_); rintro e w3 ⟨rfl, hb3⟩)
    | (go_at_call 13; (with_reducible refine (deleteds_of n hn _).mono ?_); rintro e w4 ⟨rfl, hb4⟩)
    | (go_at_call 13; (with_reducible refine (fulls_of n hn _).mono ?_); rintro e w5 ⟨rfl, hb5⟩)
    | (go_at_call 17; refine (ref_high n hn _).mono ?_; rintro e w8 ⟨rfl, hb8⟩)
    | (go_at_call 8; (with_reducible refine (hmHi _).mono ?_); rintro e w9 ⟨rfl, hb9⟩)
    | (go_at_call 19; refine (rright_any n hn _).mono ?_; rintro e w10 ⟨rfl, hb10⟩)
    | (go_at_call 21; refine (rtext_any n hn _).mono ?_; rintro e w11 ⟨rfl, hb11⟩))
  all_goals
    go_ret
    refine ⟨by simp, ?_⟩
    repeat (first | assumption | refine below_step (by assumption) ?_)
set_option maxRecDepth 20000 in
theorem tells_n0 (n h : Nat) (hn : n < 18446744073709551616) (hh : 128 ≤ h) (w : World) :
    Calls Tryd.prog 3 #[.int .u64 n, .int .u8 h, .int .i64 0] w fun e w' => e = .returned (.bool true) ∧ Below w.heap.size w w' := by
  have i0 := fun wx => (idx8u (.int .u8 (ln n 0 : Nat)) (.int .u8 (ln n 1 : Nat)) (.int .u8 (ln n 2 : Nat)) (.int .u8 (ln n 3 : Nat)) (.int .u8 (ln n 4 : Nat)) (.int .u8 (ln n 5 : Nat)) (.int .u8 (ln n 6 : Nat)) (.int .u8 (ln n 7 : Nat)) wx).1
  have hmHi := fun wx => mask_hi_at n wx
  have hh' : decide ((h : Int) < 128) = false := decide_eq_false (by omega)
  go_enter Tryd.func3, Tryd.ntmps3
  go_wp2_with (first
    | (go_at_call 7; refine (alive_any _).mono ?_; rintro e w1 ⟨rfl, hb1⟩)
    | (go_at_call 11; refine (match_none n h hh _).mono ?_; rintro e w' ⟨rfl, rfl⟩)
    | (go_at_call 12; refine (empties_any n hn _).mono ?_; rintro e w' ⟨rfl, rfl⟩)
    | (go_at_call 14; refine (deleteds_any n hn _).mono ?_; rintro e w' ⟨rfl, rfl⟩)
    | (go_at_call 15; refine (fulls_any n hn _).mono ?_; rintro e w' ⟨rfl, rfl⟩)
    | (go_at_call 16; refine (frees_any n hn _).mono ?_; rintro e w' ⟨rfl, rfl⟩)
    | (go_at_call 18; refine (right_any n hn _).mono ?_; rintro e w' ⟨rfl, rfl⟩)
    | (go_at_call 20; refine (text_any n hn _).mono ?_; rintro e w7 ⟨rfl, hb7⟩)
    | (go_at_call 22; refine (get_yes n 0 hn (by decide) _).mono ?_; rintro e w' ⟨rfl, rfl⟩)
    | (go_at_call 10; refine (ref_lanes n hn _).mono ?_; rintro e w6 ⟨rfl, hb6⟩)
    | (go_at_call 13; (with_reducible refine (empties_of n hn _).mono ?_); rintro e w3 ⟨rfl, hb3⟩)
    | (go_at_call 13; (with_reducible refine (deleteds_of n hn _).mono ?_); rintro e w4 ⟨rfl, hb4⟩)
    | (go_at_call 13; (with_reducible refine (fulls_of n hn _).mono ?_); rintro e w5 ⟨rfl, hb5⟩)
    | (go_at_call 17; refine (ref_high n hn _).mono ?_; rintro e w8 ⟨rfl, hb8⟩)
    | (go_at_call 8; (with_reducible refine (hmHi _).mono ?_); rintro e w9 ⟨rfl, hb9⟩)
    | (go_at_call 19; refine (rright_any n hn _).mono ?_; rintro e w10 ⟨rfl, hb10⟩)
    | (go_at_call 21; refine (rtext_any n hn _).mono ?_; rintro e w11 ⟨rfl, hb11⟩))
  all_goals
    go_ret
    refine ⟨by simp, ?_⟩
    repeat (first | assumption | refine below_step (by assumption) ?_)
set_option maxRecDepth 20000 in
theorem tells_f0 (n h : Nat) (hn : n < 18446744073709551616) (hh : h < 128) (w : World) :
    Calls Tryd.prog 3 #[.int .u64 n, .int .u8 h, .int .i64 0] w fun e w' => e = .returned (.bool true) ∧ Below w.heap.size w w' := by
  have i0 := fun wx => (idx8u (.int .u8 (ln n 0 : Nat)) (.int .u8 (ln n 1 : Nat)) (.int .u8 (ln n 2 : Nat)) (.int .u8 (ln n 3 : Nat)) (.int .u8 (ln n 4 : Nat)) (.int .u8 (ln n 5 : Nat)) (.int .u8 (ln n 6 : Nat)) (.int .u8 (ln n 7 : Nat)) wx).1
  have hmHi := fun wx => mask_hi_at n wx
  have hmEq := fun wx => mask_eq_at n h wx
  have hh' : decide ((h : Int) < 128) = true := decide_eq_true (by omega)
  go_enter Tryd.func3, Tryd.ntmps3
  go_wp2_with (first
    | (go_at_call 7; refine (alive_any _).mono ?_; rintro e w1 ⟨rfl, hb1⟩)
    | (go_at_call 9; refine (ref_equal n h hn _).mono ?_; rintro e w12 ⟨rfl, hb12⟩)
    | (go_at_call 8; (with_reducible refine (hmEq _).mono ?_); rintro e w13 ⟨rfl, hb13⟩)
    | (go_at_call 11; refine (match_full n h hn hh _).mono ?_; rintro e w' ⟨rfl, rfl⟩)
    | (go_at_call 12; refine (empties_any n hn _).mono ?_; rintro e w' ⟨rfl, rfl⟩)
    | (go_at_call 14; refine (deleteds_any n hn _).mono ?_; rintro e w' ⟨rfl, rfl⟩)
    | (go_at_call 15; refine (fulls_any n hn _).mono ?_; rintro e w' ⟨rfl, rfl⟩)
    | (go_at_call 16; refine (frees_any n hn _).mono ?_; rintro e w' ⟨rfl, rfl⟩)
    | (go_at_call 18; refine (right_any n hn _).mono ?_; rintro e w' ⟨rfl, rfl⟩)
    | (go_at_call 20; refine (text_any n hn _).mono ?_; rintro e w7 ⟨rfl, hb7⟩)
    | (go_at_call 22; refine (get_yes n 0 hn (by decide) _).mono ?_; rintro e w' ⟨rfl, rfl⟩)
    | (go_at_call 10; refine (ref_lanes n hn _).mono ?_; rintro e w6 ⟨rfl, hb6⟩)
    | (go_at_call 13; (with_reducible refine (empties_of n hn _).mono ?_); rintro e w3 ⟨rfl, hb3⟩)
    | (go_at_call 13; (with_reducible refine (deleteds_of n hn _).mono ?_); rintro e w4 ⟨rfl, hb4⟩)
    | (go_at_call 13; (with_reducible refine (fulls_of n hn _).mono ?_); rintro e w5 ⟨rfl, hb5⟩)
    | (go_at_call 17; refine (ref_high n hn _).mono ?_; rintro e w8 ⟨rfl, hb8⟩)
    | (go_at_call 8; (with_reducible refine (hmHi _).mono ?_); rintro e w9 ⟨rfl, hb9⟩)
    | (go_at_call 19; refine (rright_any n hn _).mono ?_; rintro e w10 ⟨rfl, hb10⟩)
    | (go_at_call 21; refine (rtext_any n hn _).mono ?_; rintro e w11 ⟨rfl, hb11⟩))
  all_goals
    go_ret
    refine ⟨by simp, ?_⟩
    repeat (first | assumption | refine below_step (by assumption) ?_)
set_option maxRecDepth 20000 in
theorem tells_n1 (n h : Nat) (hn : n < 18446744073709551616) (hh : 128 ≤ h) (w : World) :
    Calls Tryd.prog 3 #[.int .u64 n, .int .u8 h, .int .i64 1] w fun e w' => e = .returned (.bool true) ∧ Below w.heap.size w w' := by
  have i1 := fun wx => (idx8u (.int .u8 (ln n 0 : Nat)) (.int .u8 (ln n 1 : Nat)) (.int .u8 (ln n 2 : Nat)) (.int .u8 (ln n 3 : Nat)) (.int .u8 (ln n 4 : Nat)) (.int .u8 (ln n 5 : Nat)) (.int .u8 (ln n 6 : Nat)) (.int .u8 (ln n 7 : Nat)) wx).2.1
  have hmHi := fun wx => mask_hi_at n wx
  have hh' : decide ((h : Int) < 128) = false := decide_eq_false (by omega)
  go_enter Tryd.func3, Tryd.ntmps3
  go_wp2_with (first
    | (go_at_call 7; refine (alive_any _).mono ?_; rintro e w1 ⟨rfl, hb1⟩)
    | (go_at_call 11; refine (match_none n h hh _).mono ?_; rintro e w' ⟨rfl, rfl⟩)
    | (go_at_call 12; refine (empties_any n hn _).mono ?_; rintro e w' ⟨rfl, rfl⟩)
    | (go_at_call 14; refine (deleteds_any n hn _).mono ?_; rintro e w' ⟨rfl, rfl⟩)
    | (go_at_call 15; refine (fulls_any n hn _).mono ?_; rintro e w' ⟨rfl, rfl⟩)
    | (go_at_call 16; refine (frees_any n hn _).mono ?_; rintro e w' ⟨rfl, rfl⟩)
    | (go_at_call 18; refine (right_any n hn _).mono ?_; rintro e w' ⟨rfl, rfl⟩)
    | (go_at_call 20; refine (text_any n hn _).mono ?_; rintro e w7 ⟨rfl, hb7⟩)
    | (go_at_call 22; refine (get_yes n 1 hn (by decide) _).mono ?_; rintro e w' ⟨rfl, rfl⟩)
    | (go_at_call 10; refine (ref_lanes n hn _).mono ?_; rintro e w6 ⟨rfl, hb6⟩)
    | (go_at_call 13; (with_reducible refine (empties_of n hn _).mono ?_); rintro e w3 ⟨rfl, hb3⟩)
    | (go_at_call 13; (with_reducible refine (deleteds_of n hn _).mono ?_); rintro e w4 ⟨rfl, hb4⟩)
    | (go_at_call 13; (with_reducible refine (fulls_of n hn _).mono ?_); rintro e w5 ⟨rfl, hb5⟩)
    | (go_at_call 17; refine (ref_high n hn _).mono ?_; rintro e w8 ⟨rfl, hb8⟩)
    | (go_at_call 8; (with_reducible refine (hmHi _).mono ?_); rintro e w9 ⟨rfl, hb9⟩)
    | (go_at_call 19; refine (rright_any n hn _).mono ?_; rintro e w10 ⟨rfl, hb10⟩)
    | (go_at_call 21; refine (rtext_any n hn _).mono ?_; rintro e w11 ⟨rfl, hb11⟩))
  all_goals
    go_ret
    refine ⟨by simp, ?_⟩
    repeat (first | assumption | refine below_step (by assumption) ?_)
set_option maxRecDepth 20000 in
theorem tells_f1 (n h : Nat) (hn : n < 18446744073709551616) (hh : h < 128) (w : World) :
    Calls Tryd.prog 3 #[.int .u64 n, .int .u8 h, .int .i64 1] w fun e w' => e = .returned (.bool true) ∧ Below w.heap.size w w' := by
  have i1 := fun wx => (idx8u (.int .u8 (ln n 0 : Nat)) (.int .u8 (ln n 1 : Nat)) (.int .u8 (ln n 2 : Nat)) (.int .u8 (ln n 3 : Nat)) (.int .u8 (ln n 4 : Nat)) (.int .u8 (ln n 5 : Nat)) (.int .u8 (ln n 6 : Nat)) (.int .u8 (ln n 7 : Nat)) wx).2.1
  have hmHi := fun wx => mask_hi_at n wx
  have hmEq := fun wx => mask_eq_at n h wx
  have hh' : decide ((h : Int) < 128) = true := decide_eq_true (by omega)
  go_enter Tryd.func3, Tryd.ntmps3
  go_wp2_with (first
    | (go_at_call 7; refine (alive_any _).mono ?_; rintro e w1 ⟨rfl, hb1⟩)
    | (go_at_call 9; refine (ref_equal n h hn _).mono ?_; rintro e w12 ⟨rfl, hb12⟩)
    | (go_at_call 8; (with_reducible refine (hmEq _).mono ?_); rintro e w13 ⟨rfl, hb13⟩)
    | (go_at_call 11; refine (match_full n h hn hh _).mono ?_; rintro e w' ⟨rfl, rfl⟩)
    | (go_at_call 12; refine (empties_any n hn _).mono ?_; rintro e w' ⟨rfl, rfl⟩)
    | (go_at_call 14; refine (deleteds_any n hn _).mono ?_; rintro e w' ⟨rfl, rfl⟩)
    | (go_at_call 15; refine (fulls_any n hn _).mono ?_; rintro e w' ⟨rfl, rfl⟩)
    | (go_at_call 16; refine (frees_any n hn _).mono ?_; rintro e w' ⟨rfl, rfl⟩)
    | (go_at_call 18; refine (right_any n hn _).mono ?_; rintro e w' ⟨rfl, rfl⟩)
    | (go_at_call 20; refine (text_any n hn _).mono ?_; rintro e w7 ⟨rfl, hb7⟩)
    | (go_at_call 22; refine (get_yes n 1 hn (by decide) _).mono ?_; rintro e w' ⟨rfl, rfl⟩)
    | (go_at_call 10; refine (ref_lanes n hn _).mono ?_; rintro e w6 ⟨rfl, hb6⟩)
    | (go_at_call 13; (with_reducible refine (empties_of n hn _).mono ?_); rintro e w3 ⟨rfl, hb3⟩)
    | (go_at_call 13; (with_reducible refine (deleteds_of n hn _).mono ?_); rintro e w4 ⟨rfl, hb4⟩)
    | (go_at_call 13; (with_reducible refine (fulls_of n hn _).mono ?_); rintro e w5 ⟨rfl, hb5⟩)
    | (go_at_call 17; refine (ref_high n hn _).mono ?_; rintro e w8 ⟨rfl, hb8⟩)
    | (go_at_call 8; (with_reducible refine (hmHi _).mono ?_); rintro e w9 ⟨rfl, hb9⟩)
    | (go_at_call 19; refine (rright_any n hn _).mono ?_; rintro e w10 ⟨rfl, hb10⟩)
    | (go_at_call 21; refine (rtext_any n hn _).mono ?_; rintro e w11 ⟨rfl, hb11⟩))
  all_goals
    go_ret
    refine ⟨by simp, ?_⟩
    repeat (first | assumption | refine below_step (by assumption) ?_)
set_option maxRecDepth 20000 in
theorem tells_n2 (n h : Nat) (hn : n < 18446744073709551616) (hh : 128 ≤ h) (w : World) :
    Calls Tryd.prog 3 #[.int .u64 n, .int .u8 h, .int .i64 2] w fun e w' => e = .returned (.bool true) ∧ Below w.heap.size w w' := by
  have i2 := fun wx => (idx8u (.int .u8 (ln n 0 : Nat)) (.int .u8 (ln n 1 : Nat)) (.int .u8 (ln n 2 : Nat)) (.int .u8 (ln n 3 : Nat)) (.int .u8 (ln n 4 : Nat)) (.int .u8 (ln n 5 : Nat)) (.int .u8 (ln n 6 : Nat)) (.int .u8 (ln n 7 : Nat)) wx).2.2.1
  have hmHi := fun wx => mask_hi_at n wx
  have hh' : decide ((h : Int) < 128) = false := decide_eq_false (by omega)
  go_enter Tryd.func3, Tryd.ntmps3
  go_wp2_with (first
    | (go_at_call 7; refine (alive_any _).mono ?_; rintro e w1 ⟨rfl, hb1⟩)
    | (go_at_call 11; refine (match_none n h hh _).mono ?_; rintro e w' ⟨rfl, rfl⟩)
    | (go_at_call 12; refine (empties_any n hn _).mono ?_; rintro e w' ⟨rfl, rfl⟩)
    | (go_at_call 14; refine (deleteds_any n hn _).mono ?_; rintro e w' ⟨rfl, rfl⟩)
    | (go_at_call 15; refine (fulls_any n hn _).mono ?_; rintro e w' ⟨rfl, rfl⟩)
    | (go_at_call 16; refine (frees_any n hn _).mono ?_; rintro e w' ⟨rfl, rfl⟩)
    | (go_at_call 18; refine (right_any n hn _).mono ?_; rintro e w' ⟨rfl, rfl⟩)
    | (go_at_call 20; refine (text_any n hn _).mono ?_; rintro e w7 ⟨rfl, hb7⟩)
    | (go_at_call 22; refine (get_yes n 2 hn (by decide) _).mono ?_; rintro e w' ⟨rfl, rfl⟩)
    | (go_at_call 10; refine (ref_lanes n hn _).mono ?_; rintro e w6 ⟨rfl, hb6⟩)
    | (go_at_call 13; (with_reducible refine (empties_of n hn _).mono ?_); rintro e w3 ⟨rfl, hb3⟩)
    | (go_at_call 13; (with_reducible refine (deleteds_of n hn _).mono ?_); rintro e w4 ⟨rfl, hb4⟩)
    | (go_at_call 13; (with_reducible refine (fulls_of n hn _).mono ?_); rintro e w5 ⟨rfl, hb5⟩)
    | (go_at_call 17; refine (ref_high n hn _).mono ?_; rintro e w8 ⟨rfl, hb8⟩)
    | (go_at_call 8; (with_reducible refine (hmHi _).mono ?_); rintro e w9 ⟨rfl, hb9⟩)
    | (go_at_call 19; refine (rright_any n hn _).mono ?_; rintro e w10 ⟨rfl, hb10⟩)
    | (go_at_call 21; refine (rtext_any n hn _).mono ?_; rintro e w11 ⟨rfl, hb11⟩))
  all_goals
    go_ret
    refine ⟨by simp, ?_⟩
    repeat (first | assumption | refine below_step (by assumption) ?_)
set_option maxRecDepth 20000 in
theorem tells_f2 (n h : Nat) (hn : n < 18446744073709551616) (hh : h < 128) (w : World) :
    Calls Tryd.prog 3 #[.int .u64 n, .int .u8 h, .int .i64 2] w fun e w' => e = .returned (.bool true) ∧ Below w.heap.size w w' := by
  have i2 := fun wx => (idx8u (.int .u8 (ln n 0 : Nat)) (.int .u8 (ln n 1 : Nat)) (.int .u8 (ln n 2 : Nat)) (.int .u8 (ln n 3 : Nat)) (.int .u8 (ln n 4 : Nat)) (.int .u8 (ln n 5 : Nat)) (.int .u8 (ln n 6 : Nat)) (.int .u8 (ln n 7 : Nat)) wx).2.2.1
  have hmHi := fun wx => mask_hi_at n wx
  have hmEq := fun wx => mask_eq_at n h wx
  have hh' : decide ((h : Int) < 128) = true := decide_eq_true (by omega)
  go_enter Tryd.func3, Tryd.ntmps3
  go_wp2_with (first
    | (go_at_call 7; refine (alive_any _).mono ?_; rintro e w1 ⟨rfl, hb1⟩)
    | (go_at_call 9; refine (ref_equal n h hn _).mono ?_; rintro e w12 ⟨rfl, hb12⟩)
    | (go_at_call 8; (with_reducible refine (hmEq _).mono ?_); rintro e w13 ⟨rfl, hb13⟩)
    | (go_at_call 11; refine (match_full n h hn hh _).mono ?_; rintro e w' ⟨rfl, rfl⟩)
    | (go_at_call 12; refine (empties_any n hn _).mono ?_; rintro e w' ⟨rfl, rfl⟩)
    | (go_at_call 14; refine (deleteds_any n hn _).mono ?_; rintro e w' ⟨rfl, rfl⟩)
    | (go_at_call 15; refine (fulls_any n hn _).mono ?_; rintro e w' ⟨rfl, rfl⟩)
    | (go_at_call 16; refine (frees_any n hn _).mono ?_; rintro e w' ⟨rfl, rfl⟩)
    | (go_at_call 18; refine (right_any n hn _).mono ?_; rintro e w' ⟨rfl, rfl⟩)
    | (go_at_call 20; refine (text_any n hn _).mono ?_; rintro e w7 ⟨rfl, hb7⟩)
    | (go_at_call 22; refine (get_yes n 2 hn (by decide) _).mono ?_; rintro e w' ⟨rfl, rfl⟩)
    | (go_at_call 10; refine (ref_lanes n hn _).mono ?_; rintro e w6 ⟨rfl, hb6⟩)
    | (go_at_call 13; (with_reducible refine (empties_of n hn _).mono ?_); rintro e w3 ⟨rfl, hb3⟩)
    | (go_at_call 13; (with_reducible refine (deleteds_of n hn _).mono ?_); rintro e w4 ⟨rfl, hb4⟩)
    | (go_at_call 13; (with_reducible refine (fulls_of n hn _).mono ?_); rintro e w5 ⟨rfl, hb5⟩)
    | (go_at_call 17; refine (ref_high n hn _).mono ?_; rintro e w8 ⟨rfl, hb8⟩)
    | (go_at_call 8; (with_reducible refine (hmHi _).mono ?_); rintro e w9 ⟨rfl, hb9⟩)
    | (go_at_call 19; refine (rright_any n hn _).mono ?_; rintro e w10 ⟨rfl, hb10⟩)
    | (go_at_call 21; refine (rtext_any n hn _).mono ?_; rintro e w11 ⟨rfl, hb11⟩))
  all_goals
    go_ret
    refine ⟨by simp, ?_⟩
    repeat (first | assumption | refine below_step (by assumption) ?_)
set_option maxRecDepth 20000 in
theorem tells_n3 (n h : Nat) (hn : n < 18446744073709551616) (hh : 128 ≤ h) (w : World) :
    Calls Tryd.prog 3 #[.int .u64 n, .int .u8 h, .int .i64 3] w fun e w' => e = .returned (.bool true) ∧ Below w.heap.size w w' := by
  have i3 := fun wx => (idx8u (.int .u8 (ln n 0 : Nat)) (.int .u8 (ln n 1 : Nat)) (.int .u8 (ln n 2 : Nat)) (.int .u8 (ln n 3 : Nat)) (.int .u8 (ln n 4 : Nat)) (.int .u8 (ln n 5 : Nat)) (.int .u8 (ln n 6 : Nat)) (.int .u8 (ln n 7 : Nat)) wx).2.2.2.1
  have hmHi := fun wx => mask_hi_at n wx
  have hh' : decide ((h : Int) < 128) = false := decide_eq_false (by omega)
  go_enter Tryd.func3, Tryd.ntmps3
  go_wp2_with (first
    | (go_at_call 7; refine (alive_any _).mono ?_; rintro e w1 ⟨rfl, hb1⟩)
    | (go_at_call 11; refine (match_none n h hh _).mono ?_; rintro e w' ⟨rfl, rfl⟩)
    | (go_at_call 12; refine (empties_any n hn _).mono ?_; rintro e w' ⟨rfl, rfl⟩)
    | (go_at_call 14; refine (deleteds_any n hn _).mono ?_; rintro e w' ⟨rfl, rfl⟩)
    | (go_at_call 15; refine (fulls_any n hn _).mono ?_; rintro e w' ⟨rfl, rfl⟩)
    | (go_at_call 16; refine (frees_any n hn _).mono ?_; rintro e w' ⟨rfl, rfl⟩)
    | (go_at_call 18; refine (right_any n hn _).mono ?_; rintro e w' ⟨rfl, rfl⟩)
    | (go_at_call 20; refine (text_any n hn _).mono ?_; rintro e w7 ⟨rfl, hb7⟩)
    | (go_at_call 22; refine (get_yes n 3 hn (by decide) _).mono ?_; rintro e w' ⟨rfl, rfl⟩)
    | (go_at_call 10; refine (ref_lanes n hn _).mono ?_; rintro e w6 ⟨rfl, hb6⟩)
    | (go_at_call 13; (with_reducible refine (empties_of n hn _).mono ?_); rintro e w3 ⟨rfl, hb3⟩)
    | (go_at_call 13; (with_reducible refine (deleteds_of n hn _).mono ?_); rintro e w4 ⟨rfl, hb4⟩)
    | (go_at_call 13; (with_reducible refine (fulls_of n hn _).mono ?_); rintro e w5 ⟨rfl, hb5⟩)
    | (go_at_call 17; refine (ref_high n hn _).mono ?_; rintro e w8 ⟨rfl, hb8⟩)
    | (go_at_call 8; (with_reducible refine (hmHi _).mono ?_); rintro e w9 ⟨rfl, hb9⟩)
    | (go_at_call 19; refine (rright_any n hn _).mono ?_; rintro e w10 ⟨rfl, hb10⟩)
    | (go_at_call 21; refine (rtext_any n hn _).mono ?_; rintro e w11 ⟨rfl, hb11⟩))
  all_goals
    go_ret
    refine ⟨by simp, ?_⟩
    repeat (first | assumption | refine below_step (by assumption) ?_)
set_option maxRecDepth 20000 in
theorem tells_f3 (n h : Nat) (hn : n < 18446744073709551616) (hh : h < 128) (w : World) :
    Calls Tryd.prog 3 #[.int .u64 n, .int .u8 h, .int .i64 3] w fun e w' => e = .returned (.bool true) ∧ Below w.heap.size w w' := by
  have i3 := fun wx => (idx8u (.int .u8 (ln n 0 : Nat)) (.int .u8 (ln n 1 : Nat)) (.int .u8 (ln n 2 : Nat)) (.int .u8 (ln n 3 : Nat)) (.int .u8 (ln n 4 : Nat)) (.int .u8 (ln n 5 : Nat)) (.int .u8 (ln n 6 : Nat)) (.int .u8 (ln n 7 : Nat)) wx).2.2.2.1
  have hmHi := fun wx => mask_hi_at n wx
  have hmEq := fun wx => mask_eq_at n h wx
  have hh' : decide ((h : Int) < 128) = true := decide_eq_true (by omega)
  go_enter Tryd.func3, Tryd.ntmps3
  go_wp2_with (first
    | (go_at_call 7; refine (alive_any _).mono ?_; rintro e w1 ⟨rfl, hb1⟩)
    | (go_at_call 9; refine (ref_equal n h hn _).mono ?_; rintro e w12 ⟨rfl, hb12⟩)
    | (go_at_call 8; (with_reducible refine (hmEq _).mono ?_); rintro e w13 ⟨rfl, hb13⟩)
    | (go_at_call 11; refine (match_full n h hn hh _).mono ?_; rintro e w' ⟨rfl, rfl⟩)
    | (go_at_call 12; refine (empties_any n hn _).mono ?_; rintro e w' ⟨rfl, rfl⟩)
    | (go_at_call 14; refine (deleteds_any n hn _).mono ?_; rintro e w' ⟨rfl, rfl⟩)
    | (go_at_call 15; refine (fulls_any n hn _).mono ?_; rintro e w' ⟨rfl, rfl⟩)
    | (go_at_call 16; refine (frees_any n hn _).mono ?_; rintro e w' ⟨rfl, rfl⟩)
    | (go_at_call 18; refine (right_any n hn _).mono ?_; rintro e w' ⟨rfl, rfl⟩)
    | (go_at_call 20; refine (text_any n hn _).mono ?_; rintro e w7 ⟨rfl, hb7⟩)
    | (go_at_call 22; refine (get_yes n 3 hn (by decide) _).mono ?_; rintro e w' ⟨rfl, rfl⟩)
    | (go_at_call 10; refine (ref_lanes n hn _).mono ?_; rintro e w6 ⟨rfl, hb6⟩)
    | (go_at_call 13; (with_reducible refine (empties_of n hn _).mono ?_); rintro e w3 ⟨rfl, hb3⟩)
    | (go_at_call 13; (with_reducible refine (deleteds_of n hn _).mono ?_); rintro e w4 ⟨rfl, hb4⟩)
    | (go_at_call 13; (with_reducible refine (fulls_of n hn _).mono ?_); rintro e w5 ⟨rfl, hb5⟩)
    | (go_at_call 17; refine (ref_high n hn _).mono ?_; rintro e w8 ⟨rfl, hb8⟩)
    | (go_at_call 8; (with_reducible refine (hmHi _).mono ?_); rintro e w9 ⟨rfl, hb9⟩)
    | (go_at_call 19; refine (rright_any n hn _).mono ?_; rintro e w10 ⟨rfl, hb10⟩)
    | (go_at_call 21; refine (rtext_any n hn _).mono ?_; rintro e w11 ⟨rfl, hb11⟩))
  all_goals
    go_ret
    refine ⟨by simp, ?_⟩
    repeat (first | assumption | refine below_step (by assumption) ?_)
set_option maxRecDepth 20000 in
theorem tells_n4 (n h : Nat) (hn : n < 18446744073709551616) (hh : 128 ≤ h) (w : World) :
    Calls Tryd.prog 3 #[.int .u64 n, .int .u8 h, .int .i64 4] w fun e w' => e = .returned (.bool true) ∧ Below w.heap.size w w' := by
  have i4 := fun wx => (idx8u (.int .u8 (ln n 0 : Nat)) (.int .u8 (ln n 1 : Nat)) (.int .u8 (ln n 2 : Nat)) (.int .u8 (ln n 3 : Nat)) (.int .u8 (ln n 4 : Nat)) (.int .u8 (ln n 5 : Nat)) (.int .u8 (ln n 6 : Nat)) (.int .u8 (ln n 7 : Nat)) wx).2.2.2.2.1
  have hmHi := fun wx => mask_hi_at n wx
  have hh' : decide ((h : Int) < 128) = false := decide_eq_false (by omega)
  go_enter Tryd.func3, Tryd.ntmps3
  go_wp2_with (first
    | (go_at_call 7; refine (alive_any _).mono ?_; rintro e w1 ⟨rfl, hb1⟩)
    | (go_at_call 11; refine (match_none n h hh _).mono ?_; rintro e w' ⟨rfl, rfl⟩)
    | (go_at_call 12; refine (empties_any n hn _).mono ?_; rintro e w' ⟨rfl, rfl⟩)
    | (go_at_call 14; refine (deleteds_any n hn _).mono ?_; rintro e w' ⟨rfl, rfl⟩)
    | (go_at_call 15; refine (fulls_any n hn _).mono ?_; rintro e w' ⟨rfl, rfl⟩)
    | (go_at_call 16; refine (frees_any n hn _).mono ?_; rintro e w' ⟨rfl, rfl⟩)
    | (go_at_call 18; refine (right_any n hn _).mono ?_; rintro e w' ⟨rfl, rfl⟩)
    | (go_at_call 20; refine (text_any n hn _).mono ?_; rintro e w7 ⟨rfl, hb7⟩)
    | (go_at_call 22; refine (get_yes n 4 hn (by decide) _).mono ?_; rintro e w' ⟨rfl, rfl⟩)
    | (go_at_call 10; refine (ref_lanes n hn _).mono ?_; rintro e w6 ⟨rfl, hb6⟩)
    | (go_at_call 13; (with_reducible refine (empties_of n hn _).mono ?_); rintro e w3 ⟨rfl, hb3⟩)
    | (go_at_call 13; (with_reducible refine (deleteds_of n hn _).mono ?_); rintro e w4 ⟨rfl, hb4⟩)
    | (go_at_call 13; (with_reducible refine (fulls_of n hn _).mono ?_); rintro e w5 ⟨rfl, hb5⟩)
    | (go_at_call 17; refine (ref_high n hn _).mono ?_; rintro e w8 ⟨rfl, hb8⟩)
    | (go_at_call 8; (with_reducible refine (hmHi _).mono ?_); rintro e w9 ⟨rfl, hb9⟩)
    | (go_at_call 19; refine (rright_any n hn _).mono ?_; rintro e w10 ⟨rfl, hb10⟩)
    | (go_at_call 21; refine (rtext_any n hn _).mono ?_; rintro e w11 ⟨rfl, hb11⟩))
  all_goals
    go_ret
    refine ⟨by simp, ?_⟩
    repeat (first | assumption | refine below_step (by assumption) ?_)
set_option maxRecDepth 20000 in
theorem tells_f4 (n h : Nat) (hn : n < 18446744073709551616) (hh : h < 128) (w : World) :
    Calls Tryd.prog 3 #[.int .u64 n, .int .u8 h, .int .i64 4] w fun e w' => e = .returned (.bool true) ∧ Below w.heap.size w w' := by
  have i4 := fun wx => (idx8u (.int .u8 (ln n 0 : Nat)) (.int .u8 (ln n 1 : Nat)) (.int .u8 (ln n 2 : Nat)) (.int .u8 (ln n 3 : Nat)) (.int .u8 (ln n 4 : Nat)) (.int .u8 (ln n 5 : Nat)) (.int .u8 (ln n 6 : Nat)) (.int .u8 (ln n 7 : Nat)) wx).2.2.2.2.1
  have hmHi := fun wx => mask_hi_at n wx
  have hmEq := fun wx => mask_eq_at n h wx
  have hh' : decide ((h : Int) < 128) = true := decide_eq_true (by omega)
  go_enter Tryd.func3, Tryd.ntmps3
  go_wp2_with (first
    | (go_at_call 7; refine (alive_any _).mono ?_; rintro e w1 ⟨rfl, hb1⟩)
    | (go_at_call 9; refine (ref_equal n h hn _).mono ?_; rintro e w12 ⟨rfl, hb12⟩)
    | (go_at_call 8; (with_reducible refine (hmEq _).mono ?_); rintro e w13 ⟨rfl, hb13⟩)
    | (go_at_call 11; refine (match_full n h hn hh _).mono ?_; rintro e w' ⟨rfl, rfl⟩)
    | (go_at_call 12; refine (empties_any n hn _).mono ?_; rintro e w' ⟨rfl, rfl⟩)
    | (go_at_call 14; refine (deleteds_any n hn _).mono ?_; rintro e w' ⟨rfl, rfl⟩)
    | (go_at_call 15; refine (fulls_any n hn _).mono ?_; rintro e w' ⟨rfl, rfl⟩)
    | (go_at_call 16; refine (frees_any n hn _).mono ?_; rintro e w' ⟨rfl, rfl⟩)
    | (go_at_call 18; refine (right_any n hn _).mono ?_; rintro e w' ⟨rfl, rfl⟩)
    | (go_at_call 20; refine (text_any n hn _).mono ?_; rintro e w7 ⟨rfl, hb7⟩)
    | (go_at_call 22; refine (get_yes n 4 hn (by decide) _).mono ?_; rintro e w' ⟨rfl, rfl⟩)
    | (go_at_call 10; refine (ref_lanes n hn _).mono ?_; rintro e w6 ⟨rfl, hb6⟩)
    | (go_at_call 13; (with_reducible refine (empties_of n hn _).mono ?_); rintro e w3 ⟨rfl, hb3⟩)
    | (go_at_call 13; (with_reducible refine (deleteds_of n hn _).mono ?_); rintro e w4 ⟨rfl, hb4⟩)
    | (go_at_call 13; (with_reducible refine (fulls_of n hn _).mono ?_); rintro e w5 ⟨rfl, hb5⟩)
    | (go_at_call 17; refine (ref_high n hn _).mono ?_; rintro e w8 ⟨rfl, hb8⟩)
    | (go_at_call 8; (with_reducible refine (hmHi _).mono ?_); rintro e w9 ⟨rfl, hb9⟩)
    | (go_at_call 19; refine (rright_any n hn _).mono ?_; rintro e w10 ⟨rfl, hb10⟩)
    | (go_at_call 21; refine (rtext_any n hn _).mono ?_; rintro e w11 ⟨rfl, hb11⟩))
  all_goals
    go_ret
    refine ⟨by simp, ?_⟩
    repeat (first | assumption | refine below_step (by assumption) ?_)
set_option maxRecDepth 20000 in
theorem tells_n5 (n h : Nat) (hn : n < 18446744073709551616) (hh : 128 ≤ h) (w : World) :
    Calls Tryd.prog 3 #[.int .u64 n, .int .u8 h, .int .i64 5] w fun e w' => e = .returned (.bool true) ∧ Below w.heap.size w w' := by
  have i5 := fun wx => (idx8u (.int .u8 (ln n 0 : Nat)) (.int .u8 (ln n 1 : Nat)) (.int .u8 (ln n 2 : Nat)) (.int .u8 (ln n 3 : Nat)) (.int .u8 (ln n 4 : Nat)) (.int .u8 (ln n 5 : Nat)) (.int .u8 (ln n 6 : Nat)) (.int .u8 (ln n 7 : Nat)) wx).2.2.2.2.2.1
  have hmHi := fun wx => mask_hi_at n wx
  have hh' : decide ((h : Int) < 128) = false := decide_eq_false (by omega)
  go_enter Tryd.func3, Tryd.ntmps3
  go_wp2_with (first
    | (go_at_call 7; refine (alive_any _).mono ?_; rintro e w1 ⟨rfl, hb1⟩)
    | (go_at_call 11; refine (match_none n h hh _).mono ?_; rintro e w' ⟨rfl, rfl⟩)
    | (go_at_call 12; refine (empties_any n hn _).mono ?_; rintro e w' ⟨rfl, rfl⟩)
    | (go_at_call 14; refine (deleteds_any n hn _).mono ?_; rintro e w' ⟨rfl, rfl⟩)
    | (go_at_call 15; refine (fulls_any n hn _).mono ?_; rintro e w' ⟨rfl, rfl⟩)
    | (go_at_call 16; refine (frees_any n hn _).mono ?_; rintro e w' ⟨rfl, rfl⟩)
    | (go_at_call 18; refine (right_any n hn _).mono ?_; rintro e w' ⟨rfl, rfl⟩)
    | (go_at_call 20; refine (text_any n hn _).mono ?_; rintro e w7 ⟨rfl, hb7⟩)
    | (go_at_call 22; refine (get_yes n 5 hn (by decide) _).mono ?_; rintro e w' ⟨rfl, rfl⟩)
    | (go_at_call 10; refine (ref_lanes n hn _).mono ?_; rintro e w6 ⟨rfl, hb6⟩)
    | (go_at_call 13; (with_reducible refine (empties_of n hn _).mono ?_); rintro e w3 ⟨rfl, hb3⟩)
    | (go_at_call 13; (with_reducible refine (deleteds_of n hn _).mono ?_); rintro e w4 ⟨rfl, hb4⟩)
    | (go_at_call 13; (with_reducible refine (fulls_of n hn _).mono ?_); rintro e w5 ⟨rfl, hb5⟩)
    | (go_at_call 17; refine (ref_high n hn _).mono ?_; rintro e w8 ⟨rfl, hb8⟩)
    | (go_at_call 8; (with_reducible refine (hmHi _).mono ?_); rintro e w9 ⟨rfl, hb9⟩)
    | (go_at_call 19; refine (rright_any n hn _).mono ?_; rintro e w10 ⟨rfl, hb10⟩)
    | (go_at_call 21; refine (rtext_any n hn _).mono ?_; rintro e w11 ⟨rfl, hb11⟩))
  all_goals
    go_ret
    refine ⟨by simp, ?_⟩
    repeat (first | assumption | refine below_step (by assumption) ?_)
set_option maxRecDepth 20000 in
theorem tells_f5 (n h : Nat) (hn : n < 18446744073709551616) (hh : h < 128) (w : World) :
    Calls Tryd.prog 3 #[.int .u64 n, .int .u8 h, .int .i64 5] w fun e w' => e = .returned (.bool true) ∧ Below w.heap.size w w' := by
  have i5 := fun wx => (idx8u (.int .u8 (ln n 0 : Nat)) (.int .u8 (ln n 1 : Nat)) (.int .u8 (ln n 2 : Nat)) (.int .u8 (ln n 3 : Nat)) (.int .u8 (ln n 4 : Nat)) (.int .u8 (ln n 5 : Nat)) (.int .u8 (ln n 6 : Nat)) (.int .u8 (ln n 7 : Nat)) wx).2.2.2.2.2.1
  have hmHi := fun wx => mask_hi_at n wx
  have hmEq := fun wx => mask_eq_at n h wx
  have hh' : decide ((h : Int) < 128) = true := decide_eq_true (by omega)
  go_enter Tryd.func3, Tryd.ntmps3
  go_wp2_with (first
    | (go_at_call 7; refine (alive_any _).mono ?_; rintro e w1 ⟨rfl, hb1⟩)
    | (go_at_call 9; refine (ref_equal n h hn _).mono ?_; rintro e w12 ⟨rfl, hb12⟩)
    | (go_at_call 8; (with_reducible refine (hmEq _).mono ?_); rintro e w13 ⟨rfl, hb13⟩)
    | (go_at_call 11; refine (match_full n h hn hh _).mono ?_; rintro e w' ⟨rfl, rfl⟩)
    | (go_at_call 12; refine (empties_any n hn _).mono ?_; rintro e w' ⟨rfl, rfl⟩)
    | (go_at_call 14; refine (deleteds_any n hn _).mono ?_; rintro e w' ⟨rfl, rfl⟩)
    | (go_at_call 15; refine (fulls_any n hn _).mono ?_; rintro e w' ⟨rfl, rfl⟩)
    | (go_at_call 16; refine (frees_any n hn _).mono ?_; rintro e w' ⟨rfl, rfl⟩)
    | (go_at_call 18; refine (right_any n hn _).mono ?_; rintro e w' ⟨rfl, rfl⟩)
    | (go_at_call 20; refine (text_any n hn _).mono ?_; rintro e w7 ⟨rfl, hb7⟩)
    | (go_at_call 22; refine (get_yes n 5 hn (by decide) _).mono ?_; rintro e w' ⟨rfl, rfl⟩)
    | (go_at_call 10; refine (ref_lanes n hn _).mono ?_; rintro e w6 ⟨rfl, hb6⟩)
    | (go_at_call 13; (with_reducible refine (empties_of n hn _).mono ?_); rintro e w3 ⟨rfl, hb3⟩)
    | (go_at_call 13; (with_reducible refine (deleteds_of n hn _).mono ?_); rintro e w4 ⟨rfl, hb4⟩)
    | (go_at_call 13; (with_reducible refine (fulls_of n hn _).mono ?_); rintro e w5 ⟨rfl, hb5⟩)
    | (go_at_call 17; refine (ref_high n hn _).mono ?_; rintro e w8 ⟨rfl, hb8⟩)
    | (go_at_call 8; (with_reducible refine (hmHi _).mono ?_); rintro e w9 ⟨rfl, hb9⟩)
    | (go_at_call 19; refine (rright_any n hn _).mono ?_; rintro e w10 ⟨rfl, hb10⟩)
    | (go_at_call 21; refine (rtext_any n hn _).mono ?_; rintro e w11 ⟨rfl, hb11⟩))
  all_goals
    go_ret
    refine ⟨by simp, ?_⟩
    repeat (first | assumption | refine below_step (by assumption) ?_)
set_option maxRecDepth 20000 in
theorem tells_n6 (n h : Nat) (hn : n < 18446744073709551616) (hh : 128 ≤ h) (w : World) :
    Calls Tryd.prog 3 #[.int .u64 n, .int .u8 h, .int .i64 6] w fun e w' => e = .returned (.bool true) ∧ Below w.heap.size w w' := by
  have i6 := fun wx => (idx8u (.int .u8 (ln n 0 : Nat)) (.int .u8 (ln n 1 : Nat)) (.int .u8 (ln n 2 : Nat)) (.int .u8 (ln n 3 : Nat)) (.int .u8 (ln n 4 : Nat)) (.int .u8 (ln n 5 : Nat)) (.int .u8 (ln n 6 : Nat)) (.int .u8 (ln n 7 : Nat)) wx).2.2.2.2.2.2.1
  have hmHi := fun wx => mask_hi_at n wx
  have hh' : decide ((h : Int) < 128) = false := decide_eq_false (by omega)
  go_enter Tryd.func3, Tryd.ntmps3
  go_wp2_with (first
    | (go_at_call 7; refine (alive_any _).mono ?_; rintro e w1 ⟨rfl, hb1⟩)
    | (go_at_call 11; refine (match_none n h hh _).mono ?_; rintro e w' ⟨rfl, rfl⟩)
    | (go_at_call 12; refine (empties_any n hn _).mono ?_; rintro e w' ⟨rfl, rfl⟩)
    | (go_at_call 14; refine (deleteds_any n hn _).mono ?_; rintro e w' ⟨rfl, rfl⟩)
    | (go_at_call 15; refine (fulls_any n hn _).mono ?_; rintro e w' ⟨rfl, rfl⟩)
    | (go_at_call 16; refine (frees_any n hn _).mono ?_; rintro e w' ⟨rfl, rfl⟩)
    | (go_at_call 18; refine (right_any n hn _).mono ?_; rintro e w' ⟨rfl, rfl⟩)
    | (go_at_call 20; refine (text_any n hn _).mono ?_; rintro e w7 ⟨rfl, hb7⟩)
    | (go_at_call 22; refine (get_yes n 6 hn (by decide) _).mono ?_; rintro e w' ⟨rfl, rfl⟩)
    | (go_at_call 10; refine (ref_lanes n hn _).mono ?_; rintro e w6 ⟨rfl, hb6⟩)
    | (go_at_call 13; (with_reducible refine (empties_of n hn _).mono ?_); rintro e w3 ⟨rfl, hb3⟩)
    | (go_at_call 13; (with_reducible refine (deleteds_of n hn _).mono ?_); rintro e w4 ⟨rfl, hb4⟩)
    | (go_at_call 13; (with_reducible refine (fulls_of n hn _).mono ?_); rintro e w5 ⟨rfl, hb5⟩)
    | (go_at_call 17; refine (ref_high n hn _).mono ?_; rintro e w8 ⟨rfl, hb8⟩)
    | (go_at_call 8; (with_reducible refine (hmHi _).mono ?_); rintro e w9 ⟨rfl, hb9⟩)
    | (go_at_call 19; refine (rright_any n hn _).mono ?_; rintro e w10 ⟨rfl, hb10⟩)
    | (go_at_call 21; refine (rtext_any n hn _).mono ?_; rintro e w11 ⟨rfl, hb11⟩))
  all_goals
    go_ret
    refine ⟨by simp, ?_⟩
    repeat (first | assumption | refine below_step (by assumption) ?_)
set_option maxRecDepth 20000 in
theorem tells_f6 (n h : Nat) (hn : n < 18446744073709551616) (hh : h < 128) (w : World) :
    Calls Tryd.prog 3 #[.int .u64 n, .int .u8 h, .int .i64 6] w fun e w' => e = .returned (.bool true) ∧ Below w.heap.size w w' := by
  have i6 := fun wx => (idx8u (.int .u8 (ln n 0 : Nat)) (.int .u8 (ln n 1 : Nat)) (.int .u8 (ln n 2 : Nat)) (.int .u8 (ln n 3 : Nat)) (.int .u8 (ln n 4 : Nat)) (.int .u8 (ln n 5 : Nat)) (.int .u8 (ln n 6 : Nat)) (.int .u8 (ln n 7 : Nat)) wx).2.2.2.2.2.2.1
  have hmHi := fun wx => mask_hi_at n wx
  have hmEq := fun wx => mask_eq_at n h wx
  have hh' : decide ((h : Int) < 128) = true := decide_eq_true (by omega)
  go_enter Tryd.func3, Tryd.ntmps3
  go_wp2_with (first
    | (go_at_call 7; refine (alive_any _).mono ?_; rintro e w1 ⟨rfl, hb1⟩)
    | (go_at_call 9; refine (ref_equal n h hn _).mono ?_; rintro e w12 ⟨rfl, hb12⟩)
    | (go_at_call 8; (with_reducible refine (hmEq _).mono ?_); rintro e w13 ⟨rfl, hb13⟩)
    | (go_at_call 11; refine (match_full n h hn hh _).mono ?_; rintro e w' ⟨rfl, rfl⟩)
    | (go_at_call 12; refine (empties_any n hn _).mono ?_; rintro e w' ⟨rfl, rfl⟩)
    | (go_at_call 14; refine (deleteds_any n hn _).mono ?_; rintro e w' ⟨rfl, rfl⟩)
    | (go_at_call 15; refine (fulls_any n hn _).mono ?_; rintro e w' ⟨rfl, rfl⟩)
    | (go_at_call 16; refine (frees_any n hn _).mono ?_; rintro e w' ⟨rfl, rfl⟩)
    | (go_at_call 18; refine (right_any n hn _).mono ?_; rintro e w' ⟨rfl, rfl⟩)
    | (go_at_call 20; refine (text_any n hn _).mono ?_; rintro e w7 ⟨rfl, hb7⟩)
    | (go_at_call 22; refine (get_yes n 6 hn (by decide) _).mono ?_; rintro e w' ⟨rfl, rfl⟩)
    | (go_at_call 10; refine (ref_lanes n hn _).mono ?_; rintro e w6 ⟨rfl, hb6⟩)
    | (go_at_call 13; (with_reducible refine (empties_of n hn _).mono ?_); rintro e w3 ⟨rfl, hb3⟩)
    | (go_at_call 13; (with_reducible refine (deleteds_of n hn _).mono ?_); rintro e w4 ⟨rfl, hb4⟩)
    | (go_at_call 13; (with_reducible refine (fulls_of n hn _).mono ?_); rintro e w5 ⟨rfl, hb5⟩)
    | (go_at_call 17; refine (ref_high n hn _).mono ?_; rintro e w8 ⟨rfl, hb8⟩)
    | (go_at_call 8; (with_reducible refine (hmHi _).mono ?_); rintro e w9 ⟨rfl, hb9⟩)
    | (go_at_call 19; refine (rright_any n hn _).mono ?_; rintro e w10 ⟨rfl, hb10⟩)
    | (go_at_call 21; refine (rtext_any n hn _).mono ?_; rintro e w11 ⟨rfl, hb11⟩))
  all_goals
    go_ret
    refine ⟨by simp, ?_⟩
    repeat (first | assumption | refine below_step (by assumption) ?_)
set_option maxRecDepth 20000 in
theorem tells_n7 (n h : Nat) (hn : n < 18446744073709551616) (hh : 128 ≤ h) (w : World) :
    Calls Tryd.prog 3 #[.int .u64 n, .int .u8 h, .int .i64 7] w fun e w' => e = .returned (.bool true) ∧ Below w.heap.size w w' := by
  have i7 := fun wx => (idx8u (.int .u8 (ln n 0 : Nat)) (.int .u8 (ln n 1 : Nat)) (.int .u8 (ln n 2 : Nat)) (.int .u8 (ln n 3 : Nat)) (.int .u8 (ln n 4 : Nat)) (.int .u8 (ln n 5 : Nat)) (.int .u8 (ln n 6 : Nat)) (.int .u8 (ln n 7 : Nat)) wx).2.2.2.2.2.2.2
  have hmHi := fun wx => mask_hi_at n wx
  have hh' : decide ((h : Int) < 128) = false := decide_eq_false (by omega)
  go_enter Tryd.func3, Tryd.ntmps3
  go_wp2_with (first
    | (go_at_call 7; refine (alive_any _).mono ?_; rintro e w1 ⟨rfl, hb1⟩)
    | (go_at_call 11; refine (match_none n h hh _).mono ?_; rintro e w' ⟨rfl, rfl⟩)
    | (go_at_call 12; refine (empties_any n hn _).mono ?_; rintro e w' ⟨rfl, rfl⟩)
    | (go_at_call 14; refine (deleteds_any n hn _).mono ?_; rintro e w' ⟨rfl, rfl⟩)
    | (go_at_call 15; refine (fulls_any n hn _).mono ?_; rintro e w' ⟨rfl, rfl⟩)
    | (go_at_call 16; refine (frees_any n hn _).mono ?_; rintro e w' ⟨rfl, rfl⟩)
    | (go_at_call 18; refine (right_any n hn _).mono ?_; rintro e w' ⟨rfl, rfl⟩)
    | (go_at_call 20; refine (text_any n hn _).mono ?_; rintro e w7 ⟨rfl, hb7⟩)
    | (go_at_call 22; refine (get_yes n 7 hn (by decide) _).mono ?_; rintro e w' ⟨rfl, rfl⟩)
    | (go_at_call 10; refine (ref_lanes n hn _).mono ?_; rintro e w6 ⟨rfl, hb6⟩)
    | (go_at_call 13; (with_reducible refine (empties_of n hn _).mono ?_); rintro e w3 ⟨rfl, hb3⟩)
    | (go_at_call 13; (with_reducible refine (deleteds_of n hn _).mono ?_); rintro e w4 ⟨rfl, hb4⟩)
    | (go_at_call 13; (with_reducible refine (fulls_of n hn _).mono ?_); rintro e w5 ⟨rfl, hb5⟩)
    | (go_at_call 17; refine (ref_high n hn _).mono ?_; rintro e w8 ⟨rfl, hb8⟩)
    | (go_at_call 8; (with_reducible refine (hmHi _).mono ?_); rintro e w9 ⟨rfl, hb9⟩)
    | (go_at_call 19; refine (rright_any n hn _).mono ?_; rintro e w10 ⟨rfl, hb10⟩)
    | (go_at_call 21; refine (rtext_any n hn _).mono ?_; rintro e w11 ⟨rfl, hb11⟩))
  all_goals
    go_ret
    refine ⟨by simp, ?_⟩
    repeat (first | assumption | refine below_step (by assumption) ?_)
set_option maxRecDepth 20000 in
theorem tells_f7 (n h : Nat) (hn : n < 18446744073709551616) (hh : h < 128) (w : World) :
    Calls Tryd.prog 3 #[.int .u64 n, .int .u8 h, .int .i64 7] w fun e w' => e = .returned (.bool true) ∧ Below w.heap.size w w' := by
  have i7 := fun wx => (idx8u (.int .u8 (ln n 0 : Nat)) (.int .u8 (ln n 1 : Nat)) (.int .u8 (ln n 2 : Nat)) (.int .u8 (ln n 3 : Nat)) (.int .u8 (ln n 4 : Nat)) (.int .u8 (ln n 5 : Nat)) (.int .u8 (ln n 6 : Nat)) (.int .u8 (ln n 7 : Nat)) wx).2.2.2.2.2.2.2
  have hmHi := fun wx => mask_hi_at n wx
  have hmEq := fun wx => mask_eq_at n h wx
  have hh' : decide ((h : Int) < 128) = true := decide_eq_true (by omega)
  go_enter Tryd.func3, Tryd.ntmps3
  go_wp2_with (first
    | (go_at_call 7; refine (alive_any _).mono ?_; rintro e w1 ⟨rfl, hb1⟩)
    | (go_at_call 9; refine (ref_equal n h hn _).mono ?_; rintro e w12 ⟨rfl, hb12⟩)
    | (go_at_call 8; (with_reducible refine (hmEq _).mono ?_); rintro e w13 ⟨rfl, hb13⟩)
    | (go_at_call 11; refine (match_full n h hn hh _).mono ?_; rintro e w' ⟨rfl, rfl⟩)
    | (go_at_call 12; refine (empties_any n hn _).mono ?_; rintro e w' ⟨rfl, rfl⟩)
    | (go_at_call 14; refine (deleteds_any n hn _).mono ?_; rintro e w' ⟨rfl, rfl⟩)
    | (go_at_call 15; refine (fulls_any n hn _).mono ?_; rintro e w' ⟨rfl, rfl⟩)
    | (go_at_call 16; refine (frees_any n hn _).mono ?_; rintro e w' ⟨rfl, rfl⟩)
    | (go_at_call 18; refine (right_any n hn _).mono ?_; rintro e w' ⟨rfl, rfl⟩)
    | (go_at_call 20; refine (text_any n hn _).mono ?_; rintro e w7 ⟨rfl, hb7⟩)
    | (go_at_call 22; refine (get_yes n 7 hn (by decide) _).mono ?_; rintro e w' ⟨rfl, rfl⟩)
    | (go_at_call 10; refine (ref_lanes n hn _).mono ?_; rintro e w6 ⟨rfl, hb6⟩)
    | (go_at_call 13; (with_reducible refine (empties_of n hn _).mono ?_); rintro e w3 ⟨rfl, hb3⟩)
    | (go_at_call 13; (with_reducible refine (deleteds_of n hn _).mono ?_); rintro e w4 ⟨rfl, hb4⟩)
    | (go_at_call 13; (with_reducible refine (fulls_of n hn _).mono ?_); rintro e w5 ⟨rfl, hb5⟩)
    | (go_at_call 17; refine (ref_high n hn _).mono ?_; rintro e w8 ⟨rfl, hb8⟩)
    | (go_at_call 8; (with_reducible refine (hmHi _).mono ?_); rintro e w9 ⟨rfl, hb9⟩)
    | (go_at_call 19; refine (rright_any n hn _).mono ?_; rintro e w10 ⟨rfl, hb10⟩)
    | (go_at_call 21; refine (rtext_any n hn _).mono ?_; rintro e w11 ⟨rfl, hb11⟩))
  all_goals
    go_ret
    refine ⟨by simp, ?_⟩
    repeat (first | assumption | refine below_step (by assumption) ?_)
theorem tells_any (n h : Nat) (i : Int) (hn : n < 18446744073709551616) (w : World) :
    Calls Tryd.prog 3 #[.int .u64 n, .int .u8 h, .int .i64 i] w fun e w' => e = .returned (.bool true) ∧ Below w.heap.size w w' := by
  rcases Nat.lt_or_ge h 128 with hh | hh
  · by_cases hi : i < 0 ∨ 8 ≤ i
    · exact tells_fo n h i hn hh hi w
    · obtain ⟨k, rfl⟩ := Int.eq_ofNat_of_zero_le (show 0 ≤ i by omega)
      rcases cases8 (show k < 8 by omega) with rfl | rfl | rfl | rfl | rfl | rfl | rfl | rfl
      · exact tells_f0 n h hn hh w
      · exact tells_f1 n h hn hh w
      · exact tells_f2 n h hn hh w
      · exact tells_f3 n h hn hh w
      · exact tells_f4 n h hn hh w
      · exact tells_f5 n h hn hh w
      · exact tells_f6 n h hn hh w
      · exact tells_f7 n h hn hh w
  · by_cases hi : i < 0 ∨ 8 ≤ i
    · exact tells_no n h i hn hh hi w
    · obtain ⟨k, rfl⟩ := Int.eq_ofNat_of_zero_le (show 0 ≤ i by omega)
      rcases cases8 (show k < 8 by omega) with rfl | rfl | rfl | rfl | rfl | rfl | rfl | rfl
      · exact tells_n0 n h hn hh w
      · exact tells_n1 n h hn hh w
      · exact tells_n2 n h hn hh w
      · exact tells_n3 n h hn hh w
      · exact tells_n4 n h hn hh w
      · exact tells_n5 n h hn hh w
      · exact tells_n6 n h hn hh w
      · exact tells_n7 n h hn hh w
end Go.Proofs.YtfnfdofenaegpaaDoor.ctrl
