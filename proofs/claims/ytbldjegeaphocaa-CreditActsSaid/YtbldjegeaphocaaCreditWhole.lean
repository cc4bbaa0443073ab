/- credit: contracts of Whole, the program's and the document's. -/
import Derived.Test.YtbldjegeaphocaaCreditMath
import Derived.Test.YtbldjegeaphocaaChecked
import Derived.WalkLawsBesides
import Derived.WalkKit
import Derived.KernelRfl
namespace Go.Proofs.Ytbldjegeaphocaa.credit
open Go.RowKit flt
set_option linter.unusedSimpArgs false
set_option linter.unusedVariables false

theorem wn_mid {b : Nat} (h : 0 < b ∧ b < w40) : V b / U = wn b := by rw [wn, if_pos h]
theorem wn_low {b : Nat} (h : ¬ (0 < b ∧ b < w40)) (h2 : ¬ (w40 ≤ b ∧ b ≤ inf)) : wn b = 0 := by rw [wn, if_neg h, if_neg h2]
theorem wn_high {b : Nat} (h2 : w40 ≤ b ∧ b ≤ inf) : wn b = 1099511627776 := by rw [wn, if_neg (by omega), if_pos h2]
theorem wp_out {b : Nat} (h : ¬ (0 < b ∧ b < w40)) : wp b = 0 := by rw [wp, if_neg h]
theorem whole_any (b : Nat) (hb : b < 18446744073709551616) (w : World) : Calls Try.prog 18 #[.float .f64 b] w fun e w' => e = .returned (.tuple #[.int .i64 (wn b), .float .f64 (wp b)]) ∧ w' = w := by
  by_cases h : 0 < b ∧ b < w40
  · have f1 := mid_ge h
    have f2 := mid_gt h
    have f3 := fun (src dst : TypeId) (hs) (hd) (w : World) => run_convert_float_int (P := Try.prog) w src dst .f64 .i64 b _ hs hd (mid_int h)
    have f4 := fun (t : TypeId) (w : World) => run_float_arith (P := Try.prog) w .sub t .f64 b _ _ (mid_part h)
    rw [wn_mid h] at f3 f4
    generalize wn b = n at *
    generalize wp b = p at *
    clear h
    go_enter Try.func18, Try.ntmps18
    go_wp2
    go_ret2
    exact ⟨rfl, rfl⟩
  · rw [wp_out h]
    by_cases h2 : w40 ≤ b ∧ b ≤ inf
    · have f1 := out_ge h hb
      rw [decide_eq_true h2] at f1
      rw [wn_high h2]
      clear h h2 hb
      go_enter Try.func18, Try.ntmps18
      go_wp2
      go_ret2
      exact ⟨rfl, rfl⟩
    · have f1 := out_ge h hb
      rw [decide_eq_false h2] at f1
      have f2 := low_gt h h2 hb
      rw [wn_low h h2]
      clear h h2 hb
      go_enter Try.func18, Try.ntmps18
      go_wp2
      go_ret2
      exact ⟨rfl, rfl⟩
theorem rwhole_any (b : Nat) (hb : b < 18446744073709551616) (w : World) : Calls Try.prog 19 #[.float .f64 b] w fun e w' => e = .returned (.tuple #[.int .i64 (wn b), .float .f64 (wp b)]) ∧ w' = w := by
  by_cases h : 0 < b ∧ b < w40
  · have f1 := mid_ge h
    have f2 := mid_gt h
    have f3 := fun (src dst : TypeId) (hs) (hd) (w : World) => run_convert_float_int (P := Try.prog) w src dst .f64 .i64 b _ hs hd (mid_int h)
    have f4 := fun (t : TypeId) (w : World) => run_float_arith (P := Try.prog) w .sub t .f64 b _ _ (mid_part h)
    rw [wn_mid h] at f3 f4
    generalize wn b = n at *
    generalize wp b = p at *
    clear h
    go_enter Try.func19, Try.ntmps19
    go_wp2
    go_ret2
    exact ⟨rfl, rfl⟩
  · rw [wp_out h]
    by_cases h2 : w40 ≤ b ∧ b ≤ inf
    · have f1 := out_ge h hb
      rw [decide_eq_true h2] at f1
      have f2 := high_gt h2
      rw [wn_high h2]
      clear h h2 hb
      go_enter Try.func19, Try.ntmps19
      go_wp2
      go_ret2
      exact ⟨rfl, rfl⟩
    · have f2 := low_gt h h2 hb
      rw [wn_low h h2]
      clear h h2 hb
      go_enter Try.func19, Try.ntmps19
      go_wp2
      go_ret2
      exact ⟨rfl, rfl⟩
end Go.Proofs.Ytbldjegeaphocaa.credit
