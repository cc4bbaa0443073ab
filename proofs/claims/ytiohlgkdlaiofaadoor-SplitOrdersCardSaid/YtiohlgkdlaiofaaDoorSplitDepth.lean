/- What Top, Bit and Within answer at a depth and the next one. -/
import Derived.Test.YtiohlgkdlaiofaaDoorSplitLess
namespace Go.Proofs.YtiohlgkdlaiofaaDoor.split
open Go.ChangeShapes Go.WideShapes Go.ChangeAt Go.RowKit errs

theorem next_cells (nk nh : Nat) (W : World) : (W.alloc (.cells #[.int .u64 ((nk : Nat) : Int), .int .u64 0, .int .u64 ((nh : Nat) : Int)] 45)).cell? ⟨W.heap.size, 0, none⟩ = some (.int .u64 ((nk : Nat) : Int)) ∧ (W.alloc (.cells #[.int .u64 ((nk : Nat) : Int), .int .u64 0, .int .u64 ((nh : Nat) : Int)] 45)).cell? ⟨W.heap.size, 1, none⟩ = some (.int .u64 0) ∧ (W.alloc (.cells #[.int .u64 ((nk : Nat) : Int), .int .u64 0, .int .u64 ((nh : Nat) : Int)] 45)).cell? ⟨W.heap.size, 2, none⟩ = some (.int .u64 ((nh : Nat) : Int)) ∧ W.heap.size < (W.alloc (.cells #[.int .u64 ((nk : Nat) : Int), .int .u64 0, .int .u64 ((nh : Nat) : Int)] 45)).heap.size :=
  ⟨by simp, by simp, by simp, by simp⟩
theorem good_depth (h d : Nat) (hh : h < 18446744073709551616) (hd : d ≤ 15) : ∃ t m b : Nat, t < 65536 ∧ b < 2 ∧ m = 2 * t + b ∧
    (∀ W, Calls Tryd.prog 8 #[.int .u64 ((h : Nat) : Int), .int .i64 ((d : Nat) : Int)] W fun e w' => e = .returned (.tuple #[.int .i64 ((t : Nat) : Int), .nilIface]) ∧ W = w') ∧
    (∀ W, Calls Tryd.prog 8 #[.int .u64 ((h : Nat) : Int), .int .i64 (((d : Nat) : Int) + 1)] W fun e w' => e = .returned (.tuple #[.int .i64 ((m : Nat) : Int), .nilIface]) ∧ W = w') ∧
    (∀ W, Calls Tryd.prog 10 #[.int .u64 ((h : Nat) : Int), .int .i64 ((d : Nat) : Int)] W fun e w' => e = .returned (.tuple #[.int .i64 ((b : Nat) : Int), .nilIface]) ∧ W = w') ∧
    (∀ W, Calls Tryd.prog 19 #[.int .u64 ((h : Nat) : Int), .int .i64 ((t : Nat) : Int), .int .i64 ((d : Nat) : Int)] W fun e w' => e = .returned (.bool true) ∧ W = w') ∧
    (∀ W, Calls Tryd.prog 19 #[.int .u64 ((h : Nat) : Int), .int .i64 ((m : Nat) : Int), .int .i64 (((d : Nat) : Int) + 1)] W fun e w' => e = .returned (.bool true) ∧ W = w') ∧
    (∀ W, Calls Tryd.prog 19 #[.int .u64 ((h : Nat) : Int), .int .i64 (2 * ((t : Nat) : Int) + 1 - ((b : Nat) : Int)), .int .i64 (((d : Nat) : Int) + 1)] W fun e w' => e = .returned (.bool false) ∧ W = w') := by
  have hn := top_next h d (by omega)
  have ht := top_lt h d hh (by omega)
  have hm := top_lt h (d + 1) hh (by omega)
  have hb := bitN_lt h d
  have e1 : (((d + 1 : Nat)) : Int) = ((d : Nat) : Int) + 1 := by omega
  refine ⟨h / 2 ^ (64 - d), h / 2 ^ (64 - (d + 1)), bitN h d, top_small h d hh (by omega), hb, hn, fun W => top_yes h d hh (by omega) W, fun W => ?_, fun W => bit_yes h d hh (by omega) W, fun W => ?_, fun W => ?_, fun W => ?_⟩
  · have c := top_yes h (d + 1) hh (by omega) W
    rw [e1] at c; exact c
  · have c := within_yes h (h / 2 ^ (64 - d)) d hh (by omega) ht W
    rw [decide_eq_true rfl] at c; exact c
  · have c := within_yes h (h / 2 ^ (64 - (d + 1))) (d + 1) hh (by omega) hm W
    rw [decide_eq_true rfl, e1] at c; exact c
  · have hp : 2 ^ (d + 1) = 2 * 2 ^ d := by rw [Nat.pow_succ, Nat.mul_comm]
    have c := within_yes h (2 * (h / 2 ^ (64 - d)) + 1 - bitN h d) (d + 1) hh (by omega) (by omega) W
    rw [decide_eq_false (by omega), e1] at c
    have e2 : ((2 * (h / 2 ^ (64 - d)) + 1 - bitN h d : Nat) : Int) = 2 * ((h / 2 ^ (64 - d) : Nat) : Int) + 1 - ((bitN h d : Nat) : Int) := by
      generalize h / 2 ^ (64 - d) = x
      omega
    rw [e2] at c; exact c
end Go.Proofs.YtiohlgkdlaiofaaDoor.split
