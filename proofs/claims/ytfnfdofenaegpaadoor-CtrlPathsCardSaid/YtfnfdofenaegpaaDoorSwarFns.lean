/- The contracts of package swar's functions, of the two of math/bits that they call, and of the document's own lanes. Each call hands back what is said, and what was in memory is as it was. -/
import Derived.Test.YtfnfdofenaegpaaDoorRows
import Derived.Test.YtfnfdofenaegpaaDoorSwarMath
import Derived.WalkKit
import Derived.ProofKit
import Derived.BigQuiet
import Derived.Deep.QuietTactic
import Derived.WalkSpells
import Derived.WalkLawsBesides
import Derived.RegionTactic
import Derived.LoopN
import Derived.Outline
import Derived.Lib.Hide
import Derived.ChangeKeysEq
import Derived.Laws.StructEq
namespace Go.Proofs.YtfnfdofenaegpaaDoor.swar
open Go.ChangeShapes Go.WideShapes Go.ChangeAt Go.RowKit

theorem ret_int {k : IntKind} {a b : Int} (h : a = b) : Ending.returned (.int k a) = .returned (.int k b) := by rw [h]

theorem hasLane_yes (i : Int) (h0 : 0 ≤ i) (h8 : i < 8) (w : World) :
    Calls Tryd.prog 41 #[.int .i64 i] w fun e w' => e = .returned (.bool true) ∧ w = w' := by
  go_enter Tryd.func41, Tryd.ntmps41
  go_wp2
  all_goals (go_ret; exact ⟨by simp_all, rfl⟩)
theorem hasLane_no (i : Int) (h : i < 0 ∨ 8 ≤ i) (w : World) :
    Calls Tryd.prog 41 #[.int .i64 i] w fun e w' => e = .returned (.bool false) ∧ w = w' := by
  rcases h with h | h
  · have h' : ¬ (0 : Int) ≤ i := by omega
    go_enter Tryd.func41, Tryd.ntmps41
    go_wp2
    all_goals (go_ret; exact ⟨by simp_all, rfl⟩)
  · have h' : (0 : Int) ≤ i := by omega
    have h'' : ¬ i < 8 := by omega
    go_enter Tryd.func41, Tryd.ntmps41
    go_wp2
    all_goals (go_ret; exact ⟨by simp_all, rfl⟩)

theorem lane_no (n : Nat) (i : Int) (h : i < 0 ∨ 8 ≤ i) (w : World) :
    Calls Tryd.prog 35 #[.int .u64 n, .int .i64 i] w fun e w' => e = .returned (.tuple #[.int .u8 0, .bool false]) ∧ w = w' := by
  go_enter Tryd.func35, Tryd.ntmps35
  go_wp2_with (go_at_call 41; refine (hasLane_no _ h _).mono ?_; rintro e w' ⟨rfl, rfl⟩)
  go_ret2
  exact ⟨rfl, rfl⟩
theorem cases8 {k : Nat} (h : k < 8) : k = 0 ∨ k = 1 ∨ k = 2 ∨ k = 3 ∨ k = 4 ∨ k = 5 ∨ k = 6 ∨ k = 7 := by omega
theorem lane_yes (n k : Nat) (hn : n < 18446744073709551616) (hk : k < 8) (w : World) :
    Calls Tryd.prog 35 #[.int .u64 n, .int .i64 k] w fun e w' => e = .returned (.tuple #[.int .u8 (ln n k : Nat), .bool true]) ∧ w = w' := by
  rcases cases8 hk with rfl | rfl | rfl | rfl | rfl | rfl | rfl | rfl
  all_goals
    go_enter Tryd.func35, Tryd.ntmps35
    go_wp2_with (go_at_call 41; refine (hasLane_yes _ (by omega) (by omega) _).mono ?_; rintro e w' ⟨rfl, rfl⟩)
    go_ret2
    exact ⟨by simp [ln] <;> omega, rfl⟩

theorem with_no (n b : Nat) (i : Int) (h : i < 0 ∨ 8 ≤ i) (w : World) :
    Calls Tryd.prog 36 #[.int .u64 n, .int .i64 i, .int .u8 b] w fun e w' => e = .returned (.int .u64 n) ∧ ∃ q, w' = w.drewN q := by
  go_enter Tryd.func36, Tryd.ntmps36
  go_wp2_with (go_at_call 41; refine (hasLane_no _ h _).mono ?_; rintro e w' ⟨rfl, rfl⟩)
  go_ret
  exact ⟨rfl, 0, rfl⟩
theorem with_yes (n b k : Nat) (hn : n < 18446744073709551616) (hb : b < 256) (hk : k < 8) (w : World) :
    Calls Tryd.prog 36 #[.int .u64 n, .int .i64 k, .int .u8 b] w fun e w' => e = .returned (.int .u64 (withL n k b : Nat)) ∧ ∃ q, w' = w.drewN q := by
  rcases cases8 hk with rfl | rfl | rfl | rfl | rfl | rfl | rfl | rfl
  all_goals
    go_enter Tryd.func36, Tryd.ntmps36
    go_wp2_with (go_at_call 41; refine (hasLane_yes _ (by omega) (by omega) _).mono ?_; rintro e w' ⟨rfl, rfl⟩)
    go_quiet (fail)
    go_wp2
    go_ret
    exact ⟨ret_int (by first | exact with0 n b hn hb | exact with1 n b hn hb | exact with2 n b hn hb | exact with3 n b hn hb | exact with4 n b hn hb | exact with5 n b hn hb | exact with6 n b hn hb | exact with7 n b hn hb), _, rfl⟩

theorem repeat_any (b : Nat) (hb : b < 256) (w : World) :
    Calls Tryd.prog 39 #[.int .u8 b] w fun e w' => e = .returned (.int .u64 (pk8 b b b b b b b b : Nat)) ∧ w = w' := by
  go_enter Tryd.func39, Tryd.ntmps39
  go_wp2
  go_ret
  exact ⟨ret_int (by rw [← rep8]; simp), rfl⟩

theorem equal_any (n b : Nat) (hn : n < 18446744073709551616) (hb : b < 256) (w : World) :
    Calls Tryd.prog 30 #[.int .u64 n, .int .u8 b] w fun e w' => e = .returned (.int .u64 (eqM n b : Nat)) ∧ w = w' := by
  have HE := Lib.hid (eq_bits n b hn hb)
  go_enter Tryd.func30, Tryd.ntmps30
  go_wp2_with (go_at_call 39; refine (repeat_any _ hb _).mono ?_; rintro e w' ⟨rfl, rfl⟩)
  all_goals (go_ret; exact ⟨ret_int HE.out, rfl⟩)
theorem high_any (n : Nat) (hn : n < 18446744073709551616) (w : World) :
    Calls Tryd.prog 32 #[.int .u64 n] w fun e w' => e = .returned (.int .u64 (hiM n : Nat)) ∧ w = w' := by
  have HE := Lib.hid (hi_bits n hn)
  go_enter Tryd.func32, Tryd.ntmps32
  go_wp2
  go_ret
  exact ⟨ret_int HE.out, rfl⟩
theorem ones_any (b0 b1 b2 b3 b4 b5 b6 b7 : Nat) (h0 : b0 ≤ 1) (h1 : b1 ≤ 1) (h2 : b2 ≤ 1) (h3 : b3 ≤ 1) (h4 : b4 ≤ 1) (h5 : b5 ≤ 1) (h6 : b6 ≤ 1) (h7 : b7 ≤ 1) (w : World) :
    Calls Tryd.prog 40 #[.int .u64 ((128 * pk8 b0 b1 b2 b3 b4 b5 b6 b7 : Nat) : Int)] w fun e w' => e = .returned (.int .i64 (b0 + b1 + b2 + b3 + b4 + b5 + b6 + b7 : Nat)) ∧ w = w' := by
  have hle := ones_le h0 h1 h2 h3 h4 h5 h6 h7
  have r2 := pk_and h0 h1 h2 h3 h4 h5 h6 h7 128 0 85 (by decide) (by decide) (by decide)
  have r1 := pk_and h0 h1 h2 h3 h4 h5 h6 h7 64 64 85 (by decide) (by decide) (by decide)
  have r4 := pk_and h0 h1 h2 h3 h4 h5 h6 h7 16 16 51 (by decide) (by decide) (by decide)
  have r5 := pk_and h0 h1 h2 h3 h4 h5 h6 h7 64 0 51 (by decide) (by decide) (by decide)
  have r8 := pk_and h0 h1 h2 h3 h4 h5 h6 h7 17 1 15 (by decide) (by decide) (by decide)
  have rs := ones_sum h0 h1 h2 h3 h4 h5 h6 h7
  generalize pk8 b0 b1 b2 b3 b4 b5 b6 b7 = y at *
  generalize b0 + b1 + b2 + b3 + b4 + b5 + b6 + b7 = s at *
  have R := Lib.hid (ones_bits y s hle r1 r2 r4 r5 r8 rs)
  clear r1 r2 r4 r5 r8 rs
  go_enter Tryd.func40, Tryd.ntmps40
  go_wp2
  go_ret
  refine ⟨ret_int ?_, rfl⟩
  obtain ⟨e1, e2, e3, e4, e5, e6, e7, e8, e9, e10, e11, e12⟩ := R.out
  clear R
  simp only [e1, e2, e3, e4, e5, e6, e7, e8, e9, e10, e11, e12]
theorem count_any (n : Nat) (hn : n < 18446744073709551616) (w : World) :
    Calls Tryd.prog 27 #[.int .u64 n] w fun e w' => e = .returned (.int .i64 (cnt n : Nat)) ∧ w = w' := by
  have o := fun k => one_le (128 ≤ ln n k)
  have c := fun w1 => ones_any _ _ _ _ _ _ _ _ (o 0) (o 1) (o 2) (o 3) (o 4) (o 5) (o 6) (o 7) w1
  rw [← hiM_one] at c
  have C := Lib.hid c
  clear c
  go_enter Tryd.func27, Tryd.ntmps27
  go_wp2_with (first | (go_at_call 32; refine (high_any _ hn _).mono ?_; rintro e w' ⟨rfl, rfl⟩) | (go_at_call 40; refine (C.out _).mono ?_; rintro e w' ⟨rfl, rfl⟩))
  go_ret
  exact ⟨rfl, rfl⟩

/-- a word's lanes as an array's value -/
abbrev agg8 (a0 a1 a2 a3 a4 a5 a6 a7 : Nat) : Value := .agg #[.int .u8 a0, .int .u8 a1, .int .u8 a2, .int .u8 a3, .int .u8 a4, .int .u8 a5, .int .u8 a6, .int .u8 a7]
abbrev lanes8 (n : Nat) : Value := agg8 (ln n 0) (ln n 1) (ln n 2) (ln n 3) (ln n 4) (ln n 5) (ln n 6) (ln n 7)
/-- each lane as the walks spell it -/
theorem ln_div (n : Nat) : (n : Int) % 256 = (ln n 0 : Nat) ∧ (n : Int) / 256 % 256 = (ln n 1 : Nat) ∧ (n : Int) / 256 / 256 % 256 = (ln n 2 : Nat) ∧ (n : Int) / 256 / 256 / 256 % 256 = (ln n 3 : Nat) ∧
    (n : Int) / 256 / 256 / 256 / 256 % 256 = (ln n 4 : Nat) ∧ (n : Int) / 256 / 256 / 256 / 256 / 256 % 256 = (ln n 5 : Nat) ∧ (n : Int) / 256 / 256 / 256 / 256 / 256 / 256 % 256 = (ln n 6 : Nat) ∧
    (n : Int) / 256 / 256 / 256 / 256 / 256 / 256 / 256 % 256 = (ln n 7 : Nat) := by
  simp only [ln, Nat.reducePow]; omega
set_option maxHeartbeats 1000000 in
theorem ref_lanes (n : Nat) (hn : n < 18446744073709551616) (w : World) :
    Calls Tryd.prog 10 #[.int .u64 n] w fun e w' => e = .returned (lanes8 n) ∧ Below w.heap.size w w' := by
  have HL := Lib.hid (ln_div n)
  go_enter Tryd.func10, Tryd.ntmps10
  go_wp2
  refine wp_loop_rounds 9 ?_
  iterate 9 (rw [rounds_succ]; go_wp2)
  obtain ⟨e0, e1, e2, e3, e4, e5, e6, e7⟩ := HL.out
  refine bodyPost_ret (v := lanes8 n) ?_ rfl ⟨rfl, ?_⟩
  · simp [results, Tryd.results10, go_sem, e0, e1, e2, e3, e4, e5, e6, e7]
  · exact ((Below.refl _ _).alloc (Nat.le_refl _) _).alloc (by simp) _
theorem ln_pow (n : Nat) (hn : n < 18446744073709551616) : (n : Int) % 256 = (ln n 0 : Nat) ∧ (n : Int) / 256 % 256 = (ln n 1 : Nat) ∧ (n : Int) / 65536 % 256 = (ln n 2 : Nat) ∧ (n : Int) / 16777216 % 256 = (ln n 3 : Nat) ∧
    (n : Int) / 4294967296 % 256 = (ln n 4 : Nat) ∧ (n : Int) / 1099511627776 % 256 = (ln n 5 : Nat) ∧ (n : Int) / 281474976710656 % 256 = (ln n 6 : Nat) ∧
    (n : Int) / 72057594037927936 = (ln n 7 : Nat) := by
  simp only [ln, Nat.reducePow]; omega
set_option maxHeartbeats 1000000 in
theorem unfold_any (n : Nat) (hn : n < 18446744073709551616) (w : World) :
    Calls Tryd.prog 33 #[.int .u64 n] w fun e w' => e = .returned (lanes8 n) ∧ Below w.heap.size w w' := by
  have HL := Lib.hid (ln_pow n hn)
  go_enter Tryd.func33, Tryd.ntmps33
  go_wp2
  refine wp_loop_rounds 9 ?_
  iterate 9 (rw [rounds_succ]; go_wp2)
  obtain ⟨e0, e1, e2, e3, e4, e5, e6, e7⟩ := HL.out
  refine bodyPost_ret (v := lanes8 n) ?_ rfl ⟨rfl, ?_⟩
  · simp [results, Tryd.results33, go_sem, e0, e1, e2, e3, e4, e5, e6, e7]
  · exact ((Below.refl _ _).alloc (Nat.le_refl _) _).alloc (by simp) _
set_option maxHeartbeats 1000000 in
theorem word_any (a0 a1 a2 a3 a4 a5 a6 a7 : Nat) (h0 : a0 < 256) (h1 : a1 < 256) (h2 : a2 < 256) (h3 : a3 < 256) (h4 : a4 < 256) (h5 : a5 < 256) (h6 : a6 < 256) (h7 : a7 < 256) (w : World) :
    Calls Tryd.prog 28 #[agg8 a0 a1 a2 a3 a4 a5 a6 a7] w fun e w' => e = .returned (.int .u64 (pk8 a0 a1 a2 a3 a4 a5 a6 a7 : Nat)) ∧ Below w.heap.size w w' := by
  go_enter Tryd.func28, Tryd.ntmps28
  go_wp2
  refine wp_loop_rounds 9 ?_
  iterate 9 (rw [rounds_succ]; go_wp2)
  go_ret
  refine ⟨ret_int ?_, ?_⟩
  · unfold pk8; omega
  · exact (Below.refl _ _).alloc (Nat.le_refl _) _

theorem cells5 : Tryd.prog.cellsOf 5 = 1 := by kernel_rfl
theorem info5 : (Tryd.prog.info? 5).isSome = true := by kernel_rfl
/-- '==' of an array's value and itself -/
theorem eq_same8 (a0 a1 a2 a3 a4 a5 a6 a7 : Nat) (w : World) : (Op.equalIn 10000 28 (agg8 a0 a1 a2 a3 a4 a5 a6 a7) (agg8 a0 a1 a2 a3 a4 a5 a6 a7)).run Tryd.prog w = .ok true w := by
  obtain ⟨i, hi⟩ := Option.isSome_iff_exists.1 info5
  rw [show (10000 : Nat) = 9998 + 1 + 1 from rfl, run_equalIn_array w (9998 + 1) _ _ Tryd.underlying28 hi, cells5]
  have e : List.range 8 = [0, 1, 2, 3, 4, 5, 6, 7] := by decide
  rw [e]
  simp [Op.eqItems, part, go_sem, Tryd.underlying5, run_equalIn_int]
end Go.Proofs.YtfnfdofenaegpaaDoor.swar
