/- SwarMasks: the document's own functions (lanes that are some byte, that are high, their mask, their list), and two lists compared. -/
import Derived.Test.YtfnfdofenaegpaaDoorSwarFns
import Derived.Maps.AppendAt
import Derived.LoopTactic
namespace Go.Proofs.YtfnfdofenaegpaaDoor.swar
open Go.ChangeShapes Go.WideShapes Go.ChangeAt Go.RowKit

theorem word_at (m a0 a1 a2 a3 a4 a5 a6 a7 : Nat) (hm : pk8 a0 a1 a2 a3 a4 a5 a6 a7 = m) (h0 : a0 < 256) (h1 : a1 < 256) (h2 : a2 < 256) (h3 : a3 < 256) (h4 : a4 < 256) (h5 : a5 < 256) (h6 : a6 < 256) (h7 : a7 < 256) (w : World) :
    Calls Tryd.prog 28 #[agg8 a0 a1 a2 a3 a4 a5 a6 a7] w fun e w' => e = .returned (.int .u64 (m : Nat)) ∧ Below w.heap.size w w' := by
  subst hm; exact word_any a0 a1 a2 a3 a4 a5 a6 a7 h0 h1 h2 h3 h4 h5 h6 h7 w
theorem word_lanes (n : Nat) (hn : n < 18446744073709551616) (w : World) :
    Calls Tryd.prog 28 #[lanes8 n] w fun e w' => e = .returned (.int .u64 n) ∧ Below w.heap.size w w' :=
  word_at n _ _ _ _ _ _ _ _ (pk8_ln n hn) (ln_lt _ _) (ln_lt _ _) (ln_lt _ _) (ln_lt _ _) (ln_lt _ _) (ln_lt _ _) (ln_lt _ _) (ln_lt _ _) w
theorem below_step {w W W' : World} (h : Below w.heap.size w W) (h' : Below W.heap.size W W') : Below w.heap.size w W' := h.trans (h'.mono h.size)
abbrev bagg8 (p0 p1 p2 p3 p4 p5 p6 p7 : Bool) : Value := .agg #[.bool p0, .bool p1, .bool p2, .bool p3, .bool p4, .bool p5, .bool p6, .bool p7]
/-- arrays' values, indexed -/
theorem idx8u (a0 a1 a2 a3 a4 a5 a6 a7 : Value) (w : World) : (Instr.index 28 (.agg #[a0, a1, a2, a3, a4, a5, a6, a7]) (.int .i64 0)).run Tryd.prog w = .ok a0 w ∧ (Instr.index 28 (.agg #[a0, a1, a2, a3, a4, a5, a6, a7]) (.int .i64 1)).run Tryd.prog w = .ok a1 w ∧ (Instr.index 28 (.agg #[a0, a1, a2, a3, a4, a5, a6, a7]) (.int .i64 2)).run Tryd.prog w = .ok a2 w ∧ (Instr.index 28 (.agg #[a0, a1, a2, a3, a4, a5, a6, a7]) (.int .i64 3)).run Tryd.prog w = .ok a3 w ∧ (Instr.index 28 (.agg #[a0, a1, a2, a3, a4, a5, a6, a7]) (.int .i64 4)).run Tryd.prog w = .ok a4 w ∧ (Instr.index 28 (.agg #[a0, a1, a2, a3, a4, a5, a6, a7]) (.int .i64 5)).run Tryd.prog w = .ok a5 w ∧ (Instr.index 28 (.agg #[a0, a1, a2, a3, a4, a5, a6, a7]) (.int .i64 6)).run Tryd.prog w = .ok a6 w ∧ (Instr.index 28 (.agg #[a0, a1, a2, a3, a4, a5, a6, a7]) (.int .i64 7)).run Tryd.prog w = .ok a7 w :=
  ⟨by kernel_rfl, by kernel_rfl, by kernel_rfl, by kernel_rfl, by kernel_rfl, by kernel_rfl, by kernel_rfl, by kernel_rfl⟩
theorem idx8b (a0 a1 a2 a3 a4 a5 a6 a7 : Value) (w : World) : (Instr.index 26 (.agg #[a0, a1, a2, a3, a4, a5, a6, a7]) (.int .i64 0)).run Tryd.prog w = .ok a0 w ∧ (Instr.index 26 (.agg #[a0, a1, a2, a3, a4, a5, a6, a7]) (.int .i64 1)).run Tryd.prog w = .ok a1 w ∧ (Instr.index 26 (.agg #[a0, a1, a2, a3, a4, a5, a6, a7]) (.int .i64 2)).run Tryd.prog w = .ok a2 w ∧ (Instr.index 26 (.agg #[a0, a1, a2, a3, a4, a5, a6, a7]) (.int .i64 3)).run Tryd.prog w = .ok a3 w ∧ (Instr.index 26 (.agg #[a0, a1, a2, a3, a4, a5, a6, a7]) (.int .i64 4)).run Tryd.prog w = .ok a4 w ∧ (Instr.index 26 (.agg #[a0, a1, a2, a3, a4, a5, a6, a7]) (.int .i64 5)).run Tryd.prog w = .ok a5 w ∧ (Instr.index 26 (.agg #[a0, a1, a2, a3, a4, a5, a6, a7]) (.int .i64 6)).run Tryd.prog w = .ok a6 w ∧ (Instr.index 26 (.agg #[a0, a1, a2, a3, a4, a5, a6, a7]) (.int .i64 7)).run Tryd.prog w = .ok a7 w :=
  ⟨by kernel_rfl, by kernel_rfl, by kernel_rfl, by kernel_rfl, by kernel_rfl, by kernel_rfl, by kernel_rfl, by kernel_rfl⟩
abbrev row8 (n : Nat) : Array Value := #[.int .u8 (ln n 0 : Nat), .int .u8 (ln n 1 : Nat), .int .u8 (ln n 2 : Nat), .int .u8 (ln n 3 : Nat), .int .u8 (ln n 4 : Nat), .int .u8 (ln n 5 : Nat), .int .u8 (ln n 6 : Nat), .int .u8 (ln n 7 : Nat)]
set_option maxHeartbeats 1000000 in
theorem ref_lanes_at (n : Nat) (hn : n < 18446744073709551616) (w : World) :
    Calls Tryd.prog 10 #[.int .u64 n] w fun e w' => e = .returned (lanes8 n) ∧ (w.alloc (.cells (row8 n) 28)).alloc (.cells (row8 n) 28) = w' := by
  have HL := Lib.hid (ln_div n)
  go_enter Tryd.func10, Tryd.ntmps10
  go_wp2
  refine wp_loop_rounds 9 ?_
  iterate 9 (rw [rounds_succ]; go_wp2)
  obtain ⟨e0, e1, e2, e3, e4, e5, e6, e7⟩ := HL.out
  refine bodyPost_ret (v := lanes8 n) ?_ rfl ⟨rfl, ?_⟩
  · simp [results, Tryd.results10, go_sem, e0, e1, e2, e3, e4, e5, e6, e7]
  · rw [e0, e1, e2, e3, e4, e5, e6, e7]
set_option maxHeartbeats 1000000 in
theorem ref_high (n : Nat) (hn : n < 18446744073709551616) (w : World) :
    Calls Tryd.prog 17 #[.int .u64 n] w fun e w' => e = .returned (bagg8 (decide (128 ≤ ((ln n 0 : Nat) : Int))) (decide (128 ≤ ((ln n 1 : Nat) : Int))) (decide (128 ≤ ((ln n 2 : Nat) : Int))) (decide (128 ≤ ((ln n 3 : Nat) : Int))) (decide (128 ≤ ((ln n 4 : Nat) : Int))) (decide (128 ≤ ((ln n 5 : Nat) : Int))) (decide (128 ≤ ((ln n 6 : Nat) : Int))) (decide (128 ≤ ((ln n 7 : Nat) : Int)))) ∧ Below w.heap.size w w' := by
  have hl := fun k => ln_lt n k
  have l0 := hl 0; have l1 := hl 1; have l2 := hl 2; have l3 := hl 3; have l4 := hl 4; have l5 := hl 5; have l6 := hl 6; have l7 := hl 7
  clear hl
  have i0 := fun wx => (idx8u (.int .u8 (ln n 0 : Nat)) (.int .u8 (ln n 1 : Nat)) (.int .u8 (ln n 2 : Nat)) (.int .u8 (ln n 3 : Nat)) (.int .u8 (ln n 4 : Nat)) (.int .u8 (ln n 5 : Nat)) (.int .u8 (ln n 6 : Nat)) (.int .u8 (ln n 7 : Nat)) wx).1
  have i1 := fun wx => (idx8u (.int .u8 (ln n 0 : Nat)) (.int .u8 (ln n 1 : Nat)) (.int .u8 (ln n 2 : Nat)) (.int .u8 (ln n 3 : Nat)) (.int .u8 (ln n 4 : Nat)) (.int .u8 (ln n 5 : Nat)) (.int .u8 (ln n 6 : Nat)) (.int .u8 (ln n 7 : Nat)) wx).2.1
  have i2 := fun wx => (idx8u (.int .u8 (ln n 0 : Nat)) (.int .u8 (ln n 1 : Nat)) (.int .u8 (ln n 2 : Nat)) (.int .u8 (ln n 3 : Nat)) (.int .u8 (ln n 4 : Nat)) (.int .u8 (ln n 5 : Nat)) (.int .u8 (ln n 6 : Nat)) (.int .u8 (ln n 7 : Nat)) wx).2.2.1
  have i3 := fun wx => (idx8u (.int .u8 (ln n 0 : Nat)) (.int .u8 (ln n 1 : Nat)) (.int .u8 (ln n 2 : Nat)) (.int .u8 (ln n 3 : Nat)) (.int .u8 (ln n 4 : Nat)) (.int .u8 (ln n 5 : Nat)) (.int .u8 (ln n 6 : Nat)) (.int .u8 (ln n 7 : Nat)) wx).2.2.2.1
  have i4 := fun wx => (idx8u (.int .u8 (ln n 0 : Nat)) (.int .u8 (ln n 1 : Nat)) (.int .u8 (ln n 2 : Nat)) (.int .u8 (ln n 3 : Nat)) (.int .u8 (ln n 4 : Nat)) (.int .u8 (ln n 5 : Nat)) (.int .u8 (ln n 6 : Nat)) (.int .u8 (ln n 7 : Nat)) wx).2.2.2.2.1
  have i5 := fun wx => (idx8u (.int .u8 (ln n 0 : Nat)) (.int .u8 (ln n 1 : Nat)) (.int .u8 (ln n 2 : Nat)) (.int .u8 (ln n 3 : Nat)) (.int .u8 (ln n 4 : Nat)) (.int .u8 (ln n 5 : Nat)) (.int .u8 (ln n 6 : Nat)) (.int .u8 (ln n 7 : Nat)) wx).2.2.2.2.2.1
  have i6 := fun wx => (idx8u (.int .u8 (ln n 0 : Nat)) (.int .u8 (ln n 1 : Nat)) (.int .u8 (ln n 2 : Nat)) (.int .u8 (ln n 3 : Nat)) (.int .u8 (ln n 4 : Nat)) (.int .u8 (ln n 5 : Nat)) (.int .u8 (ln n 6 : Nat)) (.int .u8 (ln n 7 : Nat)) wx).2.2.2.2.2.2.1
  have i7 := fun wx => (idx8u (.int .u8 (ln n 0 : Nat)) (.int .u8 (ln n 1 : Nat)) (.int .u8 (ln n 2 : Nat)) (.int .u8 (ln n 3 : Nat)) (.int .u8 (ln n 4 : Nat)) (.int .u8 (ln n 5 : Nat)) (.int .u8 (ln n 6 : Nat)) (.int .u8 (ln n 7 : Nat)) wx).2.2.2.2.2.2.2
  go_enter Tryd.func17, Tryd.ntmps17
  go_wp2_with (go_at_call 10; refine (ref_lanes_at n hn _).mono ?_; rintro e w' ⟨rfl, rfl⟩)
  refine wp_loop_rounds 9 ?_
  iterate 9 (rw [rounds_succ]; go_wp2)
  refine bodyPost_ret (v := bagg8 (decide (128 ≤ ((ln n 0 : Nat) : Int))) (decide (128 ≤ ((ln n 1 : Nat) : Int))) (decide (128 ≤ ((ln n 2 : Nat) : Int))) (decide (128 ≤ ((ln n 3 : Nat) : Int))) (decide (128 ≤ ((ln n 4 : Nat) : Int))) (decide (128 ≤ ((ln n 5 : Nat) : Int))) (decide (128 ≤ ((ln n 6 : Nat) : Int))) (decide (128 ≤ ((ln n 7 : Nat) : Int)))) ?_ rfl ⟨rfl, ?_⟩
  · simp [results, Tryd.results17, go_sem]
  · repeat (first | exact Below.refl _ _ | refine Below.alloc ?_ (by simp; try omega) _)
set_option maxHeartbeats 1000000 in
theorem ref_equal (n : Nat) (b : Nat) (hn : n < 18446744073709551616) (w : World) :
    Calls Tryd.prog 9 #[.int .u64 n, .int .u8 b] w fun e w' => e = .returned (bagg8 (((ln n 0 : Nat) : Int) == (b : Int)) (((ln n 1 : Nat) : Int) == (b : Int)) (((ln n 2 : Nat) : Int) == (b : Int)) (((ln n 3 : Nat) : Int) == (b : Int)) (((ln n 4 : Nat) : Int) == (b : Int)) (((ln n 5 : Nat) : Int) == (b : Int)) (((ln n 6 : Nat) : Int) == (b : Int)) (((ln n 7 : Nat) : Int) == (b : Int))) ∧ Below w.heap.size w w' := by
  have hl := fun k => ln_lt n k
  have l0 := hl 0; have l1 := hl 1; have l2 := hl 2; have l3 := hl 3; have l4 := hl 4; have l5 := hl 5; have l6 := hl 6; have l7 := hl 7
  clear hl
  have i0 := fun wx => (idx8u (.int .u8 (ln n 0 : Nat)) (.int .u8 (ln n 1 : Nat)) (.int .u8 (ln n 2 : Nat)) (.int .u8 (ln n 3 : Nat)) (.int .u8 (ln n 4 : Nat)) (.int .u8 (ln n 5 : Nat)) (.int .u8 (ln n 6 : Nat)) (.int .u8 (ln n 7 : Nat)) wx).1
  have i1 := fun wx => (idx8u (.int .u8 (ln n 0 : Nat)) (.int .u8 (ln n 1 : Nat)) (.int .u8 (ln n 2 : Nat)) (.int .u8 (ln n 3 : Nat)) (.int .u8 (ln n 4 : Nat)) (.int .u8 (ln n 5 : Nat)) (.int .u8 (ln n 6 : Nat)) (.int .u8 (ln n 7 : Nat)) wx).2.1
  have i2 := fun wx => (idx8u (.int .u8 (ln n 0 : Nat)) (.int .u8 (ln n 1 : Nat)) (.int .u8 (ln n 2 : Nat)) (.int .u8 (ln n 3 : Nat)) (.int .u8 (ln n 4 : Nat)) (.int .u8 (ln n 5 : Nat)) (.int .u8 (ln n 6 : Nat)) (.int .u8 (ln n 7 : Nat)) wx).2.2.1
  have i3 := fun wx => (idx8u (.int .u8 (ln n 0 : Nat)) (.int .u8 (ln n 1 : Nat)) (.int .u8 (ln n 2 : Nat)) (.int .u8 (ln n 3 : Nat)) (.int .u8 (ln n 4 : Nat)) (.int .u8 (ln n 5 : Nat)) (.int .u8 (ln n 6 : Nat)) (.int .u8 (ln n 7 : Nat)) wx).2.2.2.1
  have i4 := fun wx => (idx8u (.int .u8 (ln n 0 : Nat)) (.int .u8 (ln n 1 : Nat)) (.int .u8 (ln n 2 : Nat)) (.int .u8 (ln n 3 : Nat)) (.int .u8 (ln n 4 : Nat)) (.int .u8 (ln n 5 : Nat)) (.int .u8 (ln n 6 : Nat)) (.int .u8 (ln n 7 : Nat)) wx).2.2.2.2.1
  have i5 := fun wx => (idx8u (.int .u8 (ln n 0 : Nat)) (.int .u8 (ln n 1 : Nat)) (.int .u8 (ln n 2 : Nat)) (.int .u8 (ln n 3 : Nat)) (.int .u8 (ln n 4 : Nat)) (.int .u8 (ln n 5 : Nat)) (.int .u8 (ln n 6 : Nat)) (.int .u8 (ln n 7 : Nat)) wx).2.2.2.2.2.1
  have i6 := fun wx => (idx8u (.int .u8 (ln n 0 : Nat)) (.int .u8 (ln n 1 : Nat)) (.int .u8 (ln n 2 : Nat)) (.int .u8 (ln n 3 : Nat)) (.int .u8 (ln n 4 : Nat)) (.int .u8 (ln n 5 : Nat)) (.int .u8 (ln n 6 : Nat)) (.int .u8 (ln n 7 : Nat)) wx).2.2.2.2.2.2.1
  have i7 := fun wx => (idx8u (.int .u8 (ln n 0 : Nat)) (.int .u8 (ln n 1 : Nat)) (.int .u8 (ln n 2 : Nat)) (.int .u8 (ln n 3 : Nat)) (.int .u8 (ln n 4 : Nat)) (.int .u8 (ln n 5 : Nat)) (.int .u8 (ln n 6 : Nat)) (.int .u8 (ln n 7 : Nat)) wx).2.2.2.2.2.2.2
  go_enter Tryd.func9, Tryd.ntmps9
  go_wp2_with (go_at_call 10; refine (ref_lanes_at n hn _).mono ?_; rintro e w' ⟨rfl, rfl⟩)
  refine wp_loop_rounds 9 ?_
  iterate 9 (rw [rounds_succ]; go_wp2)
  refine bodyPost_ret (v := bagg8 (((ln n 0 : Nat) : Int) == (b : Int)) (((ln n 1 : Nat) : Int) == (b : Int)) (((ln n 2 : Nat) : Int) == (b : Int)) (((ln n 3 : Nat) : Int) == (b : Int)) (((ln n 4 : Nat) : Int) == (b : Int)) (((ln n 5 : Nat) : Int) == (b : Int)) (((ln n 6 : Nat) : Int) == (b : Int)) (((ln n 7 : Nat) : Int) == (b : Int))) ?_ rfl ⟨rfl, ?_⟩
  · simp [results, Tryd.results9, go_sem]
  · repeat (first | exact Below.refl _ _ | refine Below.alloc ?_ (by simp; try omega) _)
/-- a lane of a mask that is made as far as k -/
def mkb (p : Bool) (i k : Nat) : Nat := if p = true ∧ i < k then 128 else 0
theorem mkb_lt (p : Bool) (i k : Nat) : mkb p i k < 256 := if_lt _
theorem mkb_0 (p : Bool) (i : Nat) : mkb p i 0 = 0 := by simp [mkb]
theorem mkb_other (p : Bool) (i k : Nat) (h : i ≠ k) : mkb p i k = mkb p i (k + 1) := by
  unfold mkb
  have e : (p = true ∧ i < k) = (p = true ∧ i < k + 1) := by apply propext; constructor <;> (rintro ⟨a, b⟩; exact ⟨a, by omega⟩)
  simp only [e]
theorem mkb_yes (k : Nat) : mkb true k (k + 1) = 128 := by simp [mkb]
theorem mkb_no (k j : Nat) : mkb false k j = 0 := by simp [mkb]
theorem mkb_all (p : Bool) (i : Nat) (h : i < 8) : mkb p i 8 = (if p = true then 128 else 0) := by
  unfold mkb; by_cases hp : p = true <;> simp [hp, h]
theorem cases9 {k : Nat} (h : k ≤ 8) : k = 0 ∨ k = 1 ∨ k = 2 ∨ k = 3 ∨ k = 4 ∨ k = 5 ∨ k = 6 ∨ k = 7 ∨ k = 8 := by omega
/-- the mask of eight marks -/
def maskN (p0 p1 p2 p3 p4 p5 p6 p7 : Bool) : Nat := pk8 (if p0 = true then 128 else 0) (if p1 = true then 128 else 0) (if p2 = true then 128 else 0) (if p3 = true then 128 else 0) (if p4 = true then 128 else 0) (if p5 = true then 128 else 0) (if p6 = true then 128 else 0) (if p7 = true then 128 else 0)
set_option maxHeartbeats 2000000 in
theorem ref_mask (p0 p1 p2 p3 p4 p5 p6 p7 : Bool) (w : World) :
    Calls Tryd.prog 8 #[bagg8 p0 p1 p2 p3 p4 p5 p6 p7] w fun e w' => e = .returned (.int .u64 (maskN p0 p1 p2 p3 p4 p5 p6 p7 : Nat)) ∧ Below w.heap.size w w' := by
  unfold bagg8
  have i0 := fun wx => (idx8b (.bool p0) (.bool p1) (.bool p2) (.bool p3) (.bool p4) (.bool p5) (.bool p6) (.bool p7) wx).1
  have i1 := fun wx => (idx8b (.bool p0) (.bool p1) (.bool p2) (.bool p3) (.bool p4) (.bool p5) (.bool p6) (.bool p7) wx).2.1
  have i2 := fun wx => (idx8b (.bool p0) (.bool p1) (.bool p2) (.bool p3) (.bool p4) (.bool p5) (.bool p6) (.bool p7) wx).2.2.1
  have i3 := fun wx => (idx8b (.bool p0) (.bool p1) (.bool p2) (.bool p3) (.bool p4) (.bool p5) (.bool p6) (.bool p7) wx).2.2.2.1
  have i4 := fun wx => (idx8b (.bool p0) (.bool p1) (.bool p2) (.bool p3) (.bool p4) (.bool p5) (.bool p6) (.bool p7) wx).2.2.2.2.1
  have i5 := fun wx => (idx8b (.bool p0) (.bool p1) (.bool p2) (.bool p3) (.bool p4) (.bool p5) (.bool p6) (.bool p7) wx).2.2.2.2.2.1
  have i6 := fun wx => (idx8b (.bool p0) (.bool p1) (.bool p2) (.bool p3) (.bool p4) (.bool p5) (.bool p6) (.bool p7) wx).2.2.2.2.2.2.1
  have i7 := fun wx => (idx8b (.bool p0) (.bool p1) (.bool p2) (.bool p3) (.bool p4) (.bool p5) (.bool p6) (.bool p7) wx).2.2.2.2.2.2.2
  go_enter Tryd.func8, Tryd.ntmps8
  go_wp2
  go_loopw [8] (fun i wr => ∃ k : Nat, k ≤ 8 ∧ i = .int .i64 k ∧ wr = (w.alloc (.cells #[.bool p0, .bool p1, .bool p2, .bool p3, .bool p4, .bool p5, .bool p6, .bool p7] 26)).alloc (.cells #[.int .u8 (mkb p0 0 k : Nat), .int .u8 (mkb p1 1 k : Nat), .int .u8 (mkb p2 2 k : Nat), .int .u8 (mkb p3 3 k : Nat), .int .u8 (mkb p4 4 k : Nat), .int .u8 (mkb p5 5 k : Nat), .int .u8 (mkb p6 6 k : Nat), .int .u8 (mkb p7 7 k : Nat)] 28))
    (fun i _ => 8 - (intOf i).toNat)
  case atStart => exact ⟨0, by omega, rfl, by simp only [mkb_0]; rfl⟩
  case round =>
    obtain ⟨k, hk, rfl, rfl⟩ := hrel
    rcases cases9 hk with rfl | rfl | rfl | rfl | rfl | rfl | rfl | rfl | rfl
    · cases p0
      · go_wp2
        go_roundw
        case rel => exact ⟨1, by omega, rfl, by simp only [mkb_no, mkb_other p1 1 0 (by decide), mkb_other p2 2 0 (by decide), mkb_other p3 3 0 (by decide), mkb_other p4 4 0 (by decide), mkb_other p5 5 0 (by decide), mkb_other p6 6 0 (by decide), mkb_other p7 7 0 (by decide)]⟩
        case measure => simp [intOf]
      · go_wp2
        go_roundw
        case rel => exact ⟨1, by omega, rfl, by simp only [mkb_yes, mkb_other p1 1 0 (by decide), mkb_other p2 2 0 (by decide), mkb_other p3 3 0 (by decide), mkb_other p4 4 0 (by decide), mkb_other p5 5 0 (by decide), mkb_other p6 6 0 (by decide), mkb_other p7 7 0 (by decide)]; rfl⟩
        case measure => simp [intOf]
    · cases p1
      · go_wp2
        go_roundw
        case rel => exact ⟨2, by omega, rfl, by simp only [mkb_no, mkb_other p0 0 1 (by decide), mkb_other p2 2 1 (by decide), mkb_other p3 3 1 (by decide), mkb_other p4 4 1 (by decide), mkb_other p5 5 1 (by decide), mkb_other p6 6 1 (by decide), mkb_other p7 7 1 (by decide)]⟩
        case measure => simp [intOf]
      · go_wp2
        go_roundw
        case rel => exact ⟨2, by omega, rfl, by simp only [mkb_yes, mkb_other p0 0 1 (by decide), mkb_other p2 2 1 (by decide), mkb_other p3 3 1 (by decide), mkb_other p4 4 1 (by decide), mkb_other p5 5 1 (by decide), mkb_other p6 6 1 (by decide), mkb_other p7 7 1 (by decide)]; rfl⟩
        case measure => simp [intOf]
    · cases p2
      · go_wp2
        go_roundw
        case rel => exact ⟨3, by omega, rfl, by simp only [mkb_no, mkb_other p0 0 2 (by decide), mkb_other p1 1 2 (by decide), mkb_other p3 3 2 (by decide), mkb_other p4 4 2 (by decide), mkb_other p5 5 2 (by decide), mkb_other p6 6 2 (by decide), mkb_other p7 7 2 (by decide)]⟩
        case measure => simp [intOf]
      · go_wp2
        go_roundw
        case rel => exact ⟨3, by omega, rfl, by simp only [mkb_yes, mkb_other p0 0 2 (by decide), mkb_other p1 1 2 (by decide), mkb_other p3 3 2 (by decide), mkb_other p4 4 2 (by decide), mkb_other p5 5 2 (by decide), mkb_other p6 6 2 (by decide), mkb_other p7 7 2 (by decide)]; rfl⟩
        case measure => simp [intOf]
    · cases p3
      · go_wp2
        go_roundw
        case rel => exact ⟨4, by omega, rfl, by simp only [mkb_no, mkb_other p0 0 3 (by decide), mkb_other p1 1 3 (by decide), mkb_other p2 2 3 (by decide), mkb_other p4 4 3 (by decide), mkb_other p5 5 3 (by decide), mkb_other p6 6 3 (by decide), mkb_other p7 7 3 (by decide)]⟩
        case measure => simp [intOf]
      · go_wp2
        go_roundw
        case rel => exact ⟨4, by omega, rfl, by simp only [mkb_yes, mkb_other p0 0 3 (by decide), mkb_other p1 1 3 (by decide), mkb_other p2 2 3 (by decide), mkb_other p4 4 3 (by decide), mkb_other p5 5 3 (by decide), mkb_other p6 6 3 (by decide), mkb_other p7 7 3 (by decide)]; rfl⟩
        case measure => simp [intOf]
    · cases p4
      · go_wp2
        go_roundw
        case rel => exact ⟨5, by omega, rfl, by simp only [mkb_no, mkb_other p0 0 4 (by decide), mkb_other p1 1 4 (by decide), mkb_other p2 2 4 (by decide), mkb_other p3 3 4 (by decide), mkb_other p5 5 4 (by decide), mkb_other p6 6 4 (by decide), mkb_other p7 7 4 (by decide)]⟩
        case measure => simp [intOf]
      · go_wp2
        go_roundw
        case rel => exact ⟨5, by omega, rfl, by simp only [mkb_yes, mkb_other p0 0 4 (by decide), mkb_other p1 1 4 (by decide), mkb_other p2 2 4 (by decide), mkb_other p3 3 4 (by decide), mkb_other p5 5 4 (by decide), mkb_other p6 6 4 (by decide), mkb_other p7 7 4 (by decide)]; rfl⟩
        case measure => simp [intOf]
    · cases p5
      · go_wp2
        go_roundw
        case rel => exact ⟨6, by omega, rfl, by simp only [mkb_no, mkb_other p0 0 5 (by decide), mkb_other p1 1 5 (by decide), mkb_other p2 2 5 (by decide), mkb_other p3 3 5 (by decide), mkb_other p4 4 5 (by decide), mkb_other p6 6 5 (by decide), mkb_other p7 7 5 (by decide)]⟩
        case measure => simp [intOf]
      · go_wp2
        go_roundw
        case rel => exact ⟨6, by omega, rfl, by simp only [mkb_yes, mkb_other p0 0 5 (by decide), mkb_other p1 1 5 (by decide), mkb_other p2 2 5 (by decide), mkb_other p3 3 5 (by decide), mkb_other p4 4 5 (by decide), mkb_other p6 6 5 (by decide), mkb_other p7 7 5 (by decide)]; rfl⟩
        case measure => simp [intOf]
    · cases p6
      · go_wp2
        go_roundw
        case rel => exact ⟨7, by omega, rfl, by simp only [mkb_no, mkb_other p0 0 6 (by decide), mkb_other p1 1 6 (by decide), mkb_other p2 2 6 (by decide), mkb_other p3 3 6 (by decide), mkb_other p4 4 6 (by decide), mkb_other p5 5 6 (by decide), mkb_other p7 7 6 (by decide)]⟩
        case measure => simp [intOf]
      · go_wp2
        go_roundw
        case rel => exact ⟨7, by omega, rfl, by simp only [mkb_yes, mkb_other p0 0 6 (by decide), mkb_other p1 1 6 (by decide), mkb_other p2 2 6 (by decide), mkb_other p3 3 6 (by decide), mkb_other p4 4 6 (by decide), mkb_other p5 5 6 (by decide), mkb_other p7 7 6 (by decide)]; rfl⟩
        case measure => simp [intOf]
    · cases p7
      · go_wp2
        go_roundw
        case rel => exact ⟨8, by omega, rfl, by simp only [mkb_no, mkb_other p0 0 7 (by decide), mkb_other p1 1 7 (by decide), mkb_other p2 2 7 (by decide), mkb_other p3 3 7 (by decide), mkb_other p4 4 7 (by decide), mkb_other p5 5 7 (by decide), mkb_other p6 6 7 (by decide)]⟩
        case measure => simp [intOf]
      · go_wp2
        go_roundw
        case rel => exact ⟨8, by omega, rfl, by simp only [mkb_yes, mkb_other p0 0 7 (by decide), mkb_other p1 1 7 (by decide), mkb_other p2 2 7 (by decide), mkb_other p3 3 7 (by decide), mkb_other p4 4 7 (by decide), mkb_other p5 5 7 (by decide), mkb_other p6 6 7 (by decide)]; rfl⟩
        case measure => simp [intOf]
    · go_wp2_with (go_at_call 28; refine (word_any _ _ _ _ _ _ _ _ (mkb_lt _ _ _) (mkb_lt _ _ _) (mkb_lt _ _ _) (mkb_lt _ _ _) (mkb_lt _ _ _) (mkb_lt _ _ _) (mkb_lt _ _ _) (mkb_lt _ _ _) _).mono ?_; rintro e w2 ⟨rfl, hb2⟩)
      go_ret
      refine ⟨ret_int ?_, below_step (((Below.refl _ w).alloc (Nat.le_refl _) _).alloc (by simp) _) hb2⟩
      unfold maskN
      rw [mkb_all p0 0 (by decide), mkb_all p1 1 (by decide), mkb_all p2 2 (by decide), mkb_all p3 3 (by decide), mkb_all p4 4 (by decide), mkb_all p5 5 (by decide), mkb_all p6 6 (by decide), mkb_all p7 7 (by decide)]
end Go.Proofs.YtfnfdofenaegpaaDoor.swar
