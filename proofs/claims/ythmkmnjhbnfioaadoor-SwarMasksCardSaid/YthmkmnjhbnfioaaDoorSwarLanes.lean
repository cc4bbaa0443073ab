/- SwarLanes: the walk. -/
import Derived.Test.YthmkmnjhbnfioaaDoorSwarFns
import Derived.Deep.RegionHeld3
namespace Go.Proofs.YthmkmnjhbnfioaaDoor.swar
open Go.ChangeShapes Go.WideShapes Go.ChangeAt Go.RowKit

theorem alive_any (w : World) (hT : TabOk w) :
    Calls Tryd.prog 7 #[] w fun e w' => e = .returned (.bool true) ∧ w = w' := by
  have e1 : eqM (pk8 65 65 65 65 65 65 65 65) 65 = 9259542123273814144 := by decide
  have e2 : firstI 32768 = 1 := by decide
  have c1 := fun w1 => equal_any (pk8 65 65 65 65 65 65 65 65) 65 (by decide) (by decide) w1
  have c2 := first_any 32768 (by decide) w hT
  rw [e1] at c1; rw [e2] at c2
  have C1 := Lib.hid c1; have C2 := Lib.hid c2
  clear c1 c2 e1 e2 hT
  go_enter Tryd.func7, Tryd.ntmps7
  go_wp2_with (first | (go_at_call 12; refine (repeat_any 65 (by decide) _).mono ?_; rintro e w' ⟨rfl, rfl⟩) | (go_at_call 17; refine (C1.out _).mono ?_; rintro e w' ⟨rfl, rfl⟩) | (go_at_call 21; refine C2.out.mono ?_; rintro e w' ⟨rfl, rfl⟩))
  go_ret
  exact ⟨rfl, rfl⟩

/-- Word of a word's own lanes, and of its lanes with another byte in one -/
theorem word_at (m a0 a1 a2 a3 a4 a5 a6 a7 : Nat) (hm : pk8 a0 a1 a2 a3 a4 a5 a6 a7 = m) (h0 : a0 < 256) (h1 : a1 < 256) (h2 : a2 < 256) (h3 : a3 < 256) (h4 : a4 < 256) (h5 : a5 < 256) (h6 : a6 < 256) (h7 : a7 < 256) (w : World) :
    Calls Tryd.prog 11 #[agg8 a0 a1 a2 a3 a4 a5 a6 a7] w fun e w' => e = .returned (.int .u64 (m : Nat)) ∧ Below w.heap.size w w' := by
  subst hm; exact word_any a0 a1 a2 a3 a4 a5 a6 a7 h0 h1 h2 h3 h4 h5 h6 h7 w
theorem word_lanes (n : Nat) (hn : n < 18446744073709551616) (w : World) :
    Calls Tryd.prog 11 #[lanes8 n] w fun e w' => e = .returned (.int .u64 n) ∧ Below w.heap.size w w' :=
  word_at n _ _ _ _ _ _ _ _ (pk8_ln n hn) (ln_lt _ _) (ln_lt _ _) (ln_lt _ _) (ln_lt _ _) (ln_lt _ _) (ln_lt _ _) (ln_lt _ _) (ln_lt _ _) w
theorem below_step {w W W' : World} (h : Below w.heap.size w W) (h' : Below W.heap.size W W') : Below w.heap.size w W' := h.trans (h'.mono h.size)
/-- what is behind a call that makes memory alone -/
theorem kept {W W' : World} {B a0 a1 a2 a3 a4 a5 a6 a7 b : Nat} (hb : Below W.heap.size W W') (h : W.cell? ⟨B, 0, none⟩ = some (.int .u8 (a0 : Nat)) ∧ W.cell? ⟨B, 1, none⟩ = some (.int .u8 (a1 : Nat)) ∧ W.cell? ⟨B, 2, none⟩ = some (.int .u8 (a2 : Nat)) ∧ W.cell? ⟨B, 3, none⟩ = some (.int .u8 (a3 : Nat)) ∧ W.cell? ⟨B, 4, none⟩ = some (.int .u8 (a4 : Nat)) ∧ W.cell? ⟨B, 5, none⟩ = some (.int .u8 (a5 : Nat)) ∧ W.cell? ⟨B, 6, none⟩ = some (.int .u8 (a6 : Nat)) ∧ W.cell? ⟨B, 7, none⟩ = some (.int .u8 (a7 : Nat)) ∧ W.cell? ⟨B + 1, 0, none⟩ = some (.int .u8 b) ∧ W.cell? ⟨B + 1, 1, none⟩ = some (.int .u8 b) ∧ W.cell? ⟨B + 1, 2, none⟩ = some (.int .u8 b) ∧ W.cell? ⟨B + 1, 3, none⟩ = some (.int .u8 b) ∧ W.cell? ⟨B + 1, 4, none⟩ = some (.int .u8 b) ∧ W.cell? ⟨B + 1, 5, none⟩ = some (.int .u8 b) ∧ W.cell? ⟨B + 1, 6, none⟩ = some (.int .u8 b) ∧ W.cell? ⟨B + 1, 7, none⟩ = some (.int .u8 b) ∧ B + 1 < W.heap.size) :
    W'.cell? ⟨B, 0, none⟩ = some (.int .u8 (a0 : Nat)) ∧ W'.cell? ⟨B, 1, none⟩ = some (.int .u8 (a1 : Nat)) ∧ W'.cell? ⟨B, 2, none⟩ = some (.int .u8 (a2 : Nat)) ∧ W'.cell? ⟨B, 3, none⟩ = some (.int .u8 (a3 : Nat)) ∧ W'.cell? ⟨B, 4, none⟩ = some (.int .u8 (a4 : Nat)) ∧ W'.cell? ⟨B, 5, none⟩ = some (.int .u8 (a5 : Nat)) ∧ W'.cell? ⟨B, 6, none⟩ = some (.int .u8 (a6 : Nat)) ∧ W'.cell? ⟨B, 7, none⟩ = some (.int .u8 (a7 : Nat)) ∧ W'.cell? ⟨B + 1, 0, none⟩ = some (.int .u8 b) ∧ W'.cell? ⟨B + 1, 1, none⟩ = some (.int .u8 b) ∧ W'.cell? ⟨B + 1, 2, none⟩ = some (.int .u8 b) ∧ W'.cell? ⟨B + 1, 3, none⟩ = some (.int .u8 b) ∧ W'.cell? ⟨B + 1, 4, none⟩ = some (.int .u8 b) ∧ W'.cell? ⟨B + 1, 5, none⟩ = some (.int .u8 b) ∧ W'.cell? ⟨B + 1, 6, none⟩ = some (.int .u8 b) ∧ W'.cell? ⟨B + 1, 7, none⟩ = some (.int .u8 b) ∧ B + 1 < W'.heap.size := by
  obtain ⟨p0, p1, p2, p3, p4, p5, p6, p7, q0, q1, q2, q3, q4, q5, q6, q7, hs⟩ := h
  have hz := hb.size
  exact ⟨(hb.cell (p := ⟨B, 0, none⟩) (by simp; omega)).trans p0, (hb.cell (p := ⟨B, 1, none⟩) (by simp; omega)).trans p1, (hb.cell (p := ⟨B, 2, none⟩) (by simp; omega)).trans p2, (hb.cell (p := ⟨B, 3, none⟩) (by simp; omega)).trans p3, (hb.cell (p := ⟨B, 4, none⟩) (by simp; omega)).trans p4, (hb.cell (p := ⟨B, 5, none⟩) (by simp; omega)).trans p5, (hb.cell (p := ⟨B, 6, none⟩) (by simp; omega)).trans p6, (hb.cell (p := ⟨B, 7, none⟩) (by simp; omega)).trans p7, (hb.cell (p := ⟨B + 1, 0, none⟩) (by simp; omega)).trans q0, (hb.cell (p := ⟨B + 1, 1, none⟩) (by simp; omega)).trans q1, (hb.cell (p := ⟨B + 1, 2, none⟩) (by simp; omega)).trans q2, (hb.cell (p := ⟨B + 1, 3, none⟩) (by simp; omega)).trans q3, (hb.cell (p := ⟨B + 1, 4, none⟩) (by simp; omega)).trans q4, (hb.cell (p := ⟨B + 1, 5, none⟩) (by simp; omega)).trans q5, (hb.cell (p := ⟨B + 1, 6, none⟩) (by simp; omega)).trans q6, (hb.cell (p := ⟨B + 1, 7, none⟩) (by simp; omega)).trans q7, by omega⟩
set_option maxHeartbeats 1000000 in
theorem law_neg (n b : Nat) (i : Int) (hn : n < 18446744073709551616) (hb : b < 256) (hi : i < 0) (w : World) (hT : TabOk w) :
    Calls Tryd.prog 3 #[.int .u64 n, .int .i64 i, .int .u8 b] w fun e w' => e = .returned (.bool true) ∧ Below w.heap.size w w' := by
  have HA := Lib.hid (alive_any w hT)
  have heq := fun wx => eq_same8 (ln n 0) (ln n 1) (ln n 2) (ln n 3) (ln n 4) (ln n 5) (ln n 6) (ln n 7) wx
  clear hT
  go_enter Tryd.func3, Tryd.ntmps3
  go_wp2_with (first | (go_at_call 7; refine HA.out.mono ?_; rintro e w' ⟨rfl, rfl⟩) | (go_at_call 8; refine (ref_lanes _ hn _).mono ?_; rintro e w1 ⟨rfl, hb1⟩) | (go_at_call 9; refine (lane_no _ _ (.inl hi) _).mono ?_; rintro e w' ⟨rfl, rfl⟩))
  go_region_held3 (fun w' => w'.cell? ⟨w1.heap.size, 0, none⟩ = some (.int .u8 (ln n 0 : Nat)) ∧ w'.cell? ⟨w1.heap.size, 1, none⟩ = some (.int .u8 (ln n 1 : Nat)) ∧ w'.cell? ⟨w1.heap.size, 2, none⟩ = some (.int .u8 (ln n 2 : Nat)) ∧ w'.cell? ⟨w1.heap.size, 3, none⟩ = some (.int .u8 (ln n 3 : Nat)) ∧ w'.cell? ⟨w1.heap.size, 4, none⟩ = some (.int .u8 (ln n 4 : Nat)) ∧ w'.cell? ⟨w1.heap.size, 5, none⟩ = some (.int .u8 (ln n 5 : Nat)) ∧ w'.cell? ⟨w1.heap.size, 6, none⟩ = some (.int .u8 (ln n 6 : Nat)) ∧ w'.cell? ⟨w1.heap.size, 7, none⟩ = some (.int .u8 (ln n 7 : Nat)) ∧ w'.cell? ⟨w1.heap.size + 1, 0, none⟩ = some (.int .u8 (b : Nat)) ∧ w'.cell? ⟨w1.heap.size + 1, 1, none⟩ = some (.int .u8 (b : Nat)) ∧ w'.cell? ⟨w1.heap.size + 1, 2, none⟩ = some (.int .u8 (b : Nat)) ∧ w'.cell? ⟨w1.heap.size + 1, 3, none⟩ = some (.int .u8 (b : Nat)) ∧ w'.cell? ⟨w1.heap.size + 1, 4, none⟩ = some (.int .u8 (b : Nat)) ∧ w'.cell? ⟨w1.heap.size + 1, 5, none⟩ = some (.int .u8 (b : Nat)) ∧ w'.cell? ⟨w1.heap.size + 1, 6, none⟩ = some (.int .u8 (b : Nat)) ∧ w'.cell? ⟨w1.heap.size + 1, 7, none⟩ = some (.int .u8 (b : Nat)) ∧ w1.heap.size + 1 < w'.heap.size)
    (first | go_keep | (go_split_ands; exact kept hbx (by refine ⟨?_, ?_, ?_, ?_, ?_, ?_, ?_, ?_, ?_, ?_, ?_, ?_, ?_, ?_, ?_, ?_, ?_⟩ <;> assumption)))
    (first | (go_at_call 10; refine (with_no _ _ _ (.inl hi) _).mono ?_; rintro e w' ⟨rfl, q, rfl⟩)
           | (go_at_call 11; (with_reducible refine (word_lanes n hn _).mono ?_); rintro e w' ⟨rfl, hbx⟩)
           | (go_at_call 11; (with_reducible refine (word_any _ _ _ _ _ _ _ _ hb hb hb hb hb hb hb hb _).mono ?_); rintro e w' ⟨rfl, hbx⟩)
           | (go_at_call 12; refine (repeat_any _ hb _).mono ?_; rintro e w' ⟨rfl, rfl⟩)
           | (go_at_call 13; refine (unfold_any _ hn _).mono ?_; rintro e w' ⟨rfl, hbx⟩)
           | (go_at_call 8; refine (ref_lanes _ hn _).mono ?_; rintro e w' ⟨rfl, hbx⟩))
  go_wp2
  go_ret
  refine ⟨rfl, ?_⟩
  refine below_step ?_ (by assumption)
  refine below_step ?_ (by assumption)
  refine below_step ?_ (by assumption)
  refine below_step ?_ (by assumption)
  exact below_drewN ((hb1.alloc hb1.size _).alloc (by have := hb1.size; simp; omega) _) _
set_option maxHeartbeats 1000000 in
theorem law_big (n b : Nat) (i : Int) (hn : n < 18446744073709551616) (hb : b < 256) (hi : 8 ≤ i) (w : World) (hT : TabOk w) :
    Calls Tryd.prog 3 #[.int .u64 n, .int .i64 i, .int .u8 b] w fun e w' => e = .returned (.bool true) ∧ Below w.heap.size w w' := by
  have HA := Lib.hid (alive_any w hT)
  have heq := fun wx => eq_same8 (ln n 0) (ln n 1) (ln n 2) (ln n 3) (ln n 4) (ln n 5) (ln n 6) (ln n 7) wx
  have hd1 : decide (i < 8) = false := by simp; omega
  have hd2 : decide (0 ≤ i) = true := by simp; omega
  clear hT
  go_enter Tryd.func3, Tryd.ntmps3
  go_wp2_with (first | (go_at_call 7; refine HA.out.mono ?_; rintro e w' ⟨rfl, rfl⟩) | (go_at_call 8; refine (ref_lanes _ hn _).mono ?_; rintro e w1 ⟨rfl, hb1⟩) | (go_at_call 9; refine (lane_no _ _ (.inr hi) _).mono ?_; rintro e w' ⟨rfl, rfl⟩))
  go_region_held3 (fun w' => w'.cell? ⟨w1.heap.size, 0, none⟩ = some (.int .u8 (ln n 0 : Nat)) ∧ w'.cell? ⟨w1.heap.size, 1, none⟩ = some (.int .u8 (ln n 1 : Nat)) ∧ w'.cell? ⟨w1.heap.size, 2, none⟩ = some (.int .u8 (ln n 2 : Nat)) ∧ w'.cell? ⟨w1.heap.size, 3, none⟩ = some (.int .u8 (ln n 3 : Nat)) ∧ w'.cell? ⟨w1.heap.size, 4, none⟩ = some (.int .u8 (ln n 4 : Nat)) ∧ w'.cell? ⟨w1.heap.size, 5, none⟩ = some (.int .u8 (ln n 5 : Nat)) ∧ w'.cell? ⟨w1.heap.size, 6, none⟩ = some (.int .u8 (ln n 6 : Nat)) ∧ w'.cell? ⟨w1.heap.size, 7, none⟩ = some (.int .u8 (ln n 7 : Nat)) ∧ w'.cell? ⟨w1.heap.size + 1, 0, none⟩ = some (.int .u8 (b : Nat)) ∧ w'.cell? ⟨w1.heap.size + 1, 1, none⟩ = some (.int .u8 (b : Nat)) ∧ w'.cell? ⟨w1.heap.size + 1, 2, none⟩ = some (.int .u8 (b : Nat)) ∧ w'.cell? ⟨w1.heap.size + 1, 3, none⟩ = some (.int .u8 (b : Nat)) ∧ w'.cell? ⟨w1.heap.size + 1, 4, none⟩ = some (.int .u8 (b : Nat)) ∧ w'.cell? ⟨w1.heap.size + 1, 5, none⟩ = some (.int .u8 (b : Nat)) ∧ w'.cell? ⟨w1.heap.size + 1, 6, none⟩ = some (.int .u8 (b : Nat)) ∧ w'.cell? ⟨w1.heap.size + 1, 7, none⟩ = some (.int .u8 (b : Nat)) ∧ w1.heap.size + 1 < w'.heap.size)
    (first | go_keep | (go_split_ands; exact kept hbx (by refine ⟨?_, ?_, ?_, ?_, ?_, ?_, ?_, ?_, ?_, ?_, ?_, ?_, ?_, ?_, ?_, ?_, ?_⟩ <;> assumption)))
    (first | (go_at_call 10; refine (with_no _ _ _ (.inr hi) _).mono ?_; rintro e w' ⟨rfl, q, rfl⟩)
           | (go_at_call 11; (with_reducible refine (word_lanes n hn _).mono ?_); rintro e w' ⟨rfl, hbx⟩)
           | (go_at_call 11; (with_reducible refine (word_any _ _ _ _ _ _ _ _ hb hb hb hb hb hb hb hb _).mono ?_); rintro e w' ⟨rfl, hbx⟩)
           | (go_at_call 12; refine (repeat_any _ hb _).mono ?_; rintro e w' ⟨rfl, rfl⟩)
           | (go_at_call 13; refine (unfold_any _ hn _).mono ?_; rintro e w' ⟨rfl, hbx⟩)
           | (go_at_call 8; refine (ref_lanes _ hn _).mono ?_; rintro e w' ⟨rfl, hbx⟩))
  go_wp2
  go_ret
  refine ⟨rfl, ?_⟩
  refine below_step ?_ (by assumption)
  refine below_step ?_ (by assumption)
  refine below_step ?_ (by assumption)
  refine below_step ?_ (by assumption)
  exact below_drewN ((hb1.alloc hb1.size _).alloc (by have := hb1.size; simp; omega) _) _
theorem word_with0 (n b : Nat) (hb : b < 256) (w : World) :
    Calls Tryd.prog 11 #[agg8 (b) (ln n 1) (ln n 2) (ln n 3) (ln n 4) (ln n 5) (ln n 6) (ln n 7)] w fun e w' => e = .returned (.int .u64 (withL n 0 b : Nat)) ∧ Below w.heap.size w w' :=
  word_at _ _ _ _ _ _ _ _ _ (by simp [withL]) hb (ln_lt _ _) (ln_lt _ _) (ln_lt _ _) (ln_lt _ _) (ln_lt _ _) (ln_lt _ _) (ln_lt _ _) w
set_option maxHeartbeats 1000000 in
theorem law_at0 (n b : Nat) (hn : n < 18446744073709551616) (hb : b < 256) (w : World) (hT : TabOk w) :
    Calls Tryd.prog 3 #[.int .u64 n, .int .i64 0, .int .u8 b] w fun e w' => e = .returned (.bool true) ∧ Below w.heap.size w w' := by
  have HA := Lib.hid (alive_any w hT)
  have heq := fun wx => eq_same8 (ln n 0) (ln n 1) (ln n 2) (ln n 3) (ln n 4) (ln n 5) (ln n 6) (ln n 7) wx
  clear hT
  go_enter Tryd.func3, Tryd.ntmps3
  go_wp2_with (first | (go_at_call 7; refine HA.out.mono ?_; rintro e w' ⟨rfl, rfl⟩) | (go_at_call 8; refine (ref_lanes _ hn _).mono ?_; rintro e w1 ⟨rfl, hb1⟩) | (go_at_call 9; refine (lane_yes n 0 hn (by decide) _).mono ?_; rintro e w' ⟨rfl, rfl⟩))
  go_region_held3 (fun w' => w'.cell? ⟨w1.heap.size, 0, none⟩ = some (.int .u8 (b : Nat)) ∧ w'.cell? ⟨w1.heap.size, 1, none⟩ = some (.int .u8 (ln n 1 : Nat)) ∧ w'.cell? ⟨w1.heap.size, 2, none⟩ = some (.int .u8 (ln n 2 : Nat)) ∧ w'.cell? ⟨w1.heap.size, 3, none⟩ = some (.int .u8 (ln n 3 : Nat)) ∧ w'.cell? ⟨w1.heap.size, 4, none⟩ = some (.int .u8 (ln n 4 : Nat)) ∧ w'.cell? ⟨w1.heap.size, 5, none⟩ = some (.int .u8 (ln n 5 : Nat)) ∧ w'.cell? ⟨w1.heap.size, 6, none⟩ = some (.int .u8 (ln n 6 : Nat)) ∧ w'.cell? ⟨w1.heap.size, 7, none⟩ = some (.int .u8 (ln n 7 : Nat)) ∧ w'.cell? ⟨w1.heap.size + 1, 0, none⟩ = some (.int .u8 (b : Nat)) ∧ w'.cell? ⟨w1.heap.size + 1, 1, none⟩ = some (.int .u8 (b : Nat)) ∧ w'.cell? ⟨w1.heap.size + 1, 2, none⟩ = some (.int .u8 (b : Nat)) ∧ w'.cell? ⟨w1.heap.size + 1, 3, none⟩ = some (.int .u8 (b : Nat)) ∧ w'.cell? ⟨w1.heap.size + 1, 4, none⟩ = some (.int .u8 (b : Nat)) ∧ w'.cell? ⟨w1.heap.size + 1, 5, none⟩ = some (.int .u8 (b : Nat)) ∧ w'.cell? ⟨w1.heap.size + 1, 6, none⟩ = some (.int .u8 (b : Nat)) ∧ w'.cell? ⟨w1.heap.size + 1, 7, none⟩ = some (.int .u8 (b : Nat)) ∧ w1.heap.size + 1 < w'.heap.size)
    (first | go_keep | (go_split_ands; exact kept hbx (by refine ⟨?_, ?_, ?_, ?_, ?_, ?_, ?_, ?_, ?_, ?_, ?_, ?_, ?_, ?_, ?_, ?_, ?_⟩ <;> assumption)))
    (first | (go_at_call 10; refine (with_yes n b 0 hn hb (by decide) _).mono ?_; rintro e w' ⟨rfl, q, rfl⟩)
           | (go_at_call 11; (with_reducible refine (word_with0 n b hb _).mono ?_); rintro e w' ⟨rfl, hbx⟩)
           | (go_at_call 11; (with_reducible refine (word_any _ _ _ _ _ _ _ _ hb hb hb hb hb hb hb hb _).mono ?_); rintro e w' ⟨rfl, hbx⟩)
           | (go_at_call 12; refine (repeat_any _ hb _).mono ?_; rintro e w' ⟨rfl, rfl⟩)
           | (go_at_call 13; refine (unfold_any _ hn _).mono ?_; rintro e w' ⟨rfl, hbx⟩)
           | (go_at_call 8; refine (ref_lanes _ hn _).mono ?_; rintro e w' ⟨rfl, hbx⟩))
  go_wp2
  go_ret
  refine ⟨rfl, ?_⟩
  refine below_step ?_ (by assumption)
  refine below_step ?_ (by assumption)
  refine below_step ?_ (by assumption)
  refine below_step ?_ (by assumption)
  exact below_drewN ((hb1.alloc hb1.size _).alloc (by have := hb1.size; simp; omega) _) _
theorem word_with1 (n b : Nat) (hb : b < 256) (w : World) :
    Calls Tryd.prog 11 #[agg8 (ln n 0) (b) (ln n 2) (ln n 3) (ln n 4) (ln n 5) (ln n 6) (ln n 7)] w fun e w' => e = .returned (.int .u64 (withL n 1 b : Nat)) ∧ Below w.heap.size w w' :=
  word_at _ _ _ _ _ _ _ _ _ (by simp [withL]) (ln_lt _ _) hb (ln_lt _ _) (ln_lt _ _) (ln_lt _ _) (ln_lt _ _) (ln_lt _ _) (ln_lt _ _) w
set_option maxHeartbeats 1000000 in
theorem law_at1 (n b : Nat) (hn : n < 18446744073709551616) (hb : b < 256) (w : World) (hT : TabOk w) :
    Calls Tryd.prog 3 #[.int .u64 n, .int .i64 1, .int .u8 b] w fun e w' => e = .returned (.bool true) ∧ Below w.heap.size w w' := by
  have HA := Lib.hid (alive_any w hT)
  have heq := fun wx => eq_same8 (ln n 0) (ln n 1) (ln n 2) (ln n 3) (ln n 4) (ln n 5) (ln n 6) (ln n 7) wx
  clear hT
  go_enter Tryd.func3, Tryd.ntmps3
  go_wp2_with (first | (go_at_call 7; refine HA.out.mono ?_; rintro e w' ⟨rfl, rfl⟩) | (go_at_call 8; refine (ref_lanes _ hn _).mono ?_; rintro e w1 ⟨rfl, hb1⟩) | (go_at_call 9; refine (lane_yes n 1 hn (by decide) _).mono ?_; rintro e w' ⟨rfl, rfl⟩))
  go_region_held3 (fun w' => w'.cell? ⟨w1.heap.size, 0, none⟩ = some (.int .u8 (ln n 0 : Nat)) ∧ w'.cell? ⟨w1.heap.size, 1, none⟩ = some (.int .u8 (b : Nat)) ∧ w'.cell? ⟨w1.heap.size, 2, none⟩ = some (.int .u8 (ln n 2 : Nat)) ∧ w'.cell? ⟨w1.heap.size, 3, none⟩ = some (.int .u8 (ln n 3 : Nat)) ∧ w'.cell? ⟨w1.heap.size, 4, none⟩ = some (.int .u8 (ln n 4 : Nat)) ∧ w'.cell? ⟨w1.heap.size, 5, none⟩ = some (.int .u8 (ln n 5 : Nat)) ∧ w'.cell? ⟨w1.heap.size, 6, none⟩ = some (.int .u8 (ln n 6 : Nat)) ∧ w'.cell? ⟨w1.heap.size, 7, none⟩ = some (.int .u8 (ln n 7 : Nat)) ∧ w'.cell? ⟨w1.heap.size + 1, 0, none⟩ = some (.int .u8 (b : Nat)) ∧ w'.cell? ⟨w1.heap.size + 1, 1, none⟩ = some (.int .u8 (b : Nat)) ∧ w'.cell? ⟨w1.heap.size + 1, 2, none⟩ = some (.int .u8 (b : Nat)) ∧ w'.cell? ⟨w1.heap.size + 1, 3, none⟩ = some (.int .u8 (b : Nat)) ∧ w'.cell? ⟨w1.heap.size + 1, 4, none⟩ = some (.int .u8 (b : Nat)) ∧ w'.cell? ⟨w1.heap.size + 1, 5, none⟩ = some (.int .u8 (b : Nat)) ∧ w'.cell? ⟨w1.heap.size + 1, 6, none⟩ = some (.int .u8 (b : Nat)) ∧ w'.cell? ⟨w1.heap.size + 1, 7, none⟩ = some (.int .u8 (b : Nat)) ∧ w1.heap.size + 1 < w'.heap.size)
    (first | go_keep | (go_split_ands; exact kept hbx (by refine ⟨?_, ?_, ?_, ?_, ?_, ?_, ?_, ?_, ?_, ?_, ?_, ?_, ?_, ?_, ?_, ?_, ?_⟩ <;> assumption)))
    (first | (go_at_call 10; refine (with_yes n b 1 hn hb (by decide) _).mono ?_; rintro e w' ⟨rfl, q, rfl⟩)
           | (go_at_call 11; (with_reducible refine (word_with1 n b hb _).mono ?_); rintro e w' ⟨rfl, hbx⟩)
           | (go_at_call 11; (with_reducible refine (word_any _ _ _ _ _ _ _ _ hb hb hb hb hb hb hb hb _).mono ?_); rintro e w' ⟨rfl, hbx⟩)
           | (go_at_call 12; refine (repeat_any _ hb _).mono ?_; rintro e w' ⟨rfl, rfl⟩)
           | (go_at_call 13; refine (unfold_any _ hn _).mono ?_; rintro e w' ⟨rfl, hbx⟩)
           | (go_at_call 8; refine (ref_lanes _ hn _).mono ?_; rintro e w' ⟨rfl, hbx⟩))
  go_wp2
  go_ret
  refine ⟨rfl, ?_⟩
  refine below_step ?_ (by assumption)
  refine below_step ?_ (by assumption)
  refine below_step ?_ (by assumption)
  refine below_step ?_ (by assumption)
  exact below_drewN ((hb1.alloc hb1.size _).alloc (by have := hb1.size; simp; omega) _) _
theorem word_with2 (n b : Nat) (hb : b < 256) (w : World) :
    Calls Tryd.prog 11 #[agg8 (ln n 0) (ln n 1) (b) (ln n 3) (ln n 4) (ln n 5) (ln n 6) (ln n 7)] w fun e w' => e = .returned (.int .u64 (withL n 2 b : Nat)) ∧ Below w.heap.size w w' :=
  word_at _ _ _ _ _ _ _ _ _ (by simp [withL]) (ln_lt _ _) (ln_lt _ _) hb (ln_lt _ _) (ln_lt _ _) (ln_lt _ _) (ln_lt _ _) (ln_lt _ _) w
set_option maxHeartbeats 1000000 in
theorem law_at2 (n b : Nat) (hn : n < 18446744073709551616) (hb : b < 256) (w : World) (hT : TabOk w) :
    Calls Tryd.prog 3 #[.int .u64 n, .int .i64 2, .int .u8 b] w fun e w' => e = .returned (.bool true) ∧ Below w.heap.size w w' := by
  have HA := Lib.hid (alive_any w hT)
  have heq := fun wx => eq_same8 (ln n 0) (ln n 1) (ln n 2) (ln n 3) (ln n 4) (ln n 5) (ln n 6) (ln n 7) wx
  clear hT
  go_enter Tryd.func3, Tryd.ntmps3
  go_wp2_with (first | (go_at_call 7; refine HA.out.mono ?_; rintro e w' ⟨rfl, rfl⟩) | (go_at_call 8; refine (ref_lanes _ hn _).mono ?_; rintro e w1 ⟨rfl, hb1⟩) | (go_at_call 9; refine (lane_yes n 2 hn (by decide) _).mono ?_; rintro e w' ⟨rfl, rfl⟩))
  go_region_held3 (fun w' => w'.cell? ⟨w1.heap.size, 0, none⟩ = some (.int .u8 (ln n 0 : Nat)) ∧ w'.cell? ⟨w1.heap.size, 1, none⟩ = some (.int .u8 (ln n 1 : Nat)) ∧ w'.cell? ⟨w1.heap.size, 2, none⟩ = some (.int .u8 (b : Nat)) ∧ w'.cell? ⟨w1.heap.size, 3, none⟩ = some (.int .u8 (ln n 3 : Nat)) ∧ w'.cell? ⟨w1.heap.size, 4, none⟩ = some (.int .u8 (ln n 4 : Nat)) ∧ w'.cell? ⟨w1.heap.size, 5, none⟩ = some (.int .u8 (ln n 5 : Nat)) ∧ w'.cell? ⟨w1.heap.size, 6, none⟩ = some (.int .u8 (ln n 6 : Nat)) ∧ w'.cell? ⟨w1.heap.size, 7, none⟩ = some (.int .u8 (ln n 7 : Nat)) ∧ w'.cell? ⟨w1.heap.size + 1, 0, none⟩ = some (.int .u8 (b : Nat)) ∧ w'.cell? ⟨w1.heap.size + 1, 1, none⟩ = some (.int .u8 (b : Nat)) ∧ w'.cell? ⟨w1.heap.size + 1, 2, none⟩ = some (.int .u8 (b : Nat)) ∧ w'.cell? ⟨w1.heap.size + 1, 3, none⟩ = some (.int .u8 (b : Nat)) ∧ w'.cell? ⟨w1.heap.size + 1, 4, none⟩ = some (.int .u8 (b : Nat)) ∧ w'.cell? ⟨w1.heap.size + 1, 5, none⟩ = some (.int .u8 (b : Nat)) ∧ w'.cell? ⟨w1.heap.size + 1, 6, none⟩ = some (.int .u8 (b : Nat)) ∧ w'.cell? ⟨w1.heap.size + 1, 7, none⟩ = some (.int .u8 (b : Nat)) ∧ w1.heap.size + 1 < w'.heap.size)
    (first | go_keep | (go_split_ands; exact kept hbx (by refine ⟨?_, ?_, ?_, ?_, ?_, ?_, ?_, ?_, ?_, ?_, ?_, ?_, ?_, ?_, ?_, ?_, ?_⟩ <;> assumption)))
    (first | (go_at_call 10; refine (with_yes n b 2 hn hb (by decide) _).mono ?_; rintro e w' ⟨rfl, q, rfl⟩)
           | (go_at_call 11; (with_reducible refine (word_with2 n b hb _).mono ?_); rintro e w' ⟨rfl, hbx⟩)
           | (go_at_call 11; (with_reducible refine (word_any _ _ _ _ _ _ _ _ hb hb hb hb hb hb hb hb _).mono ?_); rintro e w' ⟨rfl, hbx⟩)
           | (go_at_call 12; refine (repeat_any _ hb _).mono ?_; rintro e w' ⟨rfl, rfl⟩)
           | (go_at_call 13; refine (unfold_any _ hn _).mono ?_; rintro e w' ⟨rfl, hbx⟩)
           | (go_at_call 8; refine (ref_lanes _ hn _).mono ?_; rintro e w' ⟨rfl, hbx⟩))
  go_wp2
  go_ret
  refine ⟨rfl, ?_⟩
  refine below_step ?_ (by assumption)
  refine below_step ?_ (by assumption)
  refine below_step ?_ (by assumption)
  refine below_step ?_ (by assumption)
  exact below_drewN ((hb1.alloc hb1.size _).alloc (by have := hb1.size; simp; omega) _) _
theorem word_with3 (n b : Nat) (hb : b < 256) (w : World) :
    Calls Tryd.prog 11 #[agg8 (ln n 0) (ln n 1) (ln n 2) (b) (ln n 4) (ln n 5) (ln n 6) (ln n 7)] w fun e w' => e = .returned (.int .u64 (withL n 3 b : Nat)) ∧ Below w.heap.size w w' :=
  word_at _ _ _ _ _ _ _ _ _ (by simp [withL]) (ln_lt _ _) (ln_lt _ _) (ln_lt _ _) hb (ln_lt _ _) (ln_lt _ _) (ln_lt _ _) (ln_lt _ _) w
set_option maxHeartbeats 1000000 in
theorem law_at3 (n b : Nat) (hn : n < 18446744073709551616) (hb : b < 256) (w : World) (hT : TabOk w) :
    Calls Tryd.prog 3 #[.int .u64 n, .int .i64 3, .int .u8 b] w fun e w' => e = .returned (.bool true) ∧ Below w.heap.size w w' := by
  have HA := Lib.hid (alive_any w hT)
  have heq := fun wx => eq_same8 (ln n 0) (ln n 1) (ln n 2) (ln n 3) (ln n 4) (ln n 5) (ln n 6) (ln n 7) wx
  clear hT
  go_enter Tryd.func3, Tryd.ntmps3
  go_wp2_with (first | (go_at_call 7; refine HA.out.mono ?_; rintro e w' ⟨rfl, rfl⟩) | (go_at_call 8; refine (ref_lanes _ hn _).mono ?_; rintro e w1 ⟨rfl, hb1⟩) | (go_at_call 9; refine (lane_yes n 3 hn (by decide) _).mono ?_; rintro e w' ⟨rfl, rfl⟩))
  go_region_held3 (fun w' => w'.cell? ⟨w1.heap.size, 0, none⟩ = some (.int .u8 (ln n 0 : Nat)) ∧ w'.cell? ⟨w1.heap.size, 1, none⟩ = some (.int .u8 (ln n 1 : Nat)) ∧ w'.cell? ⟨w1.heap.size, 2, none⟩ = some (.int .u8 (ln n 2 : Nat)) ∧ w'.cell? ⟨w1.heap.size, 3, none⟩ = some (.int .u8 (b : Nat)) ∧ w'.cell? ⟨w1.heap.size, 4, none⟩ = some (.int .u8 (ln n 4 : Nat)) ∧ w'.cell? ⟨w1.heap.size, 5, none⟩ = some (.int .u8 (ln n 5 : Nat)) ∧ w'.cell? ⟨w1.heap.size, 6, none⟩ = some (.int .u8 (ln n 6 : Nat)) ∧ w'.cell? ⟨w1.heap.size, 7, none⟩ = some (.int .u8 (ln n 7 : Nat)) ∧ w'.cell? ⟨w1.heap.size + 1, 0, none⟩ = some (.int .u8 (b : Nat)) ∧ w'.cell? ⟨w1.heap.size + 1, 1, none⟩ = some (.int .u8 (b : Nat)) ∧ w'.cell? ⟨w1.heap.size + 1, 2, none⟩ = some (.int .u8 (b : Nat)) ∧ w'.cell? ⟨w1.heap.size + 1, 3, none⟩ = some (.int .u8 (b : Nat)) ∧ w'.cell? ⟨w1.heap.size + 1, 4, none⟩ = some (.int .u8 (b : Nat)) ∧ w'.cell? ⟨w1.heap.size + 1, 5, none⟩ = some (.int .u8 (b : Nat)) ∧ w'.cell? ⟨w1.heap.size + 1, 6, none⟩ = some (.int .u8 (b : Nat)) ∧ w'.cell? ⟨w1.heap.size + 1, 7, none⟩ = some (.int .u8 (b : Nat)) ∧ w1.heap.size + 1 < w'.heap.size)
    (first | go_keep | (go_split_ands; exact kept hbx (by refine ⟨?_, ?_, ?_, ?_, ?_, ?_, ?_, ?_, ?_, ?_, ?_, ?_, ?_, ?_, ?_, ?_, ?_⟩ <;> assumption)))
    (first | (go_at_call 10; refine (with_yes n b 3 hn hb (by decide) _).mono ?_; rintro e w' ⟨rfl, q, rfl⟩)
           | (go_at_call 11; (with_reducible refine (word_with3 n b hb _).mono ?_); rintro e w' ⟨rfl, hbx⟩)
           | (go_at_call 11; (with_reducible refine (word_any _ _ _ _ _ _ _ _ hb hb hb hb hb hb hb hb _).mono ?_); rintro e w' ⟨rfl, hbx⟩)
           | (go_at_call 12; refine (repeat_any _ hb _).mono ?_; rintro e w' ⟨rfl, rfl⟩)
           | (go_at_call 13; refine (unfold_any _ hn _).mono ?_; rintro e w' ⟨rfl, hbx⟩)
           | (go_at_call 8; refine (ref_lanes _ hn _).mono ?_; rintro e w' ⟨rfl, hbx⟩))
  go_wp2
  go_ret
  refine ⟨rfl, ?_⟩
  refine below_step ?_ (by assumption)
  refine below_step ?_ (by assumption)
  refine below_step ?_ (by assumption)
  refine below_step ?_ (by assumption)
  exact below_drewN ((hb1.alloc hb1.size _).alloc (by have := hb1.size; simp; omega) _) _
theorem word_with4 (n b : Nat) (hb : b < 256) (w : World) :
    Calls Tryd.prog 11 #[agg8 (ln n 0) (ln n 1) (ln n 2) (ln n 3) (b) (ln n 5) (ln n 6) (ln n 7)] w fun e w' => e = .returned (.int .u64 (withL n 4 b : Nat)) ∧ Below w.heap.size w w' :=
  word_at _ _ _ _ _ _ _ _ _ (by simp [withL]) (ln_lt _ _) (ln_lt _ _) (ln_lt _ _) (ln_lt _ _) hb (ln_lt _ _) (ln_lt _ _) (ln_lt _ _) w
set_option maxHeartbeats 1000000 in
theorem law_at4 (n b : Nat) (hn : n < 18446744073709551616) (hb : b < 256) (w : World) (hT : TabOk w) :
    Calls Tryd.prog 3 #[.int .u64 n, .int .i64 4, .int .u8 b] w fun e w' => e = .returned (.bool true) ∧ Below w.heap.size w w' := by
  have HA := Lib.hid (alive_any w hT)
  have heq := fun wx => eq_same8 (ln n 0) (ln n 1) (ln n 2) (ln n 3) (ln n 4) (ln n 5) (ln n 6) (ln n 7) wx
  clear hT
  go_enter Tryd.func3, Tryd.ntmps3
  go_wp2_with (first | (go_at_call 7; refine HA.out.mono ?_; rintro e w' ⟨rfl, rfl⟩) | (go_at_call 8; refine (ref_lanes _ hn _).mono ?_; rintro e w1 ⟨rfl, hb1⟩) | (go_at_call 9; refine (lane_yes n 4 hn (by decide) _).mono ?_; rintro e w' ⟨rfl, rfl⟩))
  go_region_held3 (fun w' => w'.cell? ⟨w1.heap.size, 0, none⟩ = some (.int .u8 (ln n 0 : Nat)) ∧ w'.cell? ⟨w1.heap.size, 1, none⟩ = some (.int .u8 (ln n 1 : Nat)) ∧ w'.cell? ⟨w1.heap.size, 2, none⟩ = some (.int .u8 (ln n 2 : Nat)) ∧ w'.cell? ⟨w1.heap.size, 3, none⟩ = some (.int .u8 (ln n 3 : Nat)) ∧ w'.cell? ⟨w1.heap.size, 4, none⟩ = some (.int .u8 (b : Nat)) ∧ w'.cell? ⟨w1.heap.size, 5, none⟩ = some (.int .u8 (ln n 5 : Nat)) ∧ w'.cell? ⟨w1.heap.size, 6, none⟩ = some (.int .u8 (ln n 6 : Nat)) ∧ w'.cell? ⟨w1.heap.size, 7, none⟩ = some (.int .u8 (ln n 7 : Nat)) ∧ w'.cell? ⟨w1.heap.size + 1, 0, none⟩ = some (.int .u8 (b : Nat)) ∧ w'.cell? ⟨w1.heap.size + 1, 1, none⟩ = some (.int .u8 (b : Nat)) ∧ w'.cell? ⟨w1.heap.size + 1, 2, none⟩ = some (.int .u8 (b : Nat)) ∧ w'.cell? ⟨w1.heap.size + 1, 3, none⟩ = some (.int .u8 (b : Nat)) ∧ w'.cell? ⟨w1.heap.size + 1, 4, none⟩ = some (.int .u8 (b : Nat)) ∧ w'.cell? ⟨w1.heap.size + 1, 5, none⟩ = some (.int .u8 (b : Nat)) ∧ w'.cell? ⟨w1.heap.size + 1, 6, none⟩ = some (.int .u8 (b : Nat)) ∧ w'.cell? ⟨w1.heap.size + 1, 7, none⟩ = some (.int .u8 (b : Nat)) ∧ w1.heap.size + 1 < w'.heap.size)
    (first | go_keep | (go_split_ands; exact kept hbx (by refine ⟨?_, ?_, ?_, ?_, ?_, ?_, ?_, ?_, ?_, ?_, ?_, ?_, ?_, ?_, ?_, ?_, ?_⟩ <;> assumption)))
    (first | (go_at_call 10; refine (with_yes n b 4 hn hb (by decide) _).mono ?_; rintro e w' ⟨rfl, q, rfl⟩)
           | (go_at_call 11; (with_reducible refine (word_with4 n b hb _).mono ?_); rintro e w' ⟨rfl, hbx⟩)
           | (go_at_call 11; (with_reducible refine (word_any _ _ _ _ _ _ _ _ hb hb hb hb hb hb hb hb _).mono ?_); rintro e w' ⟨rfl, hbx⟩)
           | (go_at_call 12; refine (repeat_any _ hb _).mono ?_; rintro e w' ⟨rfl, rfl⟩)
           | (go_at_call 13; refine (unfold_any _ hn _).mono ?_; rintro e w' ⟨rfl, hbx⟩)
           | (go_at_call 8; refine (ref_lanes _ hn _).mono ?_; rintro e w' ⟨rfl, hbx⟩))
  go_wp2
  go_ret
  refine ⟨rfl, ?_⟩
  refine below_step ?_ (by assumption)
  refine below_step ?_ (by assumption)
  refine below_step ?_ (by assumption)
  refine below_step ?_ (by assumption)
  exact below_drewN ((hb1.alloc hb1.size _).alloc (by have := hb1.size; simp; omega) _) _
theorem word_with5 (n b : Nat) (hb : b < 256) (w : World) :
    Calls Tryd.prog 11 #[agg8 (ln n 0) (ln n 1) (ln n 2) (ln n 3) (ln n 4) (b) (ln n 6) (ln n 7)] w fun e w' => e = .returned (.int .u64 (withL n 5 b : Nat)) ∧ Below w.heap.size w w' :=
  word_at _ _ _ _ _ _ _ _ _ (by simp [withL]) (ln_lt _ _) (ln_lt _ _) (ln_lt _ _) (ln_lt _ _) (ln_lt _ _) hb (ln_lt _ _) (ln_lt _ _) w
set_option maxHeartbeats 1000000 in
theorem law_at5 (n b : Nat) (hn : n < 18446744073709551616) (hb : b < 256) (w : World) (hT : TabOk w) :
    Calls Tryd.prog 3 #[.int .u64 n, .int .i64 5, .int .u8 b] w fun e w' => e = .returned (.bool true) ∧ Below w.heap.size w w' := by
  have HA := Lib.hid (alive_any w hT)
  have heq := fun wx => eq_same8 (ln n 0) (ln n 1) (ln n 2) (ln n 3) (ln n 4) (ln n 5) (ln n 6) (ln n 7) wx
  clear hT
  go_enter Tryd.func3, Tryd.ntmps3
  go_wp2_with (first | (go_at_call 7; refine HA.out.mono ?_; rintro e w' ⟨rfl, rfl⟩) | (go_at_call 8; refine (ref_lanes _ hn _).mono ?_; rintro e w1 ⟨rfl, hb1⟩) | (go_at_call 9; refine (lane_yes n 5 hn (by decide) _).mono ?_; rintro e w' ⟨rfl, rfl⟩))
  go_region_held3 (fun w' => w'.cell? ⟨w1.heap.size, 0, none⟩ = some (.int .u8 (ln n 0 : Nat)) ∧ w'.cell? ⟨w1.heap.size, 1, none⟩ = some (.int .u8 (ln n 1 : Nat)) ∧ w'.cell? ⟨w1.heap.size, 2, none⟩ = some (.int .u8 (ln n 2 : Nat)) ∧ w'.cell? ⟨w1.heap.size, 3, none⟩ = some (.int .u8 (ln n 3 : Nat)) ∧ w'.cell? ⟨w1.heap.size, 4, none⟩ = some (.int .u8 (ln n 4 : Nat)) ∧ w'.cell? ⟨w1.heap.size, 5, none⟩ = some (.int .u8 (b : Nat)) ∧ w'.cell? ⟨w1.heap.size, 6, none⟩ = some (.int .u8 (ln n 6 : Nat)) ∧ w'.cell? ⟨w1.heap.size, 7, none⟩ = some (.int .u8 (ln n 7 : Nat)) ∧ w'.cell? ⟨w1.heap.size + 1, 0, none⟩ = some (.int .u8 (b : Nat)) ∧ w'.cell? ⟨w1.heap.size + 1, 1, none⟩ = some (.int .u8 (b : Nat)) ∧ w'.cell? ⟨w1.heap.size + 1, 2, none⟩ = some (.int .u8 (b : Nat)) ∧ w'.cell? ⟨w1.heap.size + 1, 3, none⟩ = some (.int .u8 (b : Nat)) ∧ w'.cell? ⟨w1.heap.size + 1, 4, none⟩ = some (.int .u8 (b : Nat)) ∧ w'.cell? ⟨w1.heap.size + 1, 5, none⟩ = some (.int .u8 (b : Nat)) ∧ w'.cell? ⟨w1.heap.size + 1, 6, none⟩ = some (.int .u8 (b : Nat)) ∧ w'.cell? ⟨w1.heap.size + 1, 7, none⟩ = some (.int .u8 (b : Nat)) ∧ w1.heap.size + 1 < w'.heap.size)
    (first | go_keep | (go_split_ands; exact kept hbx (by refine ⟨?_, ?_, ?_, ?_, ?_, ?_, ?_, ?_, ?_, ?_, ?_, ?_, ?_, ?_, ?_, ?_, ?_⟩ <;> assumption)))
    (first | (go_at_call 10; refine (with_yes n b 5 hn hb (by decide) _).mono ?_; rintro e w' ⟨rfl, q, rfl⟩)
           | (go_at_call 11; (with_reducible refine (word_with5 n b hb _).mono ?_); rintro e w' ⟨rfl, hbx⟩)
           | (go_at_call 11; (with_reducible refine (word_any _ _ _ _ _ _ _ _ hb hb hb hb hb hb hb hb _).mono ?_); rintro e w' ⟨rfl, hbx⟩)
           | (go_at_call 12; refine (repeat_any _ hb _).mono ?_; rintro e w' ⟨rfl, rfl⟩)
           | (go_at_call 13; refine (unfold_any _ hn _).mono ?_; rintro e w' ⟨rfl, hbx⟩)
           | (go_at_call 8; refine (ref_lanes _ hn _).mono ?_; rintro e w' ⟨rfl, hbx⟩))
  go_wp2
  go_ret
  refine ⟨rfl, ?_⟩
  refine below_step ?_ (by assumption)
  refine below_step ?_ (by assumption)
  refine below_step ?_ (by assumption)
  refine below_step ?_ (by assumption)
  exact below_drewN ((hb1.alloc hb1.size _).alloc (by have := hb1.size; simp; omega) _) _
theorem word_with6 (n b : Nat) (hb : b < 256) (w : World) :
    Calls Tryd.prog 11 #[agg8 (ln n 0) (ln n 1) (ln n 2) (ln n 3) (ln n 4) (ln n 5) (b) (ln n 7)] w fun e w' => e = .returned (.int .u64 (withL n 6 b : Nat)) ∧ Below w.heap.size w w' :=
  word_at _ _ _ _ _ _ _ _ _ (by simp [withL]) (ln_lt _ _) (ln_lt _ _) (ln_lt _ _) (ln_lt _ _) (ln_lt _ _) (ln_lt _ _) hb (ln_lt _ _) w
set_option maxHeartbeats 1000000 in
theorem law_at6 (n b : Nat) (hn : n < 18446744073709551616) (hb : b < 256) (w : World) (hT : TabOk w) :
    Calls Tryd.prog 3 #[.int .u64 n, .int .i64 6, .int .u8 b] w fun e w' => e = .returned (.bool true) ∧ Below w.heap.size w w' := by
  have HA := Lib.hid (alive_any w hT)
  have heq := fun wx => eq_same8 (ln n 0) (ln n 1) (ln n 2) (ln n 3) (ln n 4) (ln n 5) (ln n 6) (ln n 7) wx
  clear hT
  go_enter Tryd.func3, Tryd.ntmps3
  go_wp2_with (first | (go_at_call 7; refine HA.out.mono ?_; rintro e w' ⟨rfl, rfl⟩) | (go_at_call 8; refine (ref_lanes _ hn _).mono ?_; rintro e w1 ⟨rfl, hb1⟩) | (go_at_call 9; refine (lane_yes n 6 hn (by decide) _).mono ?_; rintro e w' ⟨rfl, rfl⟩))
  go_region_held3 (fun w' => w'.cell? ⟨w1.heap.size, 0, none⟩ = some (.int .u8 (ln n 0 : Nat)) ∧ w'.cell? ⟨w1.heap.size, 1, none⟩ = some (.int .u8 (ln n 1 : Nat)) ∧ w'.cell? ⟨w1.heap.size, 2, none⟩ = some (.int .u8 (ln n 2 : Nat)) ∧ w'.cell? ⟨w1.heap.size, 3, none⟩ = some (.int .u8 (ln n 3 : Nat)) ∧ w'.cell? ⟨w1.heap.size, 4, none⟩ = some (.int .u8 (ln n 4 : Nat)) ∧ w'.cell? ⟨w1.heap.size, 5, none⟩ = some (.int .u8 (ln n 5 : Nat)) ∧ w'.cell? ⟨w1.heap.size, 6, none⟩ = some (.int .u8 (b : Nat)) ∧ w'.cell? ⟨w1.heap.size, 7, none⟩ = some (.int .u8 (ln n 7 : Nat)) ∧ w'.cell? ⟨w1.heap.size + 1, 0, none⟩ = some (.int .u8 (b : Nat)) ∧ w'.cell? ⟨w1.heap.size + 1, 1, none⟩ = some (.int .u8 (b : Nat)) ∧ w'.cell? ⟨w1.heap.size + 1, 2, none⟩ = some (.int .u8 (b : Nat)) ∧ w'.cell? ⟨w1.heap.size + 1, 3, none⟩ = some (.int .u8 (b : Nat)) ∧ w'.cell? ⟨w1.heap.size + 1, 4, none⟩ = some (.int .u8 (b : Nat)) ∧ w'.cell? ⟨w1.heap.size + 1, 5, none⟩ = some (.int .u8 (b : Nat)) ∧ w'.cell? ⟨w1.heap.size + 1, 6, none⟩ = some (.int .u8 (b : Nat)) ∧ w'.cell? ⟨w1.heap.size + 1, 7, none⟩ = some (.int .u8 (b : Nat)) ∧ w1.heap.size + 1 < w'.heap.size)
    (first | go_keep | (go_split_ands; exact kept hbx (by refine ⟨?_, ?_, ?_, ?_, ?_, ?_, ?_, ?_, ?_, ?_, ?_, ?_, ?_, ?_, ?_, ?_, ?_⟩ <;> assumption)))
    (first | (go_at_call 10; refine (with_yes n b 6 hn hb (by decide) _).mono ?_; rintro e w' ⟨rfl, q, rfl⟩)
           | (go_at_call 11; (with_reducible refine (word_with6 n b hb _).mono ?_); rintro e w' ⟨rfl, hbx⟩)
           | (go_at_call 11; (with_reducible refine (word_any _ _ _ _ _ _ _ _ hb hb hb hb hb hb hb hb _).mono ?_); rintro e w' ⟨rfl, hbx⟩)
           | (go_at_call 12; refine (repeat_any _ hb _).mono ?_; rintro e w' ⟨rfl, rfl⟩)
           | (go_at_call 13; refine (unfold_any _ hn _).mono ?_; rintro e w' ⟨rfl, hbx⟩)
           | (go_at_call 8; refine (ref_lanes _ hn _).mono ?_; rintro e w' ⟨rfl, hbx⟩))
  go_wp2
  go_ret
  refine ⟨rfl, ?_⟩
  refine below_step ?_ (by assumption)
  refine below_step ?_ (by assumption)
  refine below_step ?_ (by assumption)
  refine below_step ?_ (by assumption)
  exact below_drewN ((hb1.alloc hb1.size _).alloc (by have := hb1.size; simp; omega) _) _
theorem word_with7 (n b : Nat) (hb : b < 256) (w : World) :
    Calls Tryd.prog 11 #[agg8 (ln n 0) (ln n 1) (ln n 2) (ln n 3) (ln n 4) (ln n 5) (ln n 6) (b)] w fun e w' => e = .returned (.int .u64 (withL n 7 b : Nat)) ∧ Below w.heap.size w w' :=
  word_at _ _ _ _ _ _ _ _ _ (by simp [withL]) (ln_lt _ _) (ln_lt _ _) (ln_lt _ _) (ln_lt _ _) (ln_lt _ _) (ln_lt _ _) (ln_lt _ _) hb w
set_option maxHeartbeats 1000000 in
theorem law_at7 (n b : Nat) (hn : n < 18446744073709551616) (hb : b < 256) (w : World) (hT : TabOk w) :
    Calls Tryd.prog 3 #[.int .u64 n, .int .i64 7, .int .u8 b] w fun e w' => e = .returned (.bool true) ∧ Below w.heap.size w w' := by
  have HA := Lib.hid (alive_any w hT)
  have heq := fun wx => eq_same8 (ln n 0) (ln n 1) (ln n 2) (ln n 3) (ln n 4) (ln n 5) (ln n 6) (ln n 7) wx
  clear hT
  go_enter Tryd.func3, Tryd.ntmps3
  go_wp2_with (first | (go_at_call 7; refine HA.out.mono ?_; rintro e w' ⟨rfl, rfl⟩) | (go_at_call 8; refine (ref_lanes _ hn _).mono ?_; rintro e w1 ⟨rfl, hb1⟩) | (go_at_call 9; refine (lane_yes n 7 hn (by decide) _).mono ?_; rintro e w' ⟨rfl, rfl⟩))
  go_region_held3 (fun w' => w'.cell? ⟨w1.heap.size, 0, none⟩ = some (.int .u8 (ln n 0 : Nat)) ∧ w'.cell? ⟨w1.heap.size, 1, none⟩ = some (.int .u8 (ln n 1 : Nat)) ∧ w'.cell? ⟨w1.heap.size, 2, none⟩ = some (.int .u8 (ln n 2 : Nat)) ∧ w'.cell? ⟨w1.heap.size, 3, none⟩ = some (.int .u8 (ln n 3 : Nat)) ∧ w'.cell? ⟨w1.heap.size, 4, none⟩ = some (.int .u8 (ln n 4 : Nat)) ∧ w'.cell? ⟨w1.heap.size, 5, none⟩ = some (.int .u8 (ln n 5 : Nat)) ∧ w'.cell? ⟨w1.heap.size, 6, none⟩ = some (.int .u8 (ln n 6 : Nat)) ∧ w'.cell? ⟨w1.heap.size, 7, none⟩ = some (.int .u8 (b : Nat)) ∧ w'.cell? ⟨w1.heap.size + 1, 0, none⟩ = some (.int .u8 (b : Nat)) ∧ w'.cell? ⟨w1.heap.size + 1, 1, none⟩ = some (.int .u8 (b : Nat)) ∧ w'.cell? ⟨w1.heap.size + 1, 2, none⟩ = some (.int .u8 (b : Nat)) ∧ w'.cell? ⟨w1.heap.size + 1, 3, none⟩ = some (.int .u8 (b : Nat)) ∧ w'.cell? ⟨w1.heap.size + 1, 4, none⟩ = some (.int .u8 (b : Nat)) ∧ w'.cell? ⟨w1.heap.size + 1, 5, none⟩ = some (.int .u8 (b : Nat)) ∧ w'.cell? ⟨w1.heap.size + 1, 6, none⟩ = some (.int .u8 (b : Nat)) ∧ w'.cell? ⟨w1.heap.size + 1, 7, none⟩ = some (.int .u8 (b : Nat)) ∧ w1.heap.size + 1 < w'.heap.size)
    (first | go_keep | (go_split_ands; exact kept hbx (by refine ⟨?_, ?_, ?_, ?_, ?_, ?_, ?_, ?_, ?_, ?_, ?_, ?_, ?_, ?_, ?_, ?_, ?_⟩ <;> assumption)))
    (first | (go_at_call 10; refine (with_yes n b 7 hn hb (by decide) _).mono ?_; rintro e w' ⟨rfl, q, rfl⟩)
           | (go_at_call 11; (with_reducible refine (word_with7 n b hb _).mono ?_); rintro e w' ⟨rfl, hbx⟩)
           | (go_at_call 11; (with_reducible refine (word_any _ _ _ _ _ _ _ _ hb hb hb hb hb hb hb hb _).mono ?_); rintro e w' ⟨rfl, hbx⟩)
           | (go_at_call 12; refine (repeat_any _ hb _).mono ?_; rintro e w' ⟨rfl, rfl⟩)
           | (go_at_call 13; refine (unfold_any _ hn _).mono ?_; rintro e w' ⟨rfl, hbx⟩)
           | (go_at_call 8; refine (ref_lanes _ hn _).mono ?_; rintro e w' ⟨rfl, hbx⟩))
  go_wp2
  go_ret
  refine ⟨rfl, ?_⟩
  refine below_step ?_ (by assumption)
  refine below_step ?_ (by assumption)
  refine below_step ?_ (by assumption)
  refine below_step ?_ (by assumption)
  exact below_drewN ((hb1.alloc hb1.size _).alloc (by have := hb1.size; simp; omega) _) _
theorem law_any (n b : Nat) (i : Int) (hn : n < 18446744073709551616) (hb : b < 256) (w : World) (hT : TabOk w) :
    Calls Tryd.prog 3 #[.int .u64 n, .int .i64 i, .int .u8 b] w fun e w' => e = .returned (.bool true) ∧ Below w.heap.size w w' := by
  by_cases h1 : i < 0
  · exact law_neg n b i hn hb h1 w hT
  · by_cases h2 : 8 ≤ i
    · exact law_big n b i hn hb h2 w hT
    · have h : i = 0 ∨ i = 1 ∨ i = 2 ∨ i = 3 ∨ i = 4 ∨ i = 5 ∨ i = 6 ∨ i = 7 := by omega
      rcases h with rfl | rfl | rfl | rfl | rfl | rfl | rfl | rfl
      · exact law_at0 n b hn hb w hT
      · exact law_at1 n b hn hb w hT
      · exact law_at2 n b hn hb w hT
      · exact law_at3 n b hn hb w hT
      · exact law_at4 n b hn hb w hT
      · exact law_at5 n b hn hb w hT
      · exact law_at6 n b hn hb w hT
      · exact law_at7 n b hn hb w hT
end Go.Proofs.YthmkmnjhbnfioaaDoor.swar
