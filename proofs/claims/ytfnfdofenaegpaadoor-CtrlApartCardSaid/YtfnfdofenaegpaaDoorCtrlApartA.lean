/- CtrlApart: the walk. -/
import Derived.Test.YtfnfdofenaegpaaDoorCtrlAlive
import Derived.Test.YtfnfdofenaegpaaDoorCtrlMath2
import Derived.Test.YtfnfdofenaegpaaDoorNum
namespace Go.Proofs.YtfnfdofenaegpaaDoor.ctrl
open Go.ChangeShapes Go.WideShapes Go.ChangeAt Go.RowKit swar errs

set_option maxHeartbeats 2000000 in
set_option maxRecDepth 20000 in
theorem apart_A0 (n b : Nat) (hn : n < 18446744073709551616) (hb8 : b < 256) (hb : okB b = true) (hr : okW n = true) (w : World) :
    Calls Tryd.prog 5 #[.int .u64 n, .int .i64 0, .int .u8 b] w fun e w' => e = .returned (.bool true) ∧ Below w.heap.size w w' := by
  have rN := fun wx => right_any n hn wx
  rw [hr] at rN
  have hs := cnt_kinds n hn hr
  have HO := or_kinds n hr
  have HA := and_kinds n hn
  have k1 := fun wx => count_any (eqM n 128) (eqM_lt _ _) wx
  have k2 := fun wx => count_any (eqM n 254) (eqM_lt _ _) wx
  have k3 := fun wx => count_any (hiM (18446744073709551615 - n)) (hiM_lt _) wx
  generalize cnt (eqM n 128) = c1 at *
  generalize cnt (eqM n 254) = c2 at *
  generalize cnt (hiM (18446744073709551615 - n)) = c3 at *
  have ho := okW_at n 0 hr (by decide)
  have rY := fun wx => right_any (withL n 0 b) (withL_lt _ _ _ hb8) wx
  rw [okW_with n 0 b hr hb8 hb] at rY
  have lt := withL_lt n 0 b hb8
  have s1 : ∀ wx, Calls Tryd.prog 23 #[.int .u64 (n : Int), .int .i64 0, .int .u8 (b : Int)] wx fun e w' => e = .returned (.tuple #[.int .u64 ((withL n 0 b : Nat) : Int), .nilIface]) ∧ ∃ q, w' = wx.drewN q := fun wx => set_yes n b 0 hn (by decide) hb wx
  have s2 : ∀ wx, Calls Tryd.prog 23 #[.int .u64 ((withL n 0 b : Nat) : Int), .int .i64 0, .int .u8 ((ln n 0 : Nat) : Int)] wx fun e w' => e = .returned (.tuple #[.int .u64 (n : Int), .nilIface]) ∧ ∃ q, w' = wx.drewN q := fun wx => by
    have h := set_yes (withL n 0 b) (ln n 0) 0 lt (by decide) ho wx
    rw [withL_back n 0 b hn hb8] at h; exact h
  have y0 : ∀ wx, Calls Tryd.prog 22 #[.int .u64 ((withL n 0 b : Nat) : Int), .int .i64 0] wx fun e w' => e = .returned (.int .u8 ((b : Nat) : Int)) ∧ wx = w' := fun wx => by
    have h := get_yes (withL n 0 b) 0 lt (by decide) wx
    rw [ln_withL_at n 0 b 0 hb8 (by decide), if_pos rfl] at h; exact h
  have g0 : ∀ wx, Calls Tryd.prog 22 #[.int .u64 (n : Int), .int .i64 0] wx fun e w' => e = .returned (.int .u8 ((ln n 0 : Nat) : Int)) ∧ wx = w' := fun wx => get_yes n 0 hn (by decide) wx
  have y1 : ∀ wx, Calls Tryd.prog 22 #[.int .u64 ((withL n 0 b : Nat) : Int), .int .i64 1] wx fun e w' => e = .returned (.int .u8 ((ln n 1 : Nat) : Int)) ∧ wx = w' := fun wx => by
    have h := get_yes (withL n 0 b) 1 lt (by decide) wx
    rw [ln_withL_at n 0 b 1 hb8 (by decide), if_neg (by decide)] at h; exact h
  have g1 : ∀ wx, Calls Tryd.prog 22 #[.int .u64 (n : Int), .int .i64 1] wx fun e w' => e = .returned (.int .u8 ((ln n 1 : Nat) : Int)) ∧ wx = w' := fun wx => get_yes n 1 hn (by decide) wx
  have y2 : ∀ wx, Calls Tryd.prog 22 #[.int .u64 ((withL n 0 b : Nat) : Int), .int .i64 2] wx fun e w' => e = .returned (.int .u8 ((ln n 2 : Nat) : Int)) ∧ wx = w' := fun wx => by
    have h := get_yes (withL n 0 b) 2 lt (by decide) wx
    rw [ln_withL_at n 0 b 2 hb8 (by decide), if_neg (by decide)] at h; exact h
  have g2 : ∀ wx, Calls Tryd.prog 22 #[.int .u64 (n : Int), .int .i64 2] wx fun e w' => e = .returned (.int .u8 ((ln n 2 : Nat) : Int)) ∧ wx = w' := fun wx => get_yes n 2 hn (by decide) wx
  have y3 : ∀ wx, Calls Tryd.prog 22 #[.int .u64 ((withL n 0 b : Nat) : Int), .int .i64 3] wx fun e w' => e = .returned (.int .u8 ((ln n 3 : Nat) : Int)) ∧ wx = w' := fun wx => by
    have h := get_yes (withL n 0 b) 3 lt (by decide) wx
    rw [ln_withL_at n 0 b 3 hb8 (by decide), if_neg (by decide)] at h; exact h
  have g3 : ∀ wx, Calls Tryd.prog 22 #[.int .u64 (n : Int), .int .i64 3] wx fun e w' => e = .returned (.int .u8 ((ln n 3 : Nat) : Int)) ∧ wx = w' := fun wx => get_yes n 3 hn (by decide) wx
  have y4 : ∀ wx, Calls Tryd.prog 22 #[.int .u64 ((withL n 0 b : Nat) : Int), .int .i64 4] wx fun e w' => e = .returned (.int .u8 ((ln n 4 : Nat) : Int)) ∧ wx = w' := fun wx => by
    have h := get_yes (withL n 0 b) 4 lt (by decide) wx
    rw [ln_withL_at n 0 b 4 hb8 (by decide), if_neg (by decide)] at h; exact h
  have g4 : ∀ wx, Calls Tryd.prog 22 #[.int .u64 (n : Int), .int .i64 4] wx fun e w' => e = .returned (.int .u8 ((ln n 4 : Nat) : Int)) ∧ wx = w' := fun wx => get_yes n 4 hn (by decide) wx
  have y5 : ∀ wx, Calls Tryd.prog 22 #[.int .u64 ((withL n 0 b : Nat) : Int), .int .i64 5] wx fun e w' => e = .returned (.int .u8 ((ln n 5 : Nat) : Int)) ∧ wx = w' := fun wx => by
    have h := get_yes (withL n 0 b) 5 lt (by decide) wx
    rw [ln_withL_at n 0 b 5 hb8 (by decide), if_neg (by decide)] at h; exact h
  have g5 : ∀ wx, Calls Tryd.prog 22 #[.int .u64 (n : Int), .int .i64 5] wx fun e w' => e = .returned (.int .u8 ((ln n 5 : Nat) : Int)) ∧ wx = w' := fun wx => get_yes n 5 hn (by decide) wx
  have y6 : ∀ wx, Calls Tryd.prog 22 #[.int .u64 ((withL n 0 b : Nat) : Int), .int .i64 6] wx fun e w' => e = .returned (.int .u8 ((ln n 6 : Nat) : Int)) ∧ wx = w' := fun wx => by
    have h := get_yes (withL n 0 b) 6 lt (by decide) wx
    rw [ln_withL_at n 0 b 6 hb8 (by decide), if_neg (by decide)] at h; exact h
  have g6 : ∀ wx, Calls Tryd.prog 22 #[.int .u64 (n : Int), .int .i64 6] wx fun e w' => e = .returned (.int .u8 ((ln n 6 : Nat) : Int)) ∧ wx = w' := fun wx => get_yes n 6 hn (by decide) wx
  have y7 : ∀ wx, Calls Tryd.prog 22 #[.int .u64 ((withL n 0 b : Nat) : Int), .int .i64 7] wx fun e w' => e = .returned (.int .u8 ((ln n 7 : Nat) : Int)) ∧ wx = w' := fun wx => by
    have h := get_yes (withL n 0 b) 7 lt (by decide) wx
    rw [ln_withL_at n 0 b 7 hb8 (by decide), if_neg (by decide)] at h; exact h
  have g7 : ∀ wx, Calls Tryd.prog 22 #[.int .u64 (n : Int), .int .i64 7] wx fun e w' => e = .returned (.int .u8 ((ln n 7 : Nat) : Int)) ∧ wx = w' := fun wx => get_yes n 7 hn (by decide) wx
  clear ho
  generalize withL n 0 b = m at *
  go_enter Tryd.func5, Tryd.ntmps5
  go_wp2_with (first
    | (go_at_call 7; refine (alive_any _).mono ?_; rintro e w1 ⟨rfl, hb1⟩)
    | (go_at_call 18; (with_reducible refine (rN _).mono ?_); rintro e w' ⟨rfl, rfl⟩)
    | (go_at_call 12; refine (empties_any n hn _).mono ?_; rintro e w' ⟨rfl, rfl⟩)
    | (go_at_call 14; refine (deleteds_any n hn _).mono ?_; rintro e w' ⟨rfl, rfl⟩)
    | (go_at_call 15; refine (fulls_any n hn _).mono ?_; rintro e w' ⟨rfl, rfl⟩)
    | (go_at_call 16; refine (frees_any n hn _).mono ?_; rintro e w' ⟨rfl, rfl⟩)
    | (go_at_call 27; (with_reducible refine (k1 _).mono ?_); rintro e w' ⟨rfl, rfl⟩)
    | (go_at_call 27; (with_reducible refine (k2 _).mono ?_); rintro e w' ⟨rfl, rfl⟩)
    | (go_at_call 27; (with_reducible refine (k3 _).mono ?_); rintro e w' ⟨rfl, rfl⟩)
    | (go_at_call 23; (with_reducible refine (s1 _).mono ?_); rintro e w2 ⟨rfl, q, rfl⟩))
  refine wp_loop_rounds 9 ?_
  rw [rounds_succ]; go_wp2_with (first
    | (go_at_call 22; (with_reducible refine (y0 _).mono ?_); rintro e w' ⟨rfl, rfl⟩)
    | (go_at_call 22; (with_reducible refine (g0 _).mono ?_); rintro e w' ⟨rfl, rfl⟩))
  rw [rounds_succ]; go_wp2_with (first
    | (go_at_call 22; (with_reducible refine (y1 _).mono ?_); rintro e w' ⟨rfl, rfl⟩)
    | (go_at_call 22; (with_reducible refine (g1 _).mono ?_); rintro e w' ⟨rfl, rfl⟩))
  rw [rounds_succ]; go_wp2_with (first
    | (go_at_call 22; (with_reducible refine (y2 _).mono ?_); rintro e w' ⟨rfl, rfl⟩)
    | (go_at_call 22; (with_reducible refine (g2 _).mono ?_); rintro e w' ⟨rfl, rfl⟩))
  rw [rounds_succ]; go_wp2_with (first
    | (go_at_call 22; (with_reducible refine (y3 _).mono ?_); rintro e w' ⟨rfl, rfl⟩)
    | (go_at_call 22; (with_reducible refine (g3 _).mono ?_); rintro e w' ⟨rfl, rfl⟩))
  rw [rounds_succ]; go_wp2_with (first
    | (go_at_call 22; (with_reducible refine (y4 _).mono ?_); rintro e w' ⟨rfl, rfl⟩)
    | (go_at_call 22; (with_reducible refine (g4 _).mono ?_); rintro e w' ⟨rfl, rfl⟩))
  rw [rounds_succ]; go_wp2_with (first
    | (go_at_call 22; (with_reducible refine (y5 _).mono ?_); rintro e w' ⟨rfl, rfl⟩)
    | (go_at_call 22; (with_reducible refine (g5 _).mono ?_); rintro e w' ⟨rfl, rfl⟩))
  rw [rounds_succ]; go_wp2_with (first
    | (go_at_call 22; (with_reducible refine (y6 _).mono ?_); rintro e w' ⟨rfl, rfl⟩)
    | (go_at_call 22; (with_reducible refine (g6 _).mono ?_); rintro e w' ⟨rfl, rfl⟩))
  rw [rounds_succ]; go_wp2_with (first
    | (go_at_call 22; (with_reducible refine (y7 _).mono ?_); rintro e w' ⟨rfl, rfl⟩)
    | (go_at_call 22; (with_reducible refine (g7 _).mono ?_); rintro e w' ⟨rfl, rfl⟩))
  rw [rounds_succ]; go_wp2_with (first
    | (go_at_call 22; (with_reducible refine (g0 _).mono ?_); rintro e w' ⟨rfl, rfl⟩)
    | (go_at_call 18; (with_reducible refine (rN _).mono ?_); rintro e w' ⟨rfl, rfl⟩)
    | (go_at_call 18; (with_reducible refine (rY _).mono ?_); rintro e w' ⟨rfl, rfl⟩)
    | (go_at_call 23; (with_reducible refine (s2 _).mono ?_); rintro e w2 ⟨rfl, q2, rfl⟩))
  all_goals
    go_ret
    exact ⟨by simp, below_step hb1 (drewN_below _ _)⟩
set_option maxHeartbeats 2000000 in
set_option maxRecDepth 20000 in
theorem apart_A1 (n b : Nat) (hn : n < 18446744073709551616) (hb8 : b < 256) (hb : okB b = true) (hr : okW n = true) (w : World) :
    Calls Tryd.prog 5 #[.int .u64 n, .int .i64 1, .int .u8 b] w fun e w' => e = .returned (.bool true) ∧ Below w.heap.size w w' := by
  have rN := fun wx => right_any n hn wx
  rw [hr] at rN
  have hs := cnt_kinds n hn hr
  have HO := or_kinds n hr
  have HA := and_kinds n hn
  have k1 := fun wx => count_any (eqM n 128) (eqM_lt _ _) wx
  have k2 := fun wx => count_any (eqM n 254) (eqM_lt _ _) wx
  have k3 := fun wx => count_any (hiM (18446744073709551615 - n)) (hiM_lt _) wx
  generalize cnt (eqM n 128) = c1 at *
  generalize cnt (eqM n 254) = c2 at *
  generalize cnt (hiM (18446744073709551615 - n)) = c3 at *
  have ho := okW_at n 1 hr (by decide)
  have rY := fun wx => right_any (withL n 1 b) (withL_lt _ _ _ hb8) wx
  rw [okW_with n 1 b hr hb8 hb] at rY
  have lt := withL_lt n 1 b hb8
  have s1 : ∀ wx, Calls Tryd.prog 23 #[.int .u64 (n : Int), .int .i64 1, .int .u8 (b : Int)] wx fun e w' => e = .returned (.tuple #[.int .u64 ((withL n 1 b : Nat) : Int), .nilIface]) ∧ ∃ q, w' = wx.drewN q := fun wx => set_yes n b 1 hn (by decide) hb wx
  have s2 : ∀ wx, Calls Tryd.prog 23 #[.int .u64 ((withL n 1 b : Nat) : Int), .int .i64 1, .int .u8 ((ln n 1 : Nat) : Int)] wx fun e w' => e = .returned (.tuple #[.int .u64 (n : Int), .nilIface]) ∧ ∃ q, w' = wx.drewN q := fun wx => by
    have h := set_yes (withL n 1 b) (ln n 1) 1 lt (by decide) ho wx
    rw [withL_back n 1 b hn hb8] at h; exact h
  have y0 : ∀ wx, Calls Tryd.prog 22 #[.int .u64 ((withL n 1 b : Nat) : Int), .int .i64 0] wx fun e w' => e = .returned (.int .u8 ((ln n 0 : Nat) : Int)) ∧ wx = w' := fun wx => by
    have h := get_yes (withL n 1 b) 0 lt (by decide) wx
    rw [ln_withL_at n 1 b 0 hb8 (by decide), if_neg (by decide)] at h; exact h
  have g0 : ∀ wx, Calls Tryd.prog 22 #[.int .u64 (n : Int), .int .i64 0] wx fun e w' => e = .returned (.int .u8 ((ln n 0 : Nat) : Int)) ∧ wx = w' := fun wx => get_yes n 0 hn (by decide) wx
  have y1 : ∀ wx, Calls Tryd.prog 22 #[.int .u64 ((withL n 1 b : Nat) : Int), .int .i64 1] wx fun e w' => e = .returned (.int .u8 ((b : Nat) : Int)) ∧ wx = w' := fun wx => by
    have h := get_yes (withL n 1 b) 1 lt (by decide) wx
    rw [ln_withL_at n 1 b 1 hb8 (by decide), if_pos rfl] at h; exact h
  have g1 : ∀ wx, Calls Tryd.prog 22 #[.int .u64 (n : Int), .int .i64 1] wx fun e w' => e = .returned (.int .u8 ((ln n 1 : Nat) : Int)) ∧ wx = w' := fun wx => get_yes n 1 hn (by decide) wx
  have y2 : ∀ wx, Calls Tryd.prog 22 #[.int .u64 ((withL n 1 b : Nat) : Int), .int .i64 2] wx fun e w' => e = .returned (.int .u8 ((ln n 2 : Nat) : Int)) ∧ wx = w' := fun wx => by
    have h := get_yes (withL n 1 b) 2 lt (by decide) wx
    rw [ln_withL_at n 1 b 2 hb8 (by decide), if_neg (by decide)] at h; exact h
  have g2 : ∀ wx, Calls Tryd.prog 22 #[.int .u64 (n : Int), .int .i64 2] wx fun e w' => e = .returned (.int .u8 ((ln n 2 : Nat) : Int)) ∧ wx = w' := fun wx => get_yes n 2 hn (by decide) wx
  have y3 : ∀ wx, Calls Tryd.prog 22 #[.int .u64 ((withL n 1 b : Nat) : Int), .int .i64 3] wx fun e w' => e = .returned (.int .u8 ((ln n 3 : Nat) : Int)) ∧ wx = w' := fun wx => by
    have h := get_yes (withL n 1 b) 3 lt (by decide) wx
    rw [ln_withL_at n 1 b 3 hb8 (by decide), if_neg (by decide)] at h; exact h
  have g3 : ∀ wx, Calls Tryd.prog 22 #[.int .u64 (n : Int), .int .i64 3] wx fun e w' => e = .returned (.int .u8 ((ln n 3 : Nat) : Int)) ∧ wx = w' := fun wx => get_yes n 3 hn (by decide) wx
  have y4 : ∀ wx, Calls Tryd.prog 22 #[.int .u64 ((withL n 1 b : Nat) : Int), .int .i64 4] wx fun e w' => e = .returned (.int .u8 ((ln n 4 : Nat) : Int)) ∧ wx = w' := fun wx => by
    have h := get_yes (withL n 1 b) 4 lt (by decide) wx
    rw [ln_withL_at n 1 b 4 hb8 (by decide), if_neg (by decide)] at h; exact h
  have g4 : ∀ wx, Calls Tryd.prog 22 #[.int .u64 (n : Int), .int .i64 4] wx fun e w' => e = .returned (.int .u8 ((ln n 4 : Nat) : Int)) ∧ wx = w' := fun wx => get_yes n 4 hn (by decide) wx
  have y5 : ∀ wx, Calls Tryd.prog 22 #[.int .u64 ((withL n 1 b : Nat) : Int), .int .i64 5] wx fun e w' => e = .returned (.int .u8 ((ln n 5 : Nat) : Int)) ∧ wx = w' := fun wx => by
    have h := get_yes (withL n 1 b) 5 lt (by decide) wx
    rw [ln_withL_at n 1 b 5 hb8 (by decide), if_neg (by decide)] at h; exact h
  have g5 : ∀ wx, Calls Tryd.prog 22 #[.int .u64 (n : Int), .int .i64 5] wx fun e w' => e = .returned (.int .u8 ((ln n 5 : Nat) : Int)) ∧ wx = w' := fun wx => get_yes n 5 hn (by decide) wx
  have y6 : ∀ wx, Calls Tryd.prog 22 #[.int .u64 ((withL n 1 b : Nat) : Int), .int .i64 6] wx fun e w' => e = .returned (.int .u8 ((ln n 6 : Nat) : Int)) ∧ wx = w' := fun wx => by
    have h := get_yes (withL n 1 b) 6 lt (by decide) wx
    rw [ln_withL_at n 1 b 6 hb8 (by decide), if_neg (by decide)] at h; exact h
  have g6 : ∀ wx, Calls Tryd.prog 22 #[.int .u64 (n : Int), .int .i64 6] wx fun e w' => e = .returned (.int .u8 ((ln n 6 : Nat) : Int)) ∧ wx = w' := fun wx => get_yes n 6 hn (by decide) wx
  have y7 : ∀ wx, Calls Tryd.prog 22 #[.int .u64 ((withL n 1 b : Nat) : Int), .int .i64 7] wx fun e w' => e = .returned (.int .u8 ((ln n 7 : Nat) : Int)) ∧ wx = w' := fun wx => by
    have h := get_yes (withL n 1 b) 7 lt (by decide) wx
    rw [ln_withL_at n 1 b 7 hb8 (by decide), if_neg (by decide)] at h; exact h
  have g7 : ∀ wx, Calls Tryd.prog 22 #[.int .u64 (n : Int), .int .i64 7] wx fun e w' => e = .returned (.int .u8 ((ln n 7 : Nat) : Int)) ∧ wx = w' := fun wx => get_yes n 7 hn (by decide) wx
  clear ho
  generalize withL n 1 b = m at *
  go_enter Tryd.func5, Tryd.ntmps5
  go_wp2_with (first
    | (go_at_call 7; refine (alive_any _).mono ?_; rintro e w1 ⟨rfl, hb1⟩)
    | (go_at_call 18; (with_reducible refine (rN _).mono ?_); rintro e w' ⟨rfl, rfl⟩)
    | (go_at_call 12; refine (empties_any n hn _).mono ?_; rintro e w' ⟨rfl, rfl⟩)
    | (go_at_call 14; refine (deleteds_any n hn _).mono ?_; rintro e w' ⟨rfl, rfl⟩)
    | (go_at_call 15; refine (fulls_any n hn _).mono ?_; rintro e w' ⟨rfl, rfl⟩)
    | (go_at_call 16; refine (frees_any n hn _).mono ?_; rintro e w' ⟨rfl, rfl⟩)
    | (go_at_call 27; (with_reducible refine (k1 _).mono ?_); rintro e w' ⟨rfl, rfl⟩)
    | (go_at_call 27; (with_reducible refine (k2 _).mono ?_); rintro e w' ⟨rfl, rfl⟩)
    | (go_at_call 27; (with_reducible refine (k3 _).mono ?_); rintro e w' ⟨rfl, rfl⟩)
    | (go_at_call 23; (with_reducible refine (s1 _).mono ?_); rintro e w2 ⟨rfl, q, rfl⟩))
  refine wp_loop_rounds 9 ?_
  rw [rounds_succ]; go_wp2_with (first
    | (go_at_call 22; (with_reducible refine (y0 _).mono ?_); rintro e w' ⟨rfl, rfl⟩)
    | (go_at_call 22; (with_reducible refine (g0 _).mono ?_); rintro e w' ⟨rfl, rfl⟩))
  rw [rounds_succ]; go_wp2_with (first
    | (go_at_call 22; (with_reducible refine (y1 _).mono ?_); rintro e w' ⟨rfl, rfl⟩)
    | (go_at_call 22; (with_reducible refine (g1 _).mono ?_); rintro e w' ⟨rfl, rfl⟩))
  rw [rounds_succ]; go_wp2_with (first
    | (go_at_call 22; (with_reducible refine (y2 _).mono ?_); rintro e w' ⟨rfl, rfl⟩)
    | (go_at_call 22; (with_reducible refine (g2 _).mono ?_); rintro e w' ⟨rfl, rfl⟩))
  rw [rounds_succ]; go_wp2_with (first
    | (go_at_call 22; (with_reducible refine (y3 _).mono ?_); rintro e w' ⟨rfl, rfl⟩)
    | (go_at_call 22; (with_reducible refine (g3 _).mono ?_); rintro e w' ⟨rfl, rfl⟩))
  rw [rounds_succ]; go_wp2_with (first
    | (go_at_call 22; (with_reducible refine (y4 _).mono ?_); rintro e w' ⟨rfl, rfl⟩)
    | (go_at_call 22; (with_reducible refine (g4 _).mono ?_); rintro e w' ⟨rfl, rfl⟩))
  rw [rounds_succ]; go_wp2_with (first
    | (go_at_call 22; (with_reducible refine (y5 _).mono ?_); rintro e w' ⟨rfl, rfl⟩)
    | (go_at_call 22; (with_reducible refine (g5 _).mono ?_); rintro e w' ⟨rfl, rfl⟩))
  rw [rounds_succ]; go_wp2_with (first
    | (go_at_call 22; (with_reducible refine (y6 _).mono ?_); rintro e w' ⟨rfl, rfl⟩)
    | (go_at_call 22; (with_reducible refine (g6 _).mono ?_); rintro e w' ⟨rfl, rfl⟩))
  rw [rounds_succ]; go_wp2_with (first
    | (go_at_call 22; (with_reducible refine (y7 _).mono ?_); rintro e w' ⟨rfl, rfl⟩)
    | (go_at_call 22; (with_reducible refine (g7 _).mono ?_); rintro e w' ⟨rfl, rfl⟩))
  rw [rounds_succ]; go_wp2_with (first
    | (go_at_call 22; (with_reducible refine (g1 _).mono ?_); rintro e w' ⟨rfl, rfl⟩)
    | (go_at_call 18; (with_reducible refine (rN _).mono ?_); rintro e w' ⟨rfl, rfl⟩)
    | (go_at_call 18; (with_reducible refine (rY _).mono ?_); rintro e w' ⟨rfl, rfl⟩)
    | (go_at_call 23; (with_reducible refine (s2 _).mono ?_); rintro e w2 ⟨rfl, q2, rfl⟩))
  all_goals
    go_ret
    exact ⟨by simp, below_step hb1 (drewN_below _ _)⟩
set_option maxHeartbeats 2000000 in
set_option maxRecDepth 20000 in
theorem apart_A2 (n b : Nat) (hn : n < 18446744073709551616) (hb8 : b < 256) (hb : okB b = true) (hr : okW n = true) (w : World) :
    Calls Tryd.prog 5 #[.int .u64 n, .int .i64 2, .int .u8 b] w fun e w' => e = .returned (.bool true) ∧ Below w.heap.size w w' := by
  have rN := fun wx => right_any n hn wx
  rw [hr] at rN
  have hs := cnt_kinds n hn hr
  have HO := or_kinds n hr
  have HA := and_kinds n hn
  have k1 := fun wx => count_any (eqM n 128) (eqM_lt _ _) wx
  have k2 := fun wx => count_any (eqM n 254) (eqM_lt _ _) wx
  have k3 := fun wx => count_any (hiM (18446744073709551615 - n)) (hiM_lt _) wx
  generalize cnt (eqM n 128) = c1 at *
  generalize cnt (eqM n 254) = c2 at *
  generalize cnt (hiM (18446744073709551615 - n)) = c3 at *
  have ho := okW_at n 2 hr (by decide)
  have rY := fun wx => right_any (withL n 2 b) (withL_lt _ _ _ hb8) wx
  rw [okW_with n 2 b hr hb8 hb] at rY
  have lt := withL_lt n 2 b hb8
  have s1 : ∀ wx, Calls Tryd.prog 23 #[.int .u64 (n : Int), .int .i64 2, .int .u8 (b : Int)] wx fun e w' => e = .returned (.tuple #[.int .u64 ((withL n 2 b : Nat) : Int), .nilIface]) ∧ ∃ q, w' = wx.drewN q := fun wx => set_yes n b 2 hn (by decide) hb wx
  have s2 : ∀ wx, Calls Tryd.prog 23 #[.int .u64 ((withL n 2 b : Nat) : Int), .int .i64 2, .int .u8 ((ln n 2 : Nat) : Int)] wx fun e w' => e = .returned (.tuple #[.int .u64 (n : Int), .nilIface]) ∧ ∃ q, w' = wx.drewN q := fun wx => by
    have h := set_yes (withL n 2 b) (ln n 2) 2 lt (by decide) ho wx
    rw [withL_back n 2 b hn hb8] at h; exact h
  have y0 : ∀ wx, Calls Tryd.prog 22 #[.int .u64 ((withL n 2 b : Nat) : Int), .int .i64 0] wx fun e w' => e = .returned (.int .u8 ((ln n 0 : Nat) : Int)) ∧ wx = w' := fun wx => by
    have h := get_yes (withL n 2 b) 0 lt (by decide) wx
    rw [ln_withL_at n 2 b 0 hb8 (by decide), if_neg (by decide)] at h; exact h
  have g0 : ∀ wx, Calls Tryd.prog 22 #[.int .u64 (n : Int), .int .i64 0] wx fun e w' => e = .returned (.int .u8 ((ln n 0 : Nat) : Int)) ∧ wx = w' := fun wx => get_yes n 0 hn (by decide) wx
  have y1 : ∀ wx, Calls Tryd.prog 22 #[.int .u64 ((withL n 2 b : Nat) : Int), .int .i64 1] wx fun e w' => e = .returned (.int .u8 ((ln n 1 : Nat) : Int)) ∧ wx = w' := fun wx => by
    have h := get_yes (withL n 2 b) 1 lt (by decide) wx
    rw [ln_withL_at n 2 b 1 hb8 (by decide), if_neg (by decide)] at h; exact h
  have g1 : ∀ wx, Calls Tryd.prog 22 #[.int .u64 (n : Int), .int .i64 1] wx fun e w' => e = .returned (.int .u8 ((ln n 1 : Nat) : Int)) ∧ wx = w' := fun wx => get_yes n 1 hn (by decide) wx
  have y2 : ∀ wx, Calls Tryd.prog 22 #[.int .u64 ((withL n 2 b : Nat) : Int), .int .i64 2] wx fun e w' => e = .returned (.int .u8 ((b : Nat) : Int)) ∧ wx = w' := fun wx => by
    have h := get_yes (withL n 2 b) 2 lt (by decide) wx
    rw [ln_withL_at n 2 b 2 hb8 (by decide), if_pos rfl] at h; exact h
  have g2 : ∀ wx, Calls Tryd.prog 22 #[.int .u64 (n : Int), .int .i64 2] wx fun e w' => e = .returned (.int .u8 ((ln n 2 : Nat) : Int)) ∧ wx = w' := fun wx => get_yes n 2 hn (by decide) wx
  have y3 : ∀ wx, Calls Tryd.prog 22 #[.int .u64 ((withL n 2 b : Nat) : Int), .int .i64 3] wx fun e w' => e = .returned (.int .u8 ((ln n 3 : Nat) : Int)) ∧ wx = w' := fun wx => by
    have h := get_yes (withL n 2 b) 3 lt (by decide) wx
    rw [ln_withL_at n 2 b 3 hb8 (by decide), if_neg (by decide)] at h; exact h
  have g3 : ∀ wx, Calls Tryd.prog 22 #[.int .u64 (n : Int), .int .i64 3] wx fun e w' => e = .returned (.int .u8 ((ln n 3 : Nat) : Int)) ∧ wx = w' := fun wx => get_yes n 3 hn (by decide) wx
  have y4 : ∀ wx, Calls Tryd.prog 22 #[.int .u64 ((withL n 2 b : Nat) : Int), .int .i64 4] wx fun e w' => e = .returned (.int .u8 ((ln n 4 : Nat) : Int)) ∧ wx = w' := fun wx => by
    have h := get_yes (withL n 2 b) 4 lt (by decide) wx
    rw [ln_withL_at n 2 b 4 hb8 (by decide), if_neg (by decide)] at h; exact h
  have g4 : ∀ wx, Calls Tryd.prog 22 #[.int .u64 (n : Int), .int .i64 4] wx fun e w' => e = .returned (.int .u8 ((ln n 4 : Nat) : Int)) ∧ wx = w' := fun wx => get_yes n 4 hn (by decide) wx
  have y5 : ∀ wx, Calls Tryd.prog 22 #[.int .u64 ((withL n 2 b : Nat) : Int), .int .i64 5] wx fun e w' => e = .returned (.int .u8 ((ln n 5 : Nat) : Int)) ∧ wx = w' := fun wx => by
    have h := get_yes (withL n 2 b) 5 lt (by decide) wx
    rw [ln_withL_at n 2 b 5 hb8 (by decide), if_neg (by decide)] at h; exact h
  have g5 : ∀ wx, Calls Tryd.prog 22 #[.int .u64 (n : Int), .int .i64 5] wx fun e w' => e = .returned (.int .u8 ((ln n 5 : Nat) : Int)) ∧ wx = w' := fun wx => get_yes n 5 hn (by decide) wx
  have y6 : ∀ wx, Calls Tryd.prog 22 #[.int .u64 ((withL n 2 b : Nat) : Int), .int .i64 6] wx fun e w' => e = .returned (.int .u8 ((ln n 6 : Nat) : Int)) ∧ wx = w' := fun wx => by
    have h := get_yes (withL n 2 b) 6 lt (by decide) wx
    rw [ln_withL_at n 2 b 6 hb8 (by decide), if_neg (by decide)] at h; exact h
  have g6 : ∀ wx, Calls Tryd.prog 22 #[.int .u64 (n : Int), .int .i64 6] wx fun e w' => e = .returned (.int .u8 ((ln n 6 : Nat) : Int)) ∧ wx = w' := fun wx => get_yes n 6 hn (by decide) wx
  have y7 : ∀ wx, Calls Tryd.prog 22 #[.int .u64 ((withL n 2 b : Nat) : Int), .int .i64 7] wx fun e w' => e = .returned (.int .u8 ((ln n 7 : Nat) : Int)) ∧ wx = w' := fun wx => by
    have h := get_yes (withL n 2 b) 7 lt (by decide) wx
    rw [ln_withL_at n 2 b 7 hb8 (by decide), if_neg (by decide)] at h; exact h
  have g7 : ∀ wx, Calls Tryd.prog 22 #[.int .u64 (n : Int), .int .i64 7] wx fun e w' => e = .returned (.int .u8 ((ln n 7 : Nat) : Int)) ∧ wx = w' := fun wx => get_yes n 7 hn (by decide) wx
  clear ho
  generalize withL n 2 b = m at *
  go_enter Tryd.func5, Tryd.ntmps5
  go_wp2_with (first
    | (go_at_call 7; refine (alive_any _).mono ?_; rintro e w1 ⟨rfl, hb1⟩)
    | (go_at_call 18; (with_reducible refine (rN _).mono ?_); rintro e w' ⟨rfl, rfl⟩)
    | (go_at_call 12; refine (empties_any n hn _).mono ?_; rintro e w' ⟨rfl, rfl⟩)
    | (go_at_call 14; refine (deleteds_any n hn _).mono ?_; rintro e w' ⟨rfl, rfl⟩)
    | (go_at_call 15; refine (fulls_any n hn _).mono ?_; rintro e w' ⟨rfl, rfl⟩)
    | (go_at_call 16; refine (frees_any n hn _).mono ?_; rintro e w' ⟨rfl, rfl⟩)
    | (go_at_call 27; (with_reducible refine (k1 _).mono ?_); rintro e w' ⟨rfl, rfl⟩)
    | (go_at_call 27; (with_reducible refine (k2 _).mono ?_); rintro e w' ⟨rfl, rfl⟩)
    | (go_at_call 27; (with_reducible refine (k3 _).mono ?_); rintro e w' ⟨rfl, rfl⟩)
    | (go_at_call 23; (with_reducible refine (s1 _).mono ?_); rintro e w2 ⟨rfl, q, rfl⟩))
  refine wp_loop_rounds 9 ?_
  rw [rounds_succ]; go_wp2_with (first
    | (go_at_call 22; (with_reducible refine (y0 _).mono ?_); rintro e w' ⟨rfl, rfl⟩)
    | (go_at_call 22; (with_reducible refine (g0 _).mono ?_); rintro e w' ⟨rfl, rfl⟩))
  rw [rounds_succ]; go_wp2_with (first
    | (go_at_call 22; (with_reducible refine (y1 _).mono ?_); rintro e w' ⟨rfl, rfl⟩)
    | (go_at_call 22; (with_reducible refine (g1 _).mono ?_); rintro e w' ⟨rfl, rfl⟩))
  rw [rounds_succ]; go_wp2_with (first
    | (go_at_call 22; (with_reducible refine (y2 _).mono ?_); rintro e w' ⟨rfl, rfl⟩)
    | (go_at_call 22; (with_reducible refine (g2 _).mono ?_); rintro e w' ⟨rfl, rfl⟩))
  rw [rounds_succ]; go_wp2_with (first
    | (go_at_call 22; (with_reducible refine (y3 _).mono ?_); rintro e w' ⟨rfl, rfl⟩)
    | (go_at_call 22; (with_reducible refine (g3 _).mono ?_); rintro e w' ⟨rfl, rfl⟩))
  rw [rounds_succ]; go_wp2_with (first
    | (go_at_call 22; (with_reducible refine (y4 _).mono ?_); rintro e w' ⟨rfl, rfl⟩)
    | (go_at_call 22; (with_reducible refine (g4 _).mono ?_); rintro e w' ⟨rfl, rfl⟩))
  rw [rounds_succ]; go_wp2_with (first
    | (go_at_call 22; (with_reducible refine (y5 _).mono ?_); rintro e w' ⟨rfl, rfl⟩)
    | (go_at_call 22; (with_reducible refine (g5 _).mono ?_); rintro e w' ⟨rfl, rfl⟩))
  rw [rounds_succ]; go_wp2_with (first
    | (go_at_call 22; (with_reducible refine (y6 _).mono ?_); rintro e w' ⟨rfl, rfl⟩)
    | (go_at_call 22; (with_reducible refine (g6 _).mono ?_); rintro e w' ⟨rfl, rfl⟩))
  rw [rounds_succ]; go_wp2_with (first
    | (go_at_call 22; (with_reducible refine (y7 _).mono ?_); rintro e w' ⟨rfl, rfl⟩)
    | (go_at_call 22; (with_reducible refine (g7 _).mono ?_); rintro e w' ⟨rfl, rfl⟩))
  rw [rounds_succ]; go_wp2_with (first
    | (go_at_call 22; (with_reducible refine (g2 _).mono ?_); rintro e w' ⟨rfl, rfl⟩)
    | (go_at_call 18; (with_reducible refine (rN _).mono ?_); rintro e w' ⟨rfl, rfl⟩)
    | (go_at_call 18; (with_reducible refine (rY _).mono ?_); rintro e w' ⟨rfl, rfl⟩)
    | (go_at_call 23; (with_reducible refine (s2 _).mono ?_); rintro e w2 ⟨rfl, q2, rfl⟩))
  all_goals
    go_ret
    exact ⟨by simp, below_step hb1 (drewN_below _ _)⟩
set_option maxHeartbeats 2000000 in
set_option maxRecDepth 20000 in
theorem apart_A3 (n b : Nat) (hn : n < 18446744073709551616) (hb8 : b < 256) (hb : okB b = true) (hr : okW n = true) (w : World) :
    Calls Tryd.prog 5 #[.int .u64 n, .int .i64 3, .int .u8 b] w fun e w' => e = .returned (.bool true) ∧ Below w.heap.size w w' := by
  have rN := fun wx => right_any n hn wx
  rw [hr] at rN
  have hs := cnt_kinds n hn hr
  have HO := or_kinds n hr
  have HA := and_kinds n hn
  have k1 := fun wx => count_any (eqM n 128) (eqM_lt _ _) wx
  have k2 := fun wx => count_any (eqM n 254) (eqM_lt _ _) wx
  have k3 := fun wx => count_any (hiM (18446744073709551615 - n)) (hiM_lt _) wx
  generalize cnt (eqM n 128) = c1 at *
  generalize cnt (eqM n 254) = c2 at *
  generalize cnt (hiM (18446744073709551615 - n)) = c3 at *
  have ho := okW_at n 3 hr (by decide)
  have rY := fun wx => right_any (withL n 3 b) (withL_lt _ _ _ hb8) wx
  rw [okW_with n 3 b hr hb8 hb] at rY
  have lt := withL_lt n 3 b hb8
  have s1 : ∀ wx, Calls Tryd.prog 23 #[.int .u64 (n : Int), .int .i64 3, .int .u8 (b : Int)] wx fun e w' => e = .returned (.tuple #[.int .u64 ((withL n 3 b : Nat) : Int), .nilIface]) ∧ ∃ q, w' = wx.drewN q := fun wx => set_yes n b 3 hn (by decide) hb wx
  have s2 : ∀ wx, Calls Tryd.prog 23 #[.int .u64 ((withL n 3 b : Nat) : Int), .int .i64 3, .int .u8 ((ln n 3 : Nat) : Int)] wx fun e w' => e = .returned (.tuple #[.int .u64 (n : Int), .nilIface]) ∧ ∃ q, w' = wx.drewN q := fun wx => by
    have h := set_yes (withL n 3 b) (ln n 3) 3 lt (by decide) ho wx
    rw [withL_back n 3 b hn hb8] at h; exact h
  have y0 : ∀ wx, Calls Tryd.prog 22 #[.int .u64 ((withL n 3 b : Nat) : Int), .int .i64 0] wx fun e w' => e = .returned (.int .u8 ((ln n 0 : Nat) : Int)) ∧ wx = w' := fun wx => by
    have h := get_yes (withL n 3 b) 0 lt (by decide) wx
    rw [ln_withL_at n 3 b 0 hb8 (by decide), if_neg (by decide)] at h; exact h
  have g0 : ∀ wx, Calls Tryd.prog 22 #[.int .u64 (n : Int), .int .i64 0] wx fun e w' => e = .returned (.int .u8 ((ln n 0 : Nat) : Int)) ∧ wx = w' := fun wx => get_yes n 0 hn (by decide) wx
  have y1 : ∀ wx, Calls Tryd.prog 22 #[.int .u64 ((withL n 3 b : Nat) : Int), .int .i64 1] wx fun e w' => e = .returned (.int .u8 ((ln n 1 : Nat) : Int)) ∧ wx = w' := fun wx => by
    have h := get_yes (withL n 3 b) 1 lt (by decide) wx
    rw [ln_withL_at n 3 b 1 hb8 (by decide), if_neg (by decide)] at h; exact h
  have g1 : ∀ wx, Calls Tryd.prog 22 #[.int .u64 (n : Int), .int .i64 1] wx fun e w' => e = .returned (.int .u8 ((ln n 1 : Nat) : Int)) ∧ wx = w' := fun wx => get_yes n 1 hn (by decide) wx
  have y2 : ∀ wx, Calls Tryd.prog 22 #[.int .u64 ((withL n 3 b : Nat) : Int), .int .i64 2] wx fun e w' => e = .returned (.int .u8 ((ln n 2 : Nat) : Int)) ∧ wx = w' := fun wx => by
    have h := get_yes (withL n 3 b) 2 lt (by decide) wx
    rw [ln_withL_at n 3 b 2 hb8 (by decide), if_neg (by decide)] at h; exact h
  have g2 : ∀ wx, Calls Tryd.prog 22 #[.int .u64 (n : Int), .int .i64 2] wx fun e w' => e = .returned (.int .u8 ((ln n 2 : Nat) : Int)) ∧ wx = w' := fun wx => get_yes n 2 hn (by decide) wx
  have y3 : ∀ wx, Calls Tryd.prog 22 #[.int .u64 ((withL n 3 b : Nat) : Int), .int .i64 3] wx fun e w' => e = .returned (.int .u8 ((b : Nat) : Int)) ∧ wx = w' := fun wx => by
    have h := get_yes (withL n 3 b) 3 lt (by decide) wx
    rw [ln_withL_at n 3 b 3 hb8 (by decide), if_pos rfl] at h; exact h
  have g3 : ∀ wx, Calls Tryd.prog 22 #[.int .u64 (n : Int), .int .i64 3] wx fun e w' => e = .returned (.int .u8 ((ln n 3 : Nat) : Int)) ∧ wx = w' := fun wx => get_yes n 3 hn (by decide) wx
  have y4 : ∀ wx, Calls Tryd.prog 22 #[.int .u64 ((withL n 3 b : Nat) : Int), .int .i64 4] wx fun e w' => e = .returned (.int .u8 ((ln n 4 : Nat) : Int)) ∧ wx = w' := fun wx => by
    have h := get_yes (withL n 3 b) 4 lt (by decide) wx
    rw [ln_withL_at n 3 b 4 hb8 (by decide), if_neg (by decide)] at h; exact h
  have g4 : ∀ wx, Calls Tryd.prog 22 #[.int .u64 (n : Int), .int .i64 4] wx fun e w' => e = .returned (.int .u8 ((ln n 4 : Nat) : Int)) ∧ wx = w' := fun wx => get_yes n 4 hn (by decide) wx
  have y5 : ∀ wx, Calls Tryd.prog 22 #[.int .u64 ((withL n 3 b : Nat) : Int), .int .i64 5] wx fun e w' => e = .returned (.int .u8 ((ln n 5 : Nat) : Int)) ∧ wx = w' := fun wx => by
    have h := get_yes (withL n 3 b) 5 lt (by decide) wx
    rw [ln_withL_at n 3 b 5 hb8 (by decide), if_neg (by decide)] at h; exact h
  have g5 : ∀ wx, Calls Tryd.prog 22 #[.int .u64 (n : Int), .int .i64 5] wx fun e w' => e = .returned (.int .u8 ((ln n 5 : Nat) : Int)) ∧ wx = w' := fun wx => get_yes n 5 hn (by decide) wx
  have y6 : ∀ wx, Calls Tryd.prog 22 #[.int .u64 ((withL n 3 b : Nat) : Int), .int .i64 6] wx fun e w' => e = .returned (.int .u8 ((ln n 6 : Nat) : Int)) ∧ wx = w' := fun wx => by
    have h := get_yes (withL n 3 b) 6 lt (by decide) wx
    rw [ln_withL_at n 3 b 6 hb8 (by decide), if_neg (by decide)] at h; exact h
  have g6 : ∀ wx, Calls Tryd.prog 22 #[.int .u64 (n : Int), .int .i64 6] wx fun e w' => e = .returned (.int .u8 ((ln n 6 : Nat) : Int)) ∧ wx = w' := fun wx => get_yes n 6 hn (by decide) wx
  have y7 : ∀ wx, Calls Tryd.prog 22 #[.int .u64 ((withL n 3 b : Nat) : Int), .int .i64 7] wx fun e w' => e = .returned (.int .u8 ((ln n 7 : Nat) : Int)) ∧ wx = w' := fun wx => by
    have h := get_yes (withL n 3 b) 7 lt (by decide) wx
    rw [ln_withL_at n 3 b 7 hb8 (by decide), if_neg (by decide)] at h; exact h
  have g7 : ∀ wx, Calls Tryd.prog 22 #[.int .u64 (n : Int), .int .i64 7] wx fun e w' => e = .returned (.int .u8 ((ln n 7 : Nat) : Int)) ∧ wx = w' := fun wx => get_yes n 7 hn (by decide) wx
  clear ho
  generalize withL n 3 b = m at *
  go_enter Tryd.func5, Tryd.ntmps5
  go_wp2_with (first
    | (go_at_call 7; refine (alive_any _).mono ?_; rintro e w1 ⟨rfl, hb1⟩)
    | (go_at_call 18; (with_reducible refine (rN _).mono ?_); rintro e w' ⟨rfl, rfl⟩)
    | (go_at_call 12; refine (empties_any n hn _).mono ?_; rintro e w' ⟨rfl, rfl⟩)
    | (go_at_call 14; refine (deleteds_any n hn _).mono ?_; rintro e w' ⟨rfl, rfl⟩)
    | (go_at_call 15; refine (fulls_any n hn _).mono ?_; rintro e w' ⟨rfl, rfl⟩)
    | (go_at_call 16; refine (frees_any n hn _).mono ?_; rintro e w' ⟨rfl, rfl⟩)
    | (go_at_call 27; (with_reducible refine (k1 _).mono ?_); rintro e w' ⟨rfl, rfl⟩)
    | (go_at_call 27; (with_reducible refine (k2 _).mono ?_); rintro e w' ⟨rfl, rfl⟩)
    | (go_at_call 27; (with_reducible refine (k3 _).mono ?_); rintro e w' ⟨rfl, rfl⟩)
    | (go_at_call 23; (with_reducible refine (s1 _).mono ?_); rintro e w2 ⟨rfl, q, rfl⟩))
  refine wp_loop_rounds 9 ?_
  rw [rounds_succ]; go_wp2_with (first
    | (go_at_call 22; (with_reducible refine (y0 _).mono ?_); rintro e w' ⟨rfl, rfl⟩)
    | (go_at_call 22; (with_reducible refine (g0 _).mono ?_); rintro e w' ⟨rfl, rfl⟩))
  rw [rounds_succ]; go_wp2_with (first
    | (go_at_call 22; (with_reducible refine (y1 _).mono ?_); rintro e w' ⟨rfl, rfl⟩)
    | (go_at_call 22; (with_reducible refine (g1 _).mono ?_); rintro e w' ⟨rfl, rfl⟩))
  rw [rounds_succ]; go_wp2_with (first
    | (go_at_call 22; (with_reducible refine (y2 _).mono ?_); rintro e w' ⟨rfl, rfl⟩)
    | (go_at_call 22; (with_reducible refine (g2 _).mono ?_); rintro e w' ⟨rfl, rfl⟩))
  rw [rounds_succ]; go_wp2_with (first
    | (go_at_call 22; (with_reducible refine (y3 _).mono ?_); rintro e w' ⟨rfl, rfl⟩)
    | (go_at_call 22; (with_reducible refine (g3 _).mono ?_); rintro e w' ⟨rfl, rfl⟩))
  rw [rounds_succ]; go_wp2_with (first
    | (go_at_call 22; (with_reducible refine (y4 _).mono ?_); rintro e w' ⟨rfl, rfl⟩)
    | (go_at_call 22; (with_reducible refine (g4 _).mono ?_); rintro e w' ⟨rfl, rfl⟩))
  rw [rounds_succ]; go_wp2_with (first
    | (go_at_call 22; (with_reducible refine (y5 _).mono ?_); rintro e w' ⟨rfl, rfl⟩)
    | (go_at_call 22; (with_reducible refine (g5 _).mono ?_); rintro e w' ⟨rfl, rfl⟩))
  rw [rounds_succ]; go_wp2_with (first
    | (go_at_call 22; (with_reducible refine (y6 _).mono ?_); rintro e w' ⟨rfl, rfl⟩)
    | (go_at_call 22; (with_reducible refine (g6 _).mono ?_); rintro e w' ⟨rfl, rfl⟩))
  rw [rounds_succ]; go_wp2_with (first
    | (go_at_call 22; (with_reducible refine (y7 _).mono ?_); rintro e w' ⟨rfl, rfl⟩)
    | (go_at_call 22; (with_reducible refine (g7 _).mono ?_); rintro e w' ⟨rfl, rfl⟩))
  rw [rounds_succ]; go_wp2_with (first
    | (go_at_call 22; (with_reducible refine (g3 _).mono ?_); rintro e w' ⟨rfl, rfl⟩)
    | (go_at_call 18; (with_reducible refine (rN _).mono ?_); rintro e w' ⟨rfl, rfl⟩)
    | (go_at_call 18; (with_reducible refine (rY _).mono ?_); rintro e w' ⟨rfl, rfl⟩)
    | (go_at_call 23; (with_reducible refine (s2 _).mono ?_); rintro e w2 ⟨rfl, q2, rfl⟩))
  all_goals
    go_ret
    exact ⟨by simp, below_step hb1 (drewN_below _ _)⟩
set_option maxHeartbeats 2000000 in
set_option maxRecDepth 20000 in
theorem apart_A4 (n b : Nat) (hn : n < 18446744073709551616) (hb8 : b < 256) (hb : okB b = true) (hr : okW n = true) (w : World) :
    Calls Tryd.prog 5 #[.int .u64 n, .int .i64 4, .int .u8 b] w fun e w' => e = .returned (.bool true) ∧ Below w.heap.size w w' := by
  have rN := fun wx => right_any n hn wx
  rw [hr] at rN
  have hs := cnt_kinds n hn hr
  have HO := or_kinds n hr
  have HA := and_kinds n hn
  have k1 := fun wx => count_any (eqM n 128) (eqM_lt _ _) wx
  have k2 := fun wx => count_any (eqM n 254) (eqM_lt _ _) wx
  have k3 := fun wx => count_any (hiM (18446744073709551615 - n)) (hiM_lt _) wx
  generalize cnt (eqM n 128) = c1 at *
  generalize cnt (eqM n 254) = c2 at *
  generalize cnt (hiM (18446744073709551615 - n)) = c3 at *
  have ho := okW_at n 4 hr (by decide)
  have rY := fun wx => right_any (withL n 4 b) (withL_lt _ _ _ hb8) wx
  rw [okW_with n 4 b hr hb8 hb] at rY
  have lt := withL_lt n 4 b hb8
  have s1 : ∀ wx, Calls Tryd.prog 23 #[.int .u64 (n : Int), .int .i64 4, .int .u8 (b : Int)] wx fun e w' => e = .returned (.tuple #[.int .u64 ((withL n 4 b : Nat) : Int), .nilIface]) ∧ ∃ q, w' = wx.drewN q := fun wx => set_yes n b 4 hn (by decide) hb wx
  have s2 : ∀ wx, Calls Tryd.prog 23 #[.int .u64 ((withL n 4 b : Nat) : Int), .int .i64 4, .int .u8 ((ln n 4 : Nat) : Int)] wx fun e w' => e = .returned (.tuple #[.int .u64 (n : Int), .nilIface]) ∧ ∃ q, w' = wx.drewN q := fun wx => by
    have h := set_yes (withL n 4 b) (ln n 4) 4 lt (by decide) ho wx
    rw [withL_back n 4 b hn hb8] at h; exact h
  have y0 : ∀ wx, Calls Tryd.prog 22 #[.int .u64 ((withL n 4 b : Nat) : Int), .int .i64 0] wx fun e w' => e = .returned (.int .u8 ((ln n 0 : Nat) : Int)) ∧ wx = w' := fun wx => by
    have h := get_yes (withL n 4 b) 0 lt (by decide) wx
    rw [ln_withL_at n 4 b 0 hb8 (by decide), if_neg (by decide)] at h; exact h
  have g0 : ∀ wx, Calls Tryd.prog 22 #[.int .u64 (n : Int), .int .i64 0] wx fun e w' => e = .returned (.int .u8 ((ln n 0 : Nat) : Int)) ∧ wx = w' := fun wx => get_yes n 0 hn (by decide) wx
  have y1 : ∀ wx, Calls Tryd.prog 22 #[.int .u64 ((withL n 4 b : Nat) : Int), .int .i64 1] wx fun e w' => e = .returned (.int .u8 ((ln n 1 : Nat) : Int)) ∧ wx = w' := fun wx => by
    have h := get_yes (withL n 4 b) 1 lt (by decide) wx
    rw [ln_withL_at n 4 b 1 hb8 (by decide), if_neg (by decide)] at h; exact h
  have g1 : ∀ wx, Calls Tryd.prog 22 #[.int .u64 (n : Int), .int .i64 1] wx fun e w' => e = .returned (.int .u8 ((ln n 1 : Nat) : Int)) ∧ wx = w' := fun wx => get_yes n 1 hn (by decide) wx
  have y2 : ∀ wx, Calls Tryd.prog 22 #[.int .u64 ((withL n 4 b : Nat) : Int), .int .i64 2] wx fun e w' => e = .returned (.int .u8 ((ln n 2 : Nat) : Int)) ∧ wx = w' := fun wx => by
    have h := get_yes (withL n 4 b) 2 lt (by decide) wx
    rw [ln_withL_at n 4 b 2 hb8 (by decide), if_neg (by decide)] at h; exact h
  have g2 : ∀ wx, Calls Tryd.prog 22 #[.int .u64 (n : Int), .int .i64 2] wx fun e w' => e = .returned (.int .u8 ((ln n 2 : Nat) : Int)) ∧ wx = w' := fun wx => get_yes n 2 hn (by decide) wx
  have y3 : ∀ wx, Calls Tryd.prog 22 #[.int .u64 ((withL n 4 b : Nat) : Int), .int .i64 3] wx fun e w' => e = .returned (.int .u8 ((ln n 3 : Nat) : Int)) ∧ wx = w' := fun wx => by
    have h := get_yes (withL n 4 b) 3 lt (by decide) wx
    rw [ln_withL_at n 4 b 3 hb8 (by decide), if_neg (by decide)] at h; exact h
  have g3 : ∀ wx, Calls Tryd.prog 22 #[.int .u64 (n : Int), .int .i64 3] wx fun e w' => e = .returned (.int .u8 ((ln n 3 : Nat) : Int)) ∧ wx = w' := fun wx => get_yes n 3 hn (by decide) wx
  have y4 : ∀ wx, Calls Tryd.prog 22 #[.int .u64 ((withL n 4 b : Nat) : Int), .int .i64 4] wx fun e w' => e = .returned (.int .u8 ((b : Nat) : Int)) ∧ wx = w' := fun wx => by
    have h := get_yes (withL n 4 b) 4 lt (by decide) wx
    rw [ln_withL_at n 4 b 4 hb8 (by decide), if_pos rfl] at h; exact h
  have g4 : ∀ wx, Calls Tryd.prog 22 #[.int .u64 (n : Int), .int .i64 4] wx fun e w' => e = .returned (.int .u8 ((ln n 4 : Nat) : Int)) ∧ wx = w' := fun wx => get_yes n 4 hn (by decide) wx
  have y5 : ∀ wx, Calls Tryd.prog 22 #[.int .u64 ((withL n 4 b : Nat) : Int), .int .i64 5] wx fun e w' => e = .returned (.int .u8 ((ln n 5 : Nat) : Int)) ∧ wx = w' := fun wx => by
    have h := get_yes (withL n 4 b) 5 lt (by decide) wx
    rw [ln_withL_at n 4 b 5 hb8 (by decide), if_neg (by decide)] at h; exact h
  have g5 : ∀ wx, Calls Tryd.prog 22 #[.int .u64 (n : Int), .int .i64 5] wx fun e w' => e = .returned (.int .u8 ((ln n 5 : Nat) : Int)) ∧ wx = w' := fun wx => get_yes n 5 hn (by decide) wx
  have y6 : ∀ wx, Calls Tryd.prog 22 #[.int .u64 ((withL n 4 b : Nat) : Int), .int .i64 6] wx fun e w' => e = .returned (.int .u8 ((ln n 6 : Nat) : Int)) ∧ wx = w' := fun wx => by
    have h := get_yes (withL n 4 b) 6 lt (by decide) wx
    rw [ln_withL_at n 4 b 6 hb8 (by decide), if_neg (by decide)] at h; exact h
  have g6 : ∀ wx, Calls Tryd.prog 22 #[.int .u64 (n : Int), .int .i64 6] wx fun e w' => e = .returned (.int .u8 ((ln n 6 : Nat) : Int)) ∧ wx = w' := fun wx => get_yes n 6 hn (by decide) wx
  have y7 : ∀ wx, Calls Tryd.prog 22 #[.int .u64 ((withL n 4 b : Nat) : Int), .int .i64 7] wx fun e w' => e = .returned (.int .u8 ((ln n 7 : Nat) : Int)) ∧ wx = w' := fun wx => by
    have h := get_yes (withL n 4 b) 7 lt (by decide) wx
    rw [ln_withL_at n 4 b 7 hb8 (by decide), if_neg (by decide)] at h; exact h
  have g7 : ∀ wx, Calls Tryd.prog 22 #[.int .u64 (n : Int), .int .i64 7] wx fun e w' => e = .returned (.int .u8 ((ln n 7 : Nat) : Int)) ∧ wx = w' := fun wx => get_yes n 7 hn (by decide) wx
  clear ho
  generalize withL n 4 b = m at *
  go_enter Tryd.func5, Tryd.ntmps5
  go_wp2_with (first
    | (go_at_call 7; refine (alive_any _).mono ?_; rintro e w1 ⟨rfl, hb1⟩)
    | (go_at_call 18; (with_reducible refine (rN _).mono ?_); rintro e w' ⟨rfl, rfl⟩)
    | (go_at_call 12; refine (empties_any n hn _).mono ?_; rintro e w' ⟨rfl, rfl⟩)
    | (go_at_call 14; refine (deleteds_any n hn _).mono ?_; rintro e w' ⟨rfl, rfl⟩)
    | (go_at_call 15; refine (fulls_any n hn _).mono ?_; rintro e w' ⟨rfl, rfl⟩)
    | (go_at_call 16; refine (frees_any n hn _).mono ?_; rintro e w' ⟨rfl, rfl⟩)
    | (go_at_call 27; (with_reducible refine (k1 _).mono ?_); rintro e w' ⟨rfl, rfl⟩)
    | (go_at_call 27; (with_reducible refine (k2 _).mono ?_); rintro e w' ⟨rfl, rfl⟩)
    | (go_at_call 27; (with_reducible refine (k3 _).mono ?_); rintro e w' ⟨rfl, rfl⟩)
    | (go_at_call 23; (with_reducible refine (s1 _).mono ?_); rintro e w2 ⟨rfl, q, rfl⟩))
  refine wp_loop_rounds 9 ?_
  rw [rounds_succ]; go_wp2_with (first
    | (go_at_call 22; (with_reducible refine (y0 _).mono ?_); rintro e w' ⟨rfl, rfl⟩)
    | (go_at_call 22; (with_reducible refine (g0 _).mono ?_); rintro e w' ⟨rfl, rfl⟩))
  rw [rounds_succ]; go_wp2_with (first
    | (go_at_call 22; (with_reducible refine (y1 _).mono ?_); rintro e w' ⟨rfl, rfl⟩)
    | (go_at_call 22; (with_reducible refine (g1 _).mono ?_); rintro e w' ⟨rfl, rfl⟩))
  rw [rounds_succ]; go_wp2_with (first
    | (go_at_call 22; (with_reducible refine (y2 _).mono ?_); rintro e w' ⟨rfl, rfl⟩)
    | (go_at_call 22; (with_reducible refine (g2 _).mono ?_); rintro e w' ⟨rfl, rfl⟩))
  rw [rounds_succ]; go_wp2_with (first
    | (go_at_call 22; (with_reducible refine (y3 _).mono ?_); rintro e w' ⟨rfl, rfl⟩)
    | (go_at_call 22; (with_reducible refine (g3 _).mono ?_); rintro e w' ⟨rfl, rfl⟩))
  rw [rounds_succ]; go_wp2_with (first
    | (go_at_call 22; (with_reducible refine (y4 _).mono ?_); rintro e w' ⟨rfl, rfl⟩)
    | (go_at_call 22; (with_reducible refine (g4 _).mono ?_); rintro e w' ⟨rfl, rfl⟩))
  rw [rounds_succ]; go_wp2_with (first
    | (go_at_call 22; (with_reducible refine (y5 _).mono ?_); rintro e w' ⟨rfl, rfl⟩)
    | (go_at_call 22; (with_reducible refine (g5 _).mono ?_); rintro e w' ⟨rfl, rfl⟩))
  rw [rounds_succ]; go_wp2_with (first
    | (go_at_call 22; (with_reducible refine (y6 _).mono ?_); rintro e w' ⟨rfl, rfl⟩)
    | (go_at_call 22; (with_reducible refine (g6 _).mono ?_); rintro e w' ⟨rfl, rfl⟩))
  rw [rounds_succ]; go_wp2_with (first
    | (go_at_call 22; (with_reducible refine (y7 _).mono ?_); rintro e w' ⟨rfl, rfl⟩)
    | (go_at_call 22; (with_reducible refine (g7 _).mono ?_); rintro e w' ⟨rfl, rfl⟩))
  rw [rounds_succ]; go_wp2_with (first
    | (go_at_call 22; (with_reducible refine (g4 _).mono ?_); rintro e w' ⟨rfl, rfl⟩)
    | (go_at_call 18; (with_reducible refine (rN _).mono ?_); rintro e w' ⟨rfl, rfl⟩)
    | (go_at_call 18; (with_reducible refine (rY _).mono ?_); rintro e w' ⟨rfl, rfl⟩)
    | (go_at_call 23; (with_reducible refine (s2 _).mono ?_); rintro e w2 ⟨rfl, q2, rfl⟩))
  all_goals
    go_ret
    exact ⟨by simp, below_step hb1 (drewN_below _ _)⟩
set_option maxHeartbeats 2000000 in
set_option maxRecDepth 20000 in
theorem apart_A5 (n b : Nat) (hn : n < 18446744073709551616) (hb8 : b < 256) (hb : okB b = true) (hr : okW n = true) (w : World) :
    Calls Tryd.prog 5 #[.int .u64 n, .int .i64 5, .int .u8 b] w fun e w' => e = .returned (.bool true) ∧ Below w.heap.size w w' := by
  have rN := fun wx => right_any n hn wx
  rw [hr] at rN
  have hs := cnt_kinds n hn hr
  have HO := or_kinds n hr
  have HA := and_kinds n hn
  have k1 := fun wx => count_any (eqM n 128) (eqM_lt _ _) wx
  have k2 := fun wx => count_any (eqM n 254) (eqM_lt _ _) wx
  have k3 := fun wx => count_any (hiM (18446744073709551615 - n)) (hiM_lt _) wx
  generalize cnt (eqM n 128) = c1 at *
  generalize cnt (eqM n 254) = c2 at *
  generalize cnt (hiM (18446744073709551615 - n)) = c3 at *
  have ho := okW_at n 5 hr (by decide)
  have rY := fun wx => right_any (withL n 5 b) (withL_lt _ _ _ hb8) wx
  rw [okW_with n 5 b hr hb8 hb] at rY
  have lt := withL_lt n 5 b hb8
  have s1 : ∀ wx, Calls Tryd.prog 23 #[.int .u64 (n : Int), .int .i64 5, .int .u8 (b : Int)] wx fun e w' => e = .returned (.tuple #[.int .u64 ((withL n 5 b : Nat) : Int), .nilIface]) ∧ ∃ q, w' = wx.drewN q := fun wx => set_yes n b 5 hn (by decide) hb wx
  have s2 : ∀ wx, Calls Tryd.prog 23 #[.int .u64 ((withL n 5 b : Nat) : Int), .int .i64 5, .int .u8 ((ln n 5 : Nat) : Int)] wx fun e w' => e = .returned (.tuple #[.int .u64 (n : Int), .nilIface]) ∧ ∃ q, w' = wx.drewN q := fun wx => by
    have h := set_yes (withL n 5 b) (ln n 5) 5 lt (by decide) ho wx
    rw [withL_back n 5 b hn hb8] at h; exact h
  have y0 : ∀ wx, Calls Tryd.prog 22 #[.int .u64 ((withL n 5 b : Nat) : Int), .int .i64 0] wx fun e w' => e = .returned (.int .u8 ((ln n 0 : Nat) : Int)) ∧ wx = w' := fun wx => by
    have h := get_yes (withL n 5 b) 0 lt (by decide) wx
    rw [ln_withL_at n 5 b 0 hb8 (by decide), if_neg (by decide)] at h; exact h
  have g0 : ∀ wx, Calls Tryd.prog 22 #[.int .u64 (n : Int), .int .i64 0] wx fun e w' => e = .returned (.int .u8 ((ln n 0 : Nat) : Int)) ∧ wx = w' := fun wx => get_yes n 0 hn (by decide) wx
  have y1 : ∀ wx, Calls Tryd.prog 22 #[.int .u64 ((withL n 5 b : Nat) : Int), .int .i64 1] wx fun e w' => e = .returned (.int .u8 ((ln n 1 : Nat) : Int)) ∧ wx = w' := fun wx => by
    have h := get_yes (withL n 5 b) 1 lt (by decide) wx
    rw [ln_withL_at n 5 b 1 hb8 (by decide), if_neg (by decide)] at h; exact h
  have g1 : ∀ wx, Calls Tryd.prog 22 #[.int .u64 (n : Int), .int .i64 1] wx fun e w' => e = .returned (.int .u8 ((ln n 1 : Nat) : Int)) ∧ wx = w' := fun wx => get_yes n 1 hn (by decide) wx
  have y2 : ∀ wx, Calls Tryd.prog 22 #[.int .u64 ((withL n 5 b : Nat) : Int), .int .i64 2] wx fun e w' => e = .returned (.int .u8 ((ln n 2 : Nat) : Int)) ∧ wx = w' := fun wx => by
    have h := get_yes (withL n 5 b) 2 lt (by decide) wx
    rw [ln_withL_at n 5 b 2 hb8 (by decide), if_neg (by decide)] at h; exact h
  have g2 : ∀ wx, Calls Tryd.prog 22 #[.int .u64 (n : Int), .int .i64 2] wx fun e w' => e = .returned (.int .u8 ((ln n 2 : Nat) : Int)) ∧ wx = w' := fun wx => get_yes n 2 hn (by decide) wx
  have y3 : ∀ wx, Calls Tryd.prog 22 #[.int .u64 ((withL n 5 b : Nat) : Int), .int .i64 3] wx fun e w' => e = .returned (.int .u8 ((ln n 3 : Nat) : Int)) ∧ wx = w' := fun wx => by
    have h := get_yes (withL n 5 b) 3 lt (by decide) wx
    rw [ln_withL_at n 5 b 3 hb8 (by decide), if_neg (by decide)] at h; exact h
  have g3 : ∀ wx, Calls Tryd.prog 22 #[.int .u64 (n : Int), .int .i64 3] wx fun e w' => e = .returned (.int .u8 ((ln n 3 : Nat) : Int)) ∧ wx = w' := fun wx => get_yes n 3 hn (by decide) wx
  have y4 : ∀ wx, Calls Tryd.prog 22 #[.int .u64 ((withL n 5 b : Nat) : Int), .int .i64 4] wx fun e w' => e = .returned (.int .u8 ((ln n 4 : Nat) : Int)) ∧ wx = w' := fun wx => by
    have h := get_yes (withL n 5 b) 4 lt (by decide) wx
    rw [ln_withL_at n 5 b 4 hb8 (by decide), if_neg (by decide)] at h; exact h
  have g4 : ∀ wx, Calls Tryd.prog 22 #[.int .u64 (n : Int), .int .i64 4] wx fun e w' => e = .returned (.int .u8 ((ln n 4 : Nat) : Int)) ∧ wx = w' := fun wx => get_yes n 4 hn (by decide) wx
  have y5 : ∀ wx, Calls Tryd.prog 22 #[.int .u64 ((withL n 5 b : Nat) : Int), .int .i64 5] wx fun e w' => e = .returned (.int .u8 ((b : Nat) : Int)) ∧ wx = w' := fun wx => by
    have h := get_yes (withL n 5 b) 5 lt (by decide) wx
    rw [ln_withL_at n 5 b 5 hb8 (by decide), if_pos rfl] at h; exact h
  have g5 : ∀ wx, Calls Tryd.prog 22 #[.int .u64 (n : Int), .int .i64 5] wx fun e w' => e = .returned (.int .u8 ((ln n 5 : Nat) : Int)) ∧ wx = w' := fun wx => get_yes n 5 hn (by decide) wx
  have y6 : ∀ wx, Calls Tryd.prog 22 #[.int .u64 ((withL n 5 b : Nat) : Int), .int .i64 6] wx fun e w' => e = .returned (.int .u8 ((ln n 6 : Nat) : Int)) ∧ wx = w' := fun wx => by
    have h := get_yes (withL n 5 b) 6 lt (by decide) wx
    rw [ln_withL_at n 5 b 6 hb8 (by decide), if_neg (by decide)] at h; exact h
  have g6 : ∀ wx, Calls Tryd.prog 22 #[.int .u64 (n : Int), .int .i64 6] wx fun e w' => e = .returned (.int .u8 ((ln n 6 : Nat) : Int)) ∧ wx = w' := fun wx => get_yes n 6 hn (by decide) wx
  have y7 : ∀ wx, Calls Tryd.prog 22 #[.int .u64 ((withL n 5 b : Nat) : Int), .int .i64 7] wx fun e w' => e = .returned (.int .u8 ((ln n 7 : Nat) : Int)) ∧ wx = w' := fun wx => by
    have h := get_yes (withL n 5 b) 7 lt (by decide) wx
    rw [ln_withL_at n 5 b 7 hb8 (by decide), if_neg (by decide)] at h; exact h
  have g7 : ∀ wx, Calls Tryd.prog 22 #[.int .u64 (n : Int), .int .i64 7] wx fun e w' => e = .returned (.int .u8 ((ln n 7 : Nat) : Int)) ∧ wx = w' := fun wx => get_yes n 7 hn (by decide) wx
  clear ho
  generalize withL n 5 b = m at *
  go_enter Tryd.func5, Tryd.ntmps5
  go_wp2_with (first
    | (go_at_call 7; refine (alive_any _).mono ?_; rintro e w1 ⟨rfl, hb1⟩)
    | (go_at_call 18; (with_reducible refine (rN _).mono ?_); rintro e w' ⟨rfl, rfl⟩)
    | (go_at_call 12; refine (empties_any n hn _).mono ?_; rintro e w' ⟨rfl, rfl⟩)
    | (go_at_call 14; refine (deleteds_any n hn _).mono ?_; rintro e w' ⟨rfl, rfl⟩)
    | (go_at_call 15; refine (fulls_any n hn _).mono ?_; rintro e w' ⟨rfl, rfl⟩)
    | (go_at_call 16; refine (frees_any n hn _).mono ?_; rintro e w' ⟨rfl, rfl⟩)
    | (go_at_call 27; (with_reducible refine (k1 _).mono ?_); rintro e w' ⟨rfl, rfl⟩)
    | (go_at_call 27; (with_reducible refine (k2 _).mono ?_); rintro e w' ⟨rfl, rfl⟩)
    | (go_at_call 27; (with_reducible refine (k3 _).mono ?_); rintro e w' ⟨rfl, rfl⟩)
    | (go_at_call 23; (with_reducible refine (s1 _).mono ?_); rintro e w2 ⟨rfl, q, rfl⟩))
  refine wp_loop_rounds 9 ?_
  rw [rounds_succ]; go_wp2_with (first
    | (go_at_call 22; (with_reducible refine (y0 _).mono ?_); rintro e w' ⟨rfl, rfl⟩)
    | (go_at_call 22; (with_reducible refine (g0 _).mono ?_); rintro e w' ⟨rfl, rfl⟩))
  rw [rounds_succ]; go_wp2_with (first
    | (go_at_call 22; (with_reducible refine (y1 _).mono ?_); rintro e w' ⟨rfl, rfl⟩)
    | (go_at_call 22; (with_reducible refine (g1 _).mono ?_); rintro e w' ⟨rfl, rfl⟩))
  rw [rounds_succ]; go_wp2_with (first
    | (go_at_call 22; (with_reducible refine (y2 _).mono ?_); rintro e w' ⟨rfl, rfl⟩)
    | (go_at_call 22; (with_reducible refine (g2 _).mono ?_); rintro e w' ⟨rfl, rfl⟩))
  rw [rounds_succ]; go_wp2_with (first
    | (go_at_call 22; (with_reducible refine (y3 _).mono ?_); rintro e w' ⟨rfl, rfl⟩)
    | (go_at_call 22; (with_reducible refine (g3 _).mono ?_); rintro e w' ⟨rfl, rfl⟩))
  rw [rounds_succ]; go_wp2_with (first
    | (go_at_call 22; (with_reducible refine (y4 _).mono ?_); rintro e w' ⟨rfl, rfl⟩)
    | (go_at_call 22; (with_reducible refine (g4 _).mono ?_); rintro e w' ⟨rfl, rfl⟩))
  rw [rounds_succ]; go_wp2_with (first
    | (go_at_call 22; (with_reducible refine (y5 _).mono ?_); rintro e w' ⟨rfl, rfl⟩)
    | (go_at_call 22; (with_reducible refine (g5 _).mono ?_); rintro e w' ⟨rfl, rfl⟩))
  rw [rounds_succ]; go_wp2_with (first
    | (go_at_call 22; (with_reducible refine (y6 _).mono ?_); rintro e w' ⟨rfl, rfl⟩)
    | (go_at_call 22; (with_reducible refine (g6 _).mono ?_); rintro e w' ⟨rfl, rfl⟩))
  rw [rounds_succ]; go_wp2_with (first
    | (go_at_call 22; (with_reducible refine (y7 _).mono ?_); rintro e w' ⟨rfl, rfl⟩)
    | (go_at_call 22; (with_reducible refine (g7 _).mono ?_); rintro e w' ⟨rfl, rfl⟩))
  rw [rounds_succ]; go_wp2_with (first
    | (go_at_call 22; (with_reducible refine (g5 _).mono ?_); rintro e w' ⟨rfl, rfl⟩)
    | (go_at_call 18; (with_reducible refine (rN _).mono ?_); rintro e w' ⟨rfl, rfl⟩)
    | (go_at_call 18; (with_reducible refine (rY _).mono ?_); rintro e w' ⟨rfl, rfl⟩)
    | (go_at_call 23; (with_reducible refine (s2 _).mono ?_); rintro e w2 ⟨rfl, q2, rfl⟩))
  all_goals
    go_ret
    exact ⟨by simp, below_step hb1 (drewN_below _ _)⟩
set_option maxHeartbeats 2000000 in
set_option maxRecDepth 20000 in
theorem apart_A6 (n b : Nat) (hn : n < 18446744073709551616) (hb8 : b < 256) (hb : okB b = true) (hr : okW n = true) (w : World) :
    Calls Tryd.prog 5 #[.int .u64 n, .int .i64 6, .int .u8 b] w fun e w' => e = .returned (.bool true) ∧ Below w.heap.size w w' := by
  have rN := fun wx => right_any n hn wx
  rw [hr] at rN
  have hs := cnt_kinds n hn hr
  have HO := or_kinds n hr
  have HA := and_kinds n hn
  have k1 := fun wx => count_any (eqM n 128) (eqM_lt _ _) wx
  have k2 := fun wx => count_any (eqM n 254) (eqM_lt _ _) wx
  have k3 := fun wx => count_any (hiM (18446744073709551615 - n)) (hiM_lt _) wx
  generalize cnt (eqM n 128) = c1 at *
  generalize cnt (eqM n 254) = c2 at *
  generalize cnt (hiM (18446744073709551615 - n)) = c3 at *
  have ho := okW_at n 6 hr (by decide)
  have rY := fun wx => right_any (withL n 6 b) (withL_lt _ _ _ hb8) wx
  rw [okW_with n 6 b hr hb8 hb] at rY
  have lt := withL_lt n 6 b hb8
  have s1 : ∀ wx, Calls Tryd.prog 23 #[.int .u64 (n : Int), .int .i64 6, .int .u8 (b : Int)] wx fun e w' => e = .returned (.tuple #[.int .u64 ((withL n 6 b : Nat) : Int), .nilIface]) ∧ ∃ q, w' = wx.drewN q := fun wx => set_yes n b 6 hn (by decide) hb wx
  have s2 : ∀ wx, Calls Tryd.prog 23 #[.int .u64 ((withL n 6 b : Nat) : Int), .int .i64 6, .int .u8 ((ln n 6 : Nat) : Int)] wx fun e w' => e = .returned (.tuple #[.int .u64 (n : Int), .nilIface]) ∧ ∃ q, w' = wx.drewN q := fun wx => by
    have h := set_yes (withL n 6 b) (ln n 6) 6 lt (by decide) ho wx
    rw [withL_back n 6 b hn hb8] at h; exact h
  have y0 : ∀ wx, Calls Tryd.prog 22 #[.int .u64 ((withL n 6 b : Nat) : Int), .int .i64 0] wx fun e w' => e = .returned (.int .u8 ((ln n 0 : Nat) : Int)) ∧ wx = w' := fun wx => by
    have h := get_yes (withL n 6 b) 0 lt (by decide) wx
    rw [ln_withL_at n 6 b 0 hb8 (by decide), if_neg (by decide)] at h; exact h
  have g0 : ∀ wx, Calls Tryd.prog 22 #[.int .u64 (n : Int), .int .i64 0] wx fun e w' => e = .returned (.int .u8 ((ln n 0 : Nat) : Int)) ∧ wx = w' := fun wx => get_yes n 0 hn (by decide) wx
  have y1 : ∀ wx, Calls Tryd.prog 22 #[.int .u64 ((withL n 6 b : Nat) : Int), .int .i64 1] wx fun e w' => e = .returned (.int .u8 ((ln n 1 : Nat) : Int)) ∧ wx = w' := fun wx => by
    have h := get_yes (withL n 6 b) 1 lt (by decide) wx
    rw [ln_withL_at n 6 b 1 hb8 (by decide), if_neg (by decide)] at h; exact h
  have g1 : ∀ wx, Calls Tryd.prog 22 #[.int .u64 (n : Int), .int .i64 1] wx fun e w' => e = .returned (.int .u8 ((ln n 1 : Nat) : Int)) ∧ wx = w' := fun wx => get_yes n 1 hn (by decide) wx
  have y2 : ∀ wx, Calls Tryd.prog 22 #[.int .u64 ((withL n 6 b : Nat) : Int), .int .i64 2] wx fun e w' => e = .returned (.int .u8 ((ln n 2 : Nat) : Int)) ∧ wx = w' := fun wx => by
    have h := get_yes (withL n 6 b) 2 lt (by decide) wx
    rw [ln_withL_at n 6 b 2 hb8 (by decide), if_neg (by decide)] at h; exact h
  have g2 : ∀ wx, Calls Tryd.prog 22 #[.int .u64 (n : Int), .int .i64 2] wx fun e w' => e = .returned (.int .u8 ((ln n 2 : Nat) : Int)) ∧ wx = w' := fun wx => get_yes n 2 hn (by decide) wx
  have y3 : ∀ wx, Calls Tryd.prog 22 #[.int .u64 ((withL n 6 b : Nat) : Int), .int .i64 3] wx fun e w' => e = .returned (.int .u8 ((ln n 3 : Nat) : Int)) ∧ wx = w' := fun wx => by
    have h := get_yes (withL n 6 b) 3 lt (by decide) wx
    rw [ln_withL_at n 6 b 3 hb8 (by decide), if_neg (by decide)] at h; exact h
  have g3 : ∀ wx, Calls Tryd.prog 22 #[.int .u64 (n : Int), .int .i64 3] wx fun e w' => e = .returned (.int .u8 ((ln n 3 : Nat) : Int)) ∧ wx = w' := fun wx => get_yes n 3 hn (by decide) wx
  have y4 : ∀ wx, Calls Tryd.prog 22 #[.int .u64 ((withL n 6 b : Nat) : Int), .int .i64 4] wx fun e w' => e = .returned (.int .u8 ((ln n 4 : Nat) : Int)) ∧ wx = w' := fun wx => by
    have h := get_yes (withL n 6 b) 4 lt (by decide) wx
    rw [ln_withL_at n 6 b 4 hb8 (by decide), if_neg (by decide)] at h; exact h
  have g4 : ∀ wx, Calls Tryd.prog 22 #[.int .u64 (n : Int), .int .i64 4] wx fun e w' => e = .returned (.int .u8 ((ln n 4 : Nat) : Int)) ∧ wx = w' := fun wx => get_yes n 4 hn (by decide) wx
  have y5 : ∀ wx, Calls Tryd.prog 22 #[.int .u64 ((withL n 6 b : Nat) : Int), .int .i64 5] wx fun e w' => e = .returned (.int .u8 ((ln n 5 : Nat) : Int)) ∧ wx = w' := fun wx => by
    have h := get_yes (withL n 6 b) 5 lt (by decide) wx
    rw [ln_withL_at n 6 b 5 hb8 (by decide), if_neg (by decide)] at h; exact h
  have g5 : ∀ wx, Calls Tryd.prog 22 #[.int .u64 (n : Int), .int .i64 5] wx fun e w' => e = .returned (.int .u8 ((ln n 5 : Nat) : Int)) ∧ wx = w' := fun wx => get_yes n 5 hn (by decide) wx
  have y6 : ∀ wx, Calls Tryd.prog 22 #[.int .u64 ((withL n 6 b : Nat) : Int), .int .i64 6] wx fun e w' => e = .returned (.int .u8 ((b : Nat) : Int)) ∧ wx = w' := fun wx => by
    have h := get_yes (withL n 6 b) 6 lt (by decide) wx
    rw [ln_withL_at n 6 b 6 hb8 (by decide), if_pos rfl] at h; exact h
  have g6 : ∀ wx, Calls Tryd.prog 22 #[.int .u64 (n : Int), .int .i64 6] wx fun e w' => e = .returned (.int .u8 ((ln n 6 : Nat) : Int)) ∧ wx = w' := fun wx => get_yes n 6 hn (by decide) wx
  have y7 : ∀ wx, Calls Tryd.prog 22 #[.int .u64 ((withL n 6 b : Nat) : Int), .int .i64 7] wx fun e w' => e = .returned (.int .u8 ((ln n 7 : Nat) : Int)) ∧ wx = w' := fun wx => by
    have h := get_yes (withL n 6 b) 7 lt (by decide) wx
    rw [ln_withL_at n 6 b 7 hb8 (by decide), if_neg (by decide)] at h; exact h
  have g7 : ∀ wx, Calls Tryd.prog 22 #[.int .u64 (n : Int), .int .i64 7] wx fun e w' => e = .returned (.int .u8 ((ln n 7 : Nat) : Int)) ∧ wx = w' := fun wx => get_yes n 7 hn (by decide) wx
  clear ho
  generalize withL n 6 b = m at *
  go_enter Tryd.func5, Tryd.ntmps5
  go_wp2_with (first
    | (go_at_call 7; refine (alive_any _).mono ?_; rintro e w1 ⟨rfl, hb1⟩)
    | (go_at_call 18; (with_reducible refine (rN _).mono ?_); rintro e w' ⟨rfl, rfl⟩)
    | (go_at_call 12; refine (empties_any n hn _).mono ?_; rintro e w' ⟨rfl, rfl⟩)
    | (go_at_call 14; refine (deleteds_any n hn _).mono ?_; rintro e w' ⟨rfl, rfl⟩)
    | (go_at_call 15; refine (fulls_any n hn _).mono ?_; rintro e w' ⟨rfl, rfl⟩)
    | (go_at_call 16; refine (frees_any n hn _).mono ?_; rintro e w' ⟨rfl, rfl⟩)
    | (go_at_call 27; (with_reducible refine (k1 _).mono ?_); rintro e w' ⟨rfl, rfl⟩)
    | (go_at_call 27; (with_reducible refine (k2 _).mono ?_); rintro e w' ⟨rfl, rfl⟩)
    | (go_at_call 27; (with_reducible refine (k3 _).mono ?_); rintro e w' ⟨rfl, rfl⟩)
    | (go_at_call 23; (with_reducible refine (s1 _).mono ?_); rintro e w2 ⟨rfl, q, rfl⟩))
  refine wp_loop_rounds 9 ?_
  rw [rounds_succ]; go_wp2_with (first
    | (go_at_call 22; (with_reducible refine (y0 _).mono ?_); rintro e w' ⟨rfl, rfl⟩)
    | (go_at_call 22; (with_reducible refine (g0 _).mono ?_); rintro e w' ⟨rfl, rfl⟩))
  rw [rounds_succ]; go_wp2_with (first
    | (go_at_call 22; (with_reducible refine (y1 _).mono ?_); rintro e w' ⟨rfl, rfl⟩)
    | (go_at_call 22; (with_reducible refine (g1 _).mono ?_); rintro e w' ⟨rfl, rfl⟩))
  rw [rounds_succ]; go_wp2_with (first
    | (go_at_call 22; (with_reducible refine (y2 _).mono ?_); rintro e w' ⟨rfl, rfl⟩)
    | (go_at_call 22; (with_reducible refine (g2 _).mono ?_); rintro e w' ⟨rfl, rfl⟩))
  rw [rounds_succ]; go_wp2_with (first
    | (go_at_call 22; (with_reducible refine (y3 _).mono ?_); rintro e w' ⟨rfl, rfl⟩)
    | (go_at_call 22; (with_reducible refine (g3 _).mono ?_); rintro e w' ⟨rfl, rfl⟩))
  rw [rounds_succ]; go_wp2_with (first
    | (go_at_call 22; (with_reducible refine (y4 _).mono ?_); rintro e w' ⟨rfl, rfl⟩)
    | (go_at_call 22; (with_reducible refine (g4 _).mono ?_); rintro e w' ⟨rfl, rfl⟩))
  rw [rounds_succ]; go_wp2_with (first
    | (go_at_call 22; (with_reducible refine (y5 _).mono ?_); rintro e w' ⟨rfl, rfl⟩)
    | (go_at_call 22; (with_reducible refine (g5 _).mono ?_); rintro e w' ⟨rfl, rfl⟩))
  rw [rounds_succ]; go_wp2_with (first
    | (go_at_call 22; (with_reducible refine (y6 _).mono ?_); rintro e w' ⟨rfl, rfl⟩)
    | (go_at_call 22; (with_reducible refine (g6 _).mono ?_); rintro e w' ⟨rfl, rfl⟩))
  rw [rounds_succ]; go_wp2_with (first
    | (go_at_call 22; (with_reducible refine (y7 _).mono ?_); rintro e w' ⟨rfl, rfl⟩)
    | (go_at_call 22; (with_reducible refine (g7 _).mono ?_); rintro e w' ⟨rfl, rfl⟩))
  rw [rounds_succ]; go_wp2_with (first
    | (go_at_call 22; (with_reducible refine (g6 _).mono ?_); rintro e w' ⟨rfl, rfl⟩)
    | (go_at_call 18; (with_reducible refine (rN _).mono ?_); rintro e w' ⟨rfl, rfl⟩)
    | (go_at_call 18; (with_reducible refine (rY _).mono ?_); rintro e w' ⟨rfl, rfl⟩)
    | (go_at_call 23; (with_reducible refine (s2 _).mono ?_); rintro e w2 ⟨rfl, q2, rfl⟩))
  all_goals
    go_ret
    exact ⟨by simp, below_step hb1 (drewN_below _ _)⟩
set_option maxHeartbeats 2000000 in
set_option maxRecDepth 20000 in
theorem apart_A7 (n b : Nat) (hn : n < 18446744073709551616) (hb8 : b < 256) (hb : okB b = true) (hr : okW n = true) (w : World) :
    Calls Tryd.prog 5 #[.int .u64 n, .int .i64 7, .int .u8 b] w fun e w' => e = .returned (.bool true) ∧ Below w.heap.size w w' := by
  have rN := fun wx => right_any n hn wx
  rw [hr] at rN
  have hs := cnt_kinds n hn hr
  have HO := or_kinds n hr
  have HA := and_kinds n hn
  have k1 := fun wx => count_any (eqM n 128) (eqM_lt _ _) wx
  have k2 := fun wx => count_any (eqM n 254) (eqM_lt _ _) wx
  have k3 := fun wx => count_any (hiM (18446744073709551615 - n)) (hiM_lt _) wx
  generalize cnt (eqM n 128) = c1 at *
  generalize cnt (eqM n 254) = c2 at *
  generalize cnt (hiM (18446744073709551615 - n)) = c3 at *
  have ho := okW_at n 7 hr (by decide)
  have rY := fun wx => right_any (withL n 7 b) (withL_lt _ _ _ hb8) wx
  rw [okW_with n 7 b hr hb8 hb] at rY
  have lt := withL_lt n 7 b hb8
  have s1 : ∀ wx, Calls Tryd.prog 23 #[.int .u64 (n : Int), .int .i64 7, .int .u8 (b : Int)] wx fun e w' => e = .returned (.tuple #[.int .u64 ((withL n 7 b : Nat) : Int), .nilIface]) ∧ ∃ q, w' = wx.drewN q := fun wx => set_yes n b 7 hn (by decide) hb wx
  have s2 : ∀ wx, Calls Tryd.prog 23 #[.int .u64 ((withL n 7 b : Nat) : Int), .int .i64 7, .int .u8 ((ln n 7 : Nat) : Int)] wx fun e w' => e = .returned (.tuple #[.int .u64 (n : Int), .nilIface]) ∧ ∃ q, w' = wx.drewN q := fun wx => by
    have h := set_yes (withL n 7 b) (ln n 7) 7 lt (by decide) ho wx
    rw [withL_back n 7 b hn hb8] at h; exact h
  have y0 : ∀ wx, Calls Tryd.prog 22 #[.int .u64 ((withL n 7 b : Nat) : Int), .int .i64 0] wx fun e w' => e = .returned (.int .u8 ((ln n 0 : Nat) : Int)) ∧ wx = w' := fun wx => by
    have h := get_yes (withL n 7 b) 0 lt (by decide) wx
    rw [ln_withL_at n 7 b 0 hb8 (by decide), if_neg (by decide)] at h; exact h
  have g0 : ∀ wx, Calls Tryd.prog 22 #[.int .u64 (n : Int), .int .i64 0] wx fun e w' => e = .returned (.int .u8 ((ln n 0 : Nat) : Int)) ∧ wx = w' := fun wx => get_yes n 0 hn (by decide) wx
  have y1 : ∀ wx, Calls Tryd.prog 22 #[.int .u64 ((withL n 7 b : Nat) : Int), .int .i64 1] wx fun e w' => e = .returned (.int .u8 ((ln n 1 : Nat) : Int)) ∧ wx = w' := fun wx => by
    have h := get_yes (withL n 7 b) 1 lt (by decide) wx
    rw [ln_withL_at n 7 b 1 hb8 (by decide), if_neg (by decide)] at h; exact h
  have g1 : ∀ wx, Calls Tryd.prog 22 #[.int .u64 (n : Int), .int .i64 1] wx fun e w' => e = .returned (.int .u8 ((ln n 1 : Nat) : Int)) ∧ wx = w' := fun wx => get_yes n 1 hn (by decide) wx
  have y2 : ∀ wx, Calls Tryd.prog 22 #[.int .u64 ((withL n 7 b : Nat) : Int), .int .i64 2] wx fun e w' => e = .returned (.int .u8 ((ln n 2 : Nat) : Int)) ∧ wx = w' := fun wx => by
    have h := get_yes (withL n 7 b) 2 lt (by decide) wx
    rw [ln_withL_at n 7 b 2 hb8 (by decide), if_neg (by decide)] at h; exact h
  have g2 : ∀ wx, Calls Tryd.prog 22 #[.int .u64 (n : Int), .int .i64 2] wx fun e w' => e = .returned (.int .u8 ((ln n 2 : Nat) : Int)) ∧ wx = w' := fun wx => get_yes n 2 hn (by decide) wx
  have y3 : ∀ wx, Calls Tryd.prog 22 #[.int .u64 ((withL n 7 b : Nat) : Int), .int .i64 3] wx fun e w' => e = .returned (.int .u8 ((ln n 3 : Nat) : Int)) ∧ wx = w' := fun wx => by
    have h := get_yes (withL n 7 b) 3 lt (by decide) wx
    rw [ln_withL_at n 7 b 3 hb8 (by decide), if_neg (by decide)] at h; exact h
  have g3 : ∀ wx, Calls Tryd.prog 22 #[.int .u64 (n : Int), .int .i64 3] wx fun e w' => e = .returned (.int .u8 ((ln n 3 : Nat) : Int)) ∧ wx = w' := fun wx => get_yes n 3 hn (by decide) wx
  have y4 : ∀ wx, Calls Tryd.prog 22 #[.int .u64 ((withL n 7 b : Nat) : Int), .int .i64 4] wx fun e w' => e = .returned (.int .u8 ((ln n 4 : Nat) : Int)) ∧ wx = w' := fun wx => by
    have h := get_yes (withL n 7 b) 4 lt (by decide) wx
    rw [ln_withL_at n 7 b 4 hb8 (by decide), if_neg (by decide)] at h; exact h
  have g4 : ∀ wx, Calls Tryd.prog 22 #[.int .u64 (n : Int), .int .i64 4] wx fun e w' => e = .returned (.int .u8 ((ln n 4 : Nat) : Int)) ∧ wx = w' := fun wx => get_yes n 4 hn (by decide) wx
  have y5 : ∀ wx, Calls Tryd.prog 22 #[.int .u64 ((withL n 7 b : Nat) : Int), .int .i64 5] wx fun e w' => e = .returned (.int .u8 ((ln n 5 : Nat) : Int)) ∧ wx = w' := fun wx => by
    have h := get_yes (withL n 7 b) 5 lt (by decide) wx
    rw [ln_withL_at n 7 b 5 hb8 (by decide), if_neg (by decide)] at h; exact h
  have g5 : ∀ wx, Calls Tryd.prog 22 #[.int .u64 (n : Int), .int .i64 5] wx fun e w' => e = .returned (.int .u8 ((ln n 5 : Nat) : Int)) ∧ wx = w' := fun wx => get_yes n 5 hn (by decide) wx
  have y6 : ∀ wx, Calls Tryd.prog 22 #[.int .u64 ((withL n 7 b : Nat) : Int), .int .i64 6] wx fun e w' => e = .returned (.int .u8 ((ln n 6 : Nat) : Int)) ∧ wx = w' := fun wx => by
    have h := get_yes (withL n 7 b) 6 lt (by decide) wx
    rw [ln_withL_at n 7 b 6 hb8 (by decide), if_neg (by decide)] at h; exact h
  have g6 : ∀ wx, Calls Tryd.prog 22 #[.int .u64 (n : Int), .int .i64 6] wx fun e w' => e = .returned (.int .u8 ((ln n 6 : Nat) : Int)) ∧ wx = w' := fun wx => get_yes n 6 hn (by decide) wx
  have y7 : ∀ wx, Calls Tryd.prog 22 #[.int .u64 ((withL n 7 b : Nat) : Int), .int .i64 7] wx fun e w' => e = .returned (.int .u8 ((b : Nat) : Int)) ∧ wx = w' := fun wx => by
    have h := get_yes (withL n 7 b) 7 lt (by decide) wx
    rw [ln_withL_at n 7 b 7 hb8 (by decide), if_pos rfl] at h; exact h
  have g7 : ∀ wx, Calls Tryd.prog 22 #[.int .u64 (n : Int), .int .i64 7] wx fun e w' => e = .returned (.int .u8 ((ln n 7 : Nat) : Int)) ∧ wx = w' := fun wx => get_yes n 7 hn (by decide) wx
  clear ho
  generalize withL n 7 b = m at *
  go_enter Tryd.func5, Tryd.ntmps5
  go_wp2_with (first
    | (go_at_call 7; refine (alive_any _).mono ?_; rintro e w1 ⟨rfl, hb1⟩)
    | (go_at_call 18; (with_reducible refine (rN _).mono ?_); rintro e w' ⟨rfl, rfl⟩)
    | (go_at_call 12; refine (empties_any n hn _).mono ?_; rintro e w' ⟨rfl, rfl⟩)
    | (go_at_call 14; refine (deleteds_any n hn _).mono ?_; rintro e w' ⟨rfl, rfl⟩)
    | (go_at_call 15; refine (fulls_any n hn _).mono ?_; rintro e w' ⟨rfl, rfl⟩)
    | (go_at_call 16; refine (frees_any n hn _).mono ?_; rintro e w' ⟨rfl, rfl⟩)
    | (go_at_call 27; (with_reducible refine (k1 _).mono ?_); rintro e w' ⟨rfl, rfl⟩)
    | (go_at_call 27; (with_reducible refine (k2 _).mono ?_); rintro e w' ⟨rfl, rfl⟩)
    | (go_at_call 27; (with_reducible refine (k3 _).mono ?_); rintro e w' ⟨rfl, rfl⟩)
    | (go_at_call 23; (with_reducible refine (s1 _).mono ?_); rintro e w2 ⟨rfl, q, rfl⟩))
  refine wp_loop_rounds 9 ?_
  rw [rounds_succ]; go_wp2_with (first
    | (go_at_call 22; (with_reducible refine (y0 _).mono ?_); rintro e w' ⟨rfl, rfl⟩)
    | (go_at_call 22; (with_reducible refine (g0 _).mono ?_); rintro e w' ⟨rfl, rfl⟩))
  rw [rounds_succ]; go_wp2_with (first
    | (go_at_call 22; (with_reducible refine (y1 _).mono ?_); rintro e w' ⟨rfl, rfl⟩)
    | (go_at_call 22; (with_reducible refine (g1 _).mono ?_); rintro e w' ⟨rfl, rfl⟩))
  rw [rounds_succ]; go_wp2_with (first
    | (go_at_call 22; (with_reducible refine (y2 _).mono ?_); rintro e w' ⟨rfl, rfl⟩)
    | (go_at_call 22; (with_reducible refine (g2 _).mono ?_); rintro e w' ⟨rfl, rfl⟩))
  rw [rounds_succ]; go_wp2_with (first
    | (go_at_call 22; (with_reducible refine (y3 _).mono ?_); rintro e w' ⟨rfl, rfl⟩)
    | (go_at_call 22; (with_reducible refine (g3 _).mono ?_); rintro e w' ⟨rfl, rfl⟩))
  rw [rounds_succ]; go_wp2_with (first
    | (go_at_call 22; (with_reducible refine (y4 _).mono ?_); rintro e w' ⟨rfl, rfl⟩)
    | (go_at_call 22; (with_reducible refine (g4 _).mono ?_); rintro e w' ⟨rfl, rfl⟩))
  rw [rounds_succ]; go_wp2_with (first
    | (go_at_call 22; (with_reducible refine (y5 _).mono ?_); rintro e w' ⟨rfl, rfl⟩)
    | (go_at_call 22; (with_reducible refine (g5 _).mono ?_); rintro e w' ⟨rfl, rfl⟩))
  rw [rounds_succ]; go_wp2_with (first
    | (go_at_call 22; (with_reducible refine (y6 _).mono ?_); rintro e w' ⟨rfl, rfl⟩)
    | (go_at_call 22; (with_reducible refine (g6 _).mono ?_); rintro e w' ⟨rfl, rfl⟩))
  rw [rounds_succ]; go_wp2_with (first
    | (go_at_call 22; (with_reducible refine (y7 _).mono ?_); rintro e w' ⟨rfl, rfl⟩)
    | (go_at_call 22; (with_reducible refine (g7 _).mono ?_); rintro e w' ⟨rfl, rfl⟩))
  rw [rounds_succ]; go_wp2_with (first
    | (go_at_call 22; (with_reducible refine (g7 _).mono ?_); rintro e w' ⟨rfl, rfl⟩)
    | (go_at_call 18; (with_reducible refine (rN _).mono ?_); rintro e w' ⟨rfl, rfl⟩)
    | (go_at_call 18; (with_reducible refine (rY _).mono ?_); rintro e w' ⟨rfl, rfl⟩)
    | (go_at_call 23; (with_reducible refine (s2 _).mono ?_); rintro e w2 ⟨rfl, q2, rfl⟩))
  all_goals
    go_ret
    exact ⟨by simp, below_step hb1 (drewN_below _ _)⟩
end Go.Proofs.YtfnfdofenaegpaaDoor.ctrl
