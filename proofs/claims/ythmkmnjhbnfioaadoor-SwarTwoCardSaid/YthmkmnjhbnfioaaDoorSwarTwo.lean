/- SwarTwo: the walk. -/
import Derived.Test.YthmkmnjhbnfioaaDoorSwarLanes
import Derived.Test.YthmkmnjhbnfioaaDoorSwarMath2
namespace Go.Proofs.YthmkmnjhbnfioaaDoor.swar
open Go.ChangeShapes Go.WideShapes Go.ChangeAt Go.RowKit

theorem with_q (n b k : Nat) (hn : n < 18446744073709551616) (hb : b < 256) (hk : k < 8) (w : World) (q : Nat) :
    Calls Tryd.prog 10 #[.int .u64 n, .int .i64 k, .int .u8 b] (w.drewN q) fun e w' => e = .returned (.int .u64 (withL n k b : Nat)) ∧ ∃ m, w' = w.drewN m :=
  Calls.quiet_of (with_yes n b k hn hb hk _)

theorem with_q2 (n b k : Nat) (hn : n < 18446744073709551616) (hb : b < 256) (hk : k < 8) (w : World) (p q : Nat) :
    Calls Tryd.prog 10 #[.int .u64 n, .int .i64 k, .int .u8 b] (w.drewN (p + q)) fun e w' => e = .returned (.int .u64 (withL n k b : Nat)) ∧ ∃ m, w' = w.drewN (p + m) :=
  (with_yes n b k hn hb hk _).mono fun _ _ ⟨he, m, hm⟩ => ⟨he, q + m, by rw [hm, World.drewN_drewN, Nat.add_assoc]⟩

/-- the loop over the lanes, round by round: what each test comes to -/
theorem in_bits (m b k s : Nat) (h : eqM m b / s % 2 = (if ln m k = b then 1 else 0)) : (bits .and .u64 ((eqM m b : Nat) / (s : Nat) : Int) 1 == 1) = (((ln m k : Nat) : Int) == (b : Int)) := by
  have hlt : eqM m b / s < 18446744073709551616 := Nat.lt_of_le_of_lt (Nat.div_le_self _ _) (eqM_lt m b)
  rw [show (((eqM m b : Nat) : Int) / ((s : Nat) : Int)) = ((eqM m b / s : Nat) : Int) from (Int.natCast_ediv _ _).symm, show (1 : Int) = ((1 : Nat) : Int) from rfl, u64_and_nat _ _ hlt (by decide), nat_mask1, h]
  by_cases e : ln m k = b
  · simp [e]
  · have e' : ¬ ((ln m k : Nat) : Int) = (b : Int) := by omega
    simp [e, e']
set_option maxHeartbeats 1000000 in
theorem two_ne (n i j b c : Nat) (x y : Int) (hn : n < 18446744073709551616) (hb : b < 256) (hc : c < 256) (hi : i < 8) (hj : j < 8) (hij : (i : Int) ≠ j)
    (hx : wrap64 ((IntKind.u64.wrap x).tmod 8) = (i : Int)) (hy : wrap64 ((IntKind.u64.wrap y).tmod 8) = (j : Int))
    (w : World) (hA : ∀ w', Below w.heap.size w w' → TabOk w') :
    Calls Tryd.prog 6 #[.int .u64 n, .agg #[.int .i64 x, .int .i64 y], .agg #[.int .u8 b, .int .u8 c]] w fun e w' => e = .returned (.bool true) ∧ Below w.heap.size w w' := by
  have HA := Lib.hid (alive_any _ (hA _ (((Below.refl w.heap.size w).alloc (Nat.le_refl _) (.cells #[.int .i64 x, .int .i64 y] 47)).alloc (by simp) (.cells #[.int .u8 b, .int .u8 c] 48))))
  clear hA
  have hcomm : withL (withL n j c) i b = withL (withL n i b) j c := withL_comm n j i c b hc hb (by omega)
  have ht : ((i : Int) == j) = false := by rw [beq_eq_false_iff_ne]; exact hij
  go_enter Tryd.func6, Tryd.ntmps6
  go_wp2_with (first | (go_at_call 7; refine HA.out.mono ?_; rintro e w' ⟨rfl, rfl⟩))
  go_quiet (fail)
  go_wp2_with fail
  go_quiet ((go_at_call 10; exact with_q2 _ _ _ (by first | exact hn | exact withL_lt _ _ _ hb | exact withL_lt _ _ _ hc) (by assumption) (by assumption) _ _ _))
  go_wp2_with fail
  go_quiet ((go_at_call 10; exact with_q2 _ _ _ (by first | exact hn | exact withL_lt _ _ _ hb | exact withL_lt _ _ _ hc) (by assumption) (by assumption) _ _ _))
  go_wp2_with fail
  clear hcomm hx hy HA
  have hm : withL (withL n i b) j c < 18446744073709551616 := withL_lt _ _ _ hc
  generalize withL (withL n i b) j c = m at *
  refine wp_loop_rounds 9 ?_
  have r0 := in_bits m c 0 128 (eqM_bits m c).1
  have s0 : (bits .and .u64 (((eqM m (ln m 0) : Nat) : Int) / 128) 1 == 1) = true := (in_bits m (ln m 0) 0 128 (eqM_bits m _).1).trans (by simp)
  rw [rounds_succ]
  go_wp2_with (first | (go_at_call 9; refine (lane_yes m 0 hm (by decide) _).mono ?_; rintro e w' ⟨rfl, rfl⟩) | (go_at_call 17; (with_reducible refine (equal_any m c hm hc _).mono ?_); rintro e w' ⟨rfl, rfl⟩) | (go_at_call 17; (with_reducible refine (equal_any m _ hm (ln_lt _ _) _).mono ?_); rintro e w' ⟨rfl, rfl⟩))
  clear r0 s0
  have r1 := in_bits m c 1 32768 (eqM_bits m c).2.1
  have s1 : (bits .and .u64 (((eqM m (ln m 1) : Nat) : Int) / 32768) 1 == 1) = true := (in_bits m (ln m 1) 1 32768 (eqM_bits m _).2.1).trans (by simp)
  rw [rounds_succ]
  go_wp2_with (first | (go_at_call 9; refine (lane_yes m 1 hm (by decide) _).mono ?_; rintro e w' ⟨rfl, rfl⟩) | (go_at_call 17; (with_reducible refine (equal_any m c hm hc _).mono ?_); rintro e w' ⟨rfl, rfl⟩) | (go_at_call 17; (with_reducible refine (equal_any m _ hm (ln_lt _ _) _).mono ?_); rintro e w' ⟨rfl, rfl⟩))
  clear r1 s1
  have r2 := in_bits m c 2 8388608 (eqM_bits m c).2.2.1
  have s2 : (bits .and .u64 (((eqM m (ln m 2) : Nat) : Int) / 8388608) 1 == 1) = true := (in_bits m (ln m 2) 2 8388608 (eqM_bits m _).2.2.1).trans (by simp)
  rw [rounds_succ]
  go_wp2_with (first | (go_at_call 9; refine (lane_yes m 2 hm (by decide) _).mono ?_; rintro e w' ⟨rfl, rfl⟩) | (go_at_call 17; (with_reducible refine (equal_any m c hm hc _).mono ?_); rintro e w' ⟨rfl, rfl⟩) | (go_at_call 17; (with_reducible refine (equal_any m _ hm (ln_lt _ _) _).mono ?_); rintro e w' ⟨rfl, rfl⟩))
  clear r2 s2
  have r3 := in_bits m c 3 2147483648 (eqM_bits m c).2.2.2.1
  have s3 : (bits .and .u64 (((eqM m (ln m 3) : Nat) : Int) / 2147483648) 1 == 1) = true := (in_bits m (ln m 3) 3 2147483648 (eqM_bits m _).2.2.2.1).trans (by simp)
  rw [rounds_succ]
  go_wp2_with (first | (go_at_call 9; refine (lane_yes m 3 hm (by decide) _).mono ?_; rintro e w' ⟨rfl, rfl⟩) | (go_at_call 17; (with_reducible refine (equal_any m c hm hc _).mono ?_); rintro e w' ⟨rfl, rfl⟩) | (go_at_call 17; (with_reducible refine (equal_any m _ hm (ln_lt _ _) _).mono ?_); rintro e w' ⟨rfl, rfl⟩))
  clear r3 s3
  have r4 := in_bits m c 4 549755813888 (eqM_bits m c).2.2.2.2.1
  have s4 : (bits .and .u64 (((eqM m (ln m 4) : Nat) : Int) / 549755813888) 1 == 1) = true := (in_bits m (ln m 4) 4 549755813888 (eqM_bits m _).2.2.2.2.1).trans (by simp)
  rw [rounds_succ]
  go_wp2_with (first | (go_at_call 9; refine (lane_yes m 4 hm (by decide) _).mono ?_; rintro e w' ⟨rfl, rfl⟩) | (go_at_call 17; (with_reducible refine (equal_any m c hm hc _).mono ?_); rintro e w' ⟨rfl, rfl⟩) | (go_at_call 17; (with_reducible refine (equal_any m _ hm (ln_lt _ _) _).mono ?_); rintro e w' ⟨rfl, rfl⟩))
  clear r4 s4
  have r5 := in_bits m c 5 140737488355328 (eqM_bits m c).2.2.2.2.2.1
  have s5 : (bits .and .u64 (((eqM m (ln m 5) : Nat) : Int) / 140737488355328) 1 == 1) = true := (in_bits m (ln m 5) 5 140737488355328 (eqM_bits m _).2.2.2.2.2.1).trans (by simp)
  rw [rounds_succ]
  go_wp2_with (first | (go_at_call 9; refine (lane_yes m 5 hm (by decide) _).mono ?_; rintro e w' ⟨rfl, rfl⟩) | (go_at_call 17; (with_reducible refine (equal_any m c hm hc _).mono ?_); rintro e w' ⟨rfl, rfl⟩) | (go_at_call 17; (with_reducible refine (equal_any m _ hm (ln_lt _ _) _).mono ?_); rintro e w' ⟨rfl, rfl⟩))
  clear r5 s5
  have r6 := in_bits m c 6 36028797018963968 (eqM_bits m c).2.2.2.2.2.2.1
  have s6 : (bits .and .u64 (((eqM m (ln m 6) : Nat) : Int) / 36028797018963968) 1 == 1) = true := (in_bits m (ln m 6) 6 36028797018963968 (eqM_bits m _).2.2.2.2.2.2.1).trans (by simp)
  rw [rounds_succ]
  go_wp2_with (first | (go_at_call 9; refine (lane_yes m 6 hm (by decide) _).mono ?_; rintro e w' ⟨rfl, rfl⟩) | (go_at_call 17; (with_reducible refine (equal_any m c hm hc _).mono ?_); rintro e w' ⟨rfl, rfl⟩) | (go_at_call 17; (with_reducible refine (equal_any m _ hm (ln_lt _ _) _).mono ?_); rintro e w' ⟨rfl, rfl⟩))
  clear r6 s6
  have r7 := in_bits m c 7 9223372036854775808 (eqM_bits m c).2.2.2.2.2.2.2
  have s7 : (bits .and .u64 (((eqM m (ln m 7) : Nat) : Int) / 9223372036854775808) 1 == 1) = true := (in_bits m (ln m 7) 7 9223372036854775808 (eqM_bits m _).2.2.2.2.2.2.2).trans (by simp)
  rw [rounds_succ]
  go_wp2_with (first | (go_at_call 9; refine (lane_yes m 7 hm (by decide) _).mono ?_; rintro e w' ⟨rfl, rfl⟩) | (go_at_call 17; (with_reducible refine (equal_any m c hm hc _).mono ?_); rintro e w' ⟨rfl, rfl⟩) | (go_at_call 17; (with_reducible refine (equal_any m _ hm (ln_lt _ _) _).mono ?_); rintro e w' ⟨rfl, rfl⟩))
  clear r7 s7
  rw [rounds_succ]
  go_wp2
  go_ret
  exact ⟨rfl, by repeat (first | exact Below.refl _ _ | apply below_drewN | refine Below.alloc ?_ (by simp) _)⟩
set_option maxHeartbeats 1000000 in
theorem two_eq (n i b c : Nat) (x y : Int) (hn : n < 18446744073709551616) (hb : b < 256) (hc : c < 256) (hi : i < 8)
    (hx : wrap64 ((IntKind.u64.wrap x).tmod 8) = (i : Int)) (hy : wrap64 ((IntKind.u64.wrap y).tmod 8) = (i : Int))
    (w : World) (hA : ∀ w', Below w.heap.size w w' → TabOk w') :
    Calls Tryd.prog 6 #[.int .u64 n, .agg #[.int .i64 x, .int .i64 y], .agg #[.int .u8 b, .int .u8 c]] w fun e w' => e = .returned (.bool true) ∧ Below w.heap.size w w' := by
  have HA := Lib.hid (alive_any _ (hA _ (((Below.refl w.heap.size w).alloc (Nat.le_refl _) (.cells #[.int .i64 x, .int .i64 y] 47)).alloc (by simp) (.cells #[.int .u8 b, .int .u8 c] 48))))
  clear hA
  have hcomm : withL (withL n i b) i c = withL n i c := withL_same n i b c hb
  have hcomm' : withL (withL n i c) i b = withL n i b := withL_same n i c b hc
  go_enter Tryd.func6, Tryd.ntmps6
  go_wp2_with (first | (go_at_call 7; refine HA.out.mono ?_; rintro e w' ⟨rfl, rfl⟩))
  go_quiet (fail)
  go_wp2_with fail
  go_quiet ((go_at_call 10; exact with_q2 _ _ _ (by first | exact hn | exact withL_lt _ _ _ hb | exact withL_lt _ _ _ hc) (by assumption) (by assumption) _ _ _))
  go_wp2_with fail
  go_quiet ((go_at_call 10; exact with_q2 _ _ _ (by first | exact hn | exact withL_lt _ _ _ hb | exact withL_lt _ _ _ hc) (by assumption) (by assumption) _ _ _))
  go_wp2_with (go_at_call 10; refine (with_yes n c i hn hc hi _).mono ?_; rintro e w' ⟨rfl, q, rfl⟩)
  clear hcomm hcomm' hx hy HA
  have hm : withL n i c < 18446744073709551616 := withL_lt _ _ _ hc
  generalize withL n i c = m at *
  refine wp_loop_rounds 9 ?_
  have r0 := in_bits m c 0 128 (eqM_bits m c).1
  have s0 : (bits .and .u64 (((eqM m (ln m 0) : Nat) : Int) / 128) 1 == 1) = true := (in_bits m (ln m 0) 0 128 (eqM_bits m _).1).trans (by simp)
  rw [rounds_succ]
  go_wp2_with (first | (go_at_call 9; refine (lane_yes m 0 hm (by decide) _).mono ?_; rintro e w' ⟨rfl, rfl⟩) | (go_at_call 17; (with_reducible refine (equal_any m c hm hc _).mono ?_); rintro e w' ⟨rfl, rfl⟩) | (go_at_call 17; (with_reducible refine (equal_any m _ hm (ln_lt _ _) _).mono ?_); rintro e w' ⟨rfl, rfl⟩))
  clear r0 s0
  have r1 := in_bits m c 1 32768 (eqM_bits m c).2.1
  have s1 : (bits .and .u64 (((eqM m (ln m 1) : Nat) : Int) / 32768) 1 == 1) = true := (in_bits m (ln m 1) 1 32768 (eqM_bits m _).2.1).trans (by simp)
  rw [rounds_succ]
  go_wp2_with (first | (go_at_call 9; refine (lane_yes m 1 hm (by decide) _).mono ?_; rintro e w' ⟨rfl, rfl⟩) | (go_at_call 17; (with_reducible refine (equal_any m c hm hc _).mono ?_); rintro e w' ⟨rfl, rfl⟩) | (go_at_call 17; (with_reducible refine (equal_any m _ hm (ln_lt _ _) _).mono ?_); rintro e w' ⟨rfl, rfl⟩))
  clear r1 s1
  have r2 := in_bits m c 2 8388608 (eqM_bits m c).2.2.1
  have s2 : (bits .and .u64 (((eqM m (ln m 2) : Nat) : Int) / 8388608) 1 == 1) = true := (in_bits m (ln m 2) 2 8388608 (eqM_bits m _).2.2.1).trans (by simp)
  rw [rounds_succ]
  go_wp2_with (first | (go_at_call 9; refine (lane_yes m 2 hm (by decide) _).mono ?_; rintro e w' ⟨rfl, rfl⟩) | (go_at_call 17; (with_reducible refine (equal_any m c hm hc _).mono ?_); rintro e w' ⟨rfl, rfl⟩) | (go_at_call 17; (with_reducible refine (equal_any m _ hm (ln_lt _ _) _).mono ?_); rintro e w' ⟨rfl, rfl⟩))
  clear r2 s2
  have r3 := in_bits m c 3 2147483648 (eqM_bits m c).2.2.2.1
  have s3 : (bits .and .u64 (((eqM m (ln m 3) : Nat) : Int) / 2147483648) 1 == 1) = true := (in_bits m (ln m 3) 3 2147483648 (eqM_bits m _).2.2.2.1).trans (by simp)
  rw [rounds_succ]
  go_wp2_with (first | (go_at_call 9; refine (lane_yes m 3 hm (by decide) _).mono ?_; rintro e w' ⟨rfl, rfl⟩) | (go_at_call 17; (with_reducible refine (equal_any m c hm hc _).mono ?_); rintro e w' ⟨rfl, rfl⟩) | (go_at_call 17; (with_reducible refine (equal_any m _ hm (ln_lt _ _) _).mono ?_); rintro e w' ⟨rfl, rfl⟩))
  clear r3 s3
  have r4 := in_bits m c 4 549755813888 (eqM_bits m c).2.2.2.2.1
  have s4 : (bits .and .u64 (((eqM m (ln m 4) : Nat) : Int) / 549755813888) 1 == 1) = true := (in_bits m (ln m 4) 4 549755813888 (eqM_bits m _).2.2.2.2.1).trans (by simp)
  rw [rounds_succ]
  go_wp2_with (first | (go_at_call 9; refine (lane_yes m 4 hm (by decide) _).mono ?_; rintro e w' ⟨rfl, rfl⟩) | (go_at_call 17; (with_reducible refine (equal_any m c hm hc _).mono ?_); rintro e w' ⟨rfl, rfl⟩) | (go_at_call 17; (with_reducible refine (equal_any m _ hm (ln_lt _ _) _).mono ?_); rintro e w' ⟨rfl, rfl⟩))
  clear r4 s4
  have r5 := in_bits m c 5 140737488355328 (eqM_bits m c).2.2.2.2.2.1
  have s5 : (bits .and .u64 (((eqM m (ln m 5) : Nat) : Int) / 140737488355328) 1 == 1) = true := (in_bits m (ln m 5) 5 140737488355328 (eqM_bits m _).2.2.2.2.2.1).trans (by simp)
  rw [rounds_succ]
  go_wp2_with (first | (go_at_call 9; refine (lane_yes m 5 hm (by decide) _).mono ?_; rintro e w' ⟨rfl, rfl⟩) | (go_at_call 17; (with_reducible refine (equal_any m c hm hc _).mono ?_); rintro e w' ⟨rfl, rfl⟩) | (go_at_call 17; (with_reducible refine (equal_any m _ hm (ln_lt _ _) _).mono ?_); rintro e w' ⟨rfl, rfl⟩))
  clear r5 s5
  have r6 := in_bits m c 6 36028797018963968 (eqM_bits m c).2.2.2.2.2.2.1
  have s6 : (bits .and .u64 (((eqM m (ln m 6) : Nat) : Int) / 36028797018963968) 1 == 1) = true := (in_bits m (ln m 6) 6 36028797018963968 (eqM_bits m _).2.2.2.2.2.2.1).trans (by simp)
  rw [rounds_succ]
  go_wp2_with (first | (go_at_call 9; refine (lane_yes m 6 hm (by decide) _).mono ?_; rintro e w' ⟨rfl, rfl⟩) | (go_at_call 17; (with_reducible refine (equal_any m c hm hc _).mono ?_); rintro e w' ⟨rfl, rfl⟩) | (go_at_call 17; (with_reducible refine (equal_any m _ hm (ln_lt _ _) _).mono ?_); rintro e w' ⟨rfl, rfl⟩))
  clear r6 s6
  have r7 := in_bits m c 7 9223372036854775808 (eqM_bits m c).2.2.2.2.2.2.2
  have s7 : (bits .and .u64 (((eqM m (ln m 7) : Nat) : Int) / 9223372036854775808) 1 == 1) = true := (in_bits m (ln m 7) 7 9223372036854775808 (eqM_bits m _).2.2.2.2.2.2.2).trans (by simp)
  rw [rounds_succ]
  go_wp2_with (first | (go_at_call 9; refine (lane_yes m 7 hm (by decide) _).mono ?_; rintro e w' ⟨rfl, rfl⟩) | (go_at_call 17; (with_reducible refine (equal_any m c hm hc _).mono ?_); rintro e w' ⟨rfl, rfl⟩) | (go_at_call 17; (with_reducible refine (equal_any m _ hm (ln_lt _ _) _).mono ?_); rintro e w' ⟨rfl, rfl⟩))
  clear r7 s7
  rw [rounds_succ]
  go_wp2
  go_ret
  exact ⟨rfl, by repeat (first | exact Below.refl _ _ | apply below_drewN | refine Below.alloc ?_ (by simp) _)⟩

theorem two_any (n b c : Nat) (x y : Int) (hn : n < 18446744073709551616) (hb : b < 256) (hc : c < 256) (w : World) (hA : ∀ w', Below w.heap.size w w' → TabOk w') :
    Calls Tryd.prog 6 #[.int .u64 n, .agg #[.int .i64 x, .int .i64 y], .agg #[.int .u8 b, .int .u8 c]] w fun e w' => e = .returned (.bool true) ∧ Below w.heap.size w w' := by
  have m8 : ∀ z : Int, ∃ k : Nat, k < 8 ∧ wrap64 ((IntKind.u64.wrap z).tmod 8) = (k : Int) := fun z => by
    have h0 : 0 ≤ IntKind.u64.wrap z := by rw [IntKind.wrap_u64]; omega
    refine ⟨(IntKind.u64.wrap z % 8).toNat, by omega, ?_⟩
    rw [Int.tmod_eq_emod_of_nonneg h0, IntWalk.wrap64_in _ ⟨by omega, by omega⟩]; omega
  obtain ⟨i, hi, hx⟩ := m8 x
  obtain ⟨j, hj, hy⟩ := m8 y
  by_cases hij : (i : Int) = j
  · obtain rfl : i = j := by omega
    exact two_eq n i b c x y hn hb hc hi hx hy w hA
  · exact two_ne n i j b c x y hn hb hc hi hj hij hx hy w hA
end Go.Proofs.YthmkmnjhbnfioaaDoor.swar
