/- meter: sums of counts, the document's; the example; MeterSums. -/
import Derived.Test.YtfabhnbiijnohaaDoorMeterAt
import Derived.Test.YtfabhnbiijnohaaDoorTail
import Derived.ChangeKeysEq
import Derived.IntWalk
import Derived.LoopN
namespace Go.Proofs.YtfabhnbiijnohaaDoor.meter
open Go.RowKit errs under trap tail
set_option linter.unusedSimpArgs false
set_option linter.unusedVariables false

abbrev cts (a b c : Int) : Value := .agg #[.int .i64 a, .int .i64 b, .int .i64 c]
theorem of_any (a b c : Int) (w : World) : Calls Tryd.prog 10 #[cts a b c] w fun e w' => e = .returned (cts a b c) ∧ Below w.heap.size w w' := by
  go_enter Tryd.func10, Tryd.ntmps10
  go_wp2
  exact bodyPost_ret (v := cts a b c) (by simp [results, Tryd.results10, go_sem]) rfl ⟨rfl, ((Below.refl _ _).alloc (Nat.le_refl _) _).alloc (by simp) _⟩
theorem clamp_any (x : Int) (w : World) : Calls Tryd.prog 26 #[.int .i64 x] w fun e w' => e = .returned (.int .i64 (cl x)) ∧ w = w' := by
  rcases cl_at x with ⟨h, e⟩ | ⟨h, h2, e⟩ | ⟨h, e⟩
  · have d : decide (x < 0) = true := decide_eq_true h
    rw [e]
    clear e
    go_enter Tryd.func26, Tryd.ntmps26
    go_wp2
    go_ret
    exact ⟨rfl, rfl⟩
  · have d : decide (x < 0) = false := decide_eq_false (by omega)
    have d2 : decide (1099511627776 < x) = false := decide_eq_false (by omega)
    rw [e]
    clear e
    go_enter Tryd.func26, Tryd.ntmps26
    go_wp2
    go_ret
    exact ⟨rfl, rfl⟩
  · have d : decide (x < 0) = false := decide_eq_false (by omega)
    have d2 : decide (1099511627776 < x) = true := decide_eq_true h
    rw [e]
    clear e
    go_enter Tryd.func26, Tryd.ntmps26
    go_wp2
    go_ret
    exact ⟨rfl, rfl⟩
theorem clamp_q (x : Int) (w : World) : Calls Tryd.prog 26 #[.int .i64 x] w fun e w' => e = .returned (.int .i64 (cl x)) ∧ w' = w := (clamp_any x w).mono fun e w' ⟨he, hw⟩ => ⟨he, hw.symm⟩
theorem sum_q (a b : Int) (w : World) : Calls Tryd.prog 25 #[.int .i64 a, .int .i64 b] w fun e w' => e = .returned (.int .i64 (sm a b)) ∧ w' = w := (sum_any a b w).mono fun e w' ⟨he, hw⟩ => ⟨he, hw.symm⟩
theorem plus_any (a0 a1 a2 b0 b1 b2 : Int) (w : World) : Calls Tryd.prog 14 #[cts a0 a1 a2, cts b0 b1 b2] w fun e w' => e = .returned (cts (sm a0 b0) (sm a1 b1) (sm a2 b2)) ∧ Below w.heap.size w w' := by
  go_enter Tryd.func14, Tryd.ntmps14
  go_wp2
  refine wp_region_tail_drew 16 (by kernel_rfl) (by kernel_rfl) ?_
  simp only [List.take_succ_cons, List.take_zero, List.drop_succ_cons, List.drop_zero]
  repeat (quiet_step ((go_at_call 25; exact Calls.quiet_of_same (sum_q _ _ _))))
  refine wpQuiet_nil ?_
  intro w4 hw4
  obtain ⟨n4, rfl⟩ := hw4
  go_wp2
  refine bodyPost_ret (v := cts (sm a0 b0) (sm a1 b1) (sm a2 b2)) (by simp [results, Tryd.results14, go_sem]) rfl ⟨rfl, ?_⟩
  refine bset (bset (bset (bdrewN ?_ _) _ _ (by omega) _) _ _ (by omega) _) _ _ (by omega) _
  exact balloc (balloc (balloc (Below.refl _ _) (Nat.le_refl _) _) (by simp) _) (by simp; omega) _
theorem i64_sum (a b : Int) : IntKind.i64.wrap (cl a + cl b) = cl a + cl b := by
  have h1 := cl_lo a
  have h2 := cl_hi a
  have h3 := cl_lo b
  have h4 := cl_hi b
  exact IntWalk.i64_in _ (by omega)
theorem rplus_any (a0 a1 a2 b0 b1 b2 : Int) (w : World) : Calls Tryd.prog 15 #[cts a0 a1 a2, cts b0 b1 b2] w fun e w' => e = .returned (cts (sm a0 b0) (sm a1 b1) (sm a2 b2)) ∧ Below w.heap.size w w' := by
  have s0 := i64_sum a0 b0
  have s1 := i64_sum a1 b1
  have s2 := i64_sum a2 b2
  go_enter Tryd.func15, Tryd.ntmps15
  go_wp2
  refine wp_loop_rounds 4 ?_
  iterate 3
    rw [rounds_succ]
    go_wp2
    refine wp_region_tail_drew 12 (by kernel_rfl) (by kernel_rfl) ?_
    simp only [List.take_succ_cons, List.take_zero, List.drop_succ_cons, List.drop_zero]
    repeat (quiet_step ((go_at_call 26; exact Calls.quiet_of_same (clamp_q _ _))))
    refine wpQuiet_nil ?_
    intro w4 hw4
    obtain ⟨n4, rfl⟩ := hw4
    go_wp2
  rw [rounds_succ]
  go_wp2
  refine bodyPost_ret (v := cts (sm a0 b0) (sm a1 b1) (sm a2 b2)) ?_ rfl ⟨rfl, ?_⟩
  · simp [results, Tryd.results15, go_sem, sm]
  · refine bset (bset (bset (bset (bdrewN (bset (bdrewN (bset (bdrewN ?_ _) _ _ (by omega) _) _) _ _ (by omega) _) _) _ _ (by omega) _) _ _ (by omega) _) _ _ (by omega) _) _ _ (by omega) _
    exact balloc (balloc (balloc (balloc (Below.refl _ _) (Nat.le_refl _) _) (by simp) _) (by simp; omega) _) (by simp; omega) _
theorem cells3 : Tryd.prog.cellsOf 3 = 1 := by kernel_rfl
theorem info3 : (Tryd.prog.info? 3).isSome = true := by kernel_rfl
/-- '==' of an array's value and itself -/
theorem eq_same3 (a b c : Int) (w : World) : (Op.equalIn 10000 30 (cts a b c) (cts a b c)).run Tryd.prog w = .ok true w := by
  obtain ⟨i, hi⟩ := Option.isSome_iff_exists.1 info3
  rw [show (10000 : Nat) = 9998 + 1 + 1 from rfl, run_equalIn_array w (9998 + 1) _ _ Tryd.underlying30 hi, cells3]
  have e : List.range 3 = [0, 1, 2] := by decide
  rw [e]
  simp [Op.eqItems, part, go_sem, Tryd.underlying3, run_equalIn_int]
theorem eq_same3' (a b c : Int) (w : World) : (Op.equalIn 10000 31 (cts a b c) (cts a b c)).run Tryd.prog w = .ok true w := by
  obtain ⟨i, hi⟩ := Option.isSome_iff_exists.1 info3
  rw [show (10000 : Nat) = 9998 + 1 + 1 from rfl, run_equalIn_array w (9998 + 1) _ _ Tryd.underlying31 hi, cells3]
  have e : List.range 3 = [0, 1, 2] := by decide
  rw [e]
  simp [Op.eqItems, part, go_sem, Tryd.underlying3, run_equalIn_int]

/-! ### the example -/
theorem fld2 (a b c : Int) (w : World) : (Instr.field 40 (cts a b c) 2).run Tryd.prog w = .ok (.int .i64 c) w := by kernel_rfl
theorem val3 : (Mt.zero.probes 1).unit 3 = ⟨1, 1, 0, 0, 3, 3, 0, false⟩ := by rfl
set_option maxRecDepth 100000 in
theorem alive_any (a : String → Addr) (w : World) (hE : w.cell? ⟨0, 0, none⟩ = some (errV (a "ambler/api.ErrLimit"))) :
    Calls Tryd.prog 7 #[] w fun e w' => e = .returned (.bool true) ∧ Below w.heap.size w w' := by
  have hb0 := new_block w (.cells #[.int .i64 0, .int .i64 0, .int .i64 0, .int .i64 0, .int .i64 0, .int .i64 0, .int .i64 0, .bool false] 28)
  have m0 := MAt.new w
  have hlt := World.block_lt_of_cell? w _ hE
  have cE : ∀ x, Below w.heap.size w x → x.cell? ⟨0, 0, none⟩ = some (errV (a "ambler/api.ErrLimit")) := fun x hx => (hx.cell (p := ⟨0, 0, none⟩) hlt).trans hE
  have CE := Lib.hid cE
  clear cE hE
  have M0 := Lib.hid m0
  clear m0
  have f2 := fld2
  go_enter Tryd.func7, Tryd.ntmps7
  go_wp2_with (first
    | (go_at_call 17; (with_reducible refine (probing_any w.heap.size 0 _).mono ?_); rintro e w1 ⟨rfl, hb1⟩; have hb01 := below_step hb0 hb1; have M1 := Lib.hid (M0.out.below hb1))
    | (go_at_call 13; (with_reducible refine (visit_probes w.heap.size 0 _ _ M1.out).mono ?_); rintro e w2 ⟨rfl, s2⟩; have hb02 := MStep.fresh hb01 s2 (Nat.le_refl _))
    | (go_at_call 18; (with_reducible refine (unit_any a w.heap.size 0 _ (Mt.zero_ok.probes 1) 3 _ s2.at' (CE.out _ hb02)).mono ?_); rintro e w3 ⟨he, s3⟩; obtain rfl := ends_zero he; have hb03 := MStep.fresh hb02 s3 (Nat.le_refl _); have m3 := s3.at'; rw [val3] at m3; have M3 := Lib.hid m3; clear m3)
    | (go_at_call 12; (with_reducible refine (last_any w.heap.size 0 _ _ M3.out).mono ?_); rintro e w4 ⟨rfl, hb4⟩; have hb04 := below_step hb03 hb4; have M4 := Lib.hid (M3.out.below hb4))
    | (go_at_call 11; (with_reducible refine (all_any w.heap.size 0 _ _ M4.out).mono ?_); rintro e w5 ⟨rfl, hb5⟩; have hb05 := below_step hb04 hb5))
  go_ret
  exact ⟨rfl, hb05⟩
end Go.Proofs.YtfabhnbiijnohaaDoor.meter
