/- MeterSums: the walk. -/
import Derived.Test.YtfabhnbiijnohaaDoorMeterSums
namespace Go.Proofs.YtfabhnbiijnohaaDoor.meter
open Go.RowKit errs under trap tail
set_option linter.unusedSimpArgs false
set_option linter.unusedVariables false

set_option maxRecDepth 100000 in
theorem sums_any (a0 a1 a2 b0 b1 b2 : Int) (a : String → Addr) (w : World) (hE : w.cell? ⟨0, 0, none⟩ = some (errV (a "ambler/api.ErrLimit"))) :
    Calls Tryd.prog 4 #[cts a0 a1 a2, cts b0 b1 b2] w fun e w' => e = .returned (.bool true) ∧ Below w.heap.size w w' := by
  have hb0 : Below w.heap.size w ((w.alloc (.cells #[.int .i64 a0, .int .i64 a1, .int .i64 a2] 40)).alloc (.cells #[.int .i64 b0, .int .i64 b1, .int .i64 b2] 40)) := balloc (new_block _ _) (by simp) _
  have hlt := World.block_lt_of_cell? w _ hE
  have hA := alive_any a _ ((hb0.cell (p := ⟨0, 0, none⟩) hlt).trans hE)
  have c0 : ((w.alloc (.cells #[.int .i64 a0, .int .i64 a1, .int .i64 a2] 40)).alloc (.cells #[.int .i64 b0, .int .i64 b1, .int .i64 b2] 40)).heap.size = w.heap.size + 2 := by simp
  have e3 := fun x y z wx => eq_same3' x y z wx
  have HA := Lib.hid hA
  clear hA hE
  have k0 := sm_comm b0 a0
  have k1 := sm_comm b1 a1
  have k2 := sm_comm b2 a2
  have p1 := fun wx => plus_any a0 a1 a2 b0 b1 b2 wx
  have p2 := fun wx => plus_any b0 b1 b2 a0 a1 a2 wx
  have p3 := fun wx => rplus_any a0 a1 a2 b0 b1 b2 wx
  rw [k0, k1, k2] at p2
  clear k0 k1 k2
  generalize sm a0 b0 = s0 at p1 p2 p3
  generalize sm a1 b1 = s1 at p1 p2 p3
  generalize sm a2 b2 = s2 at p1 p2 p3
  have P1 := Lib.hid p1
  have P2 := Lib.hid p2
  have P3 := Lib.hid p3
  clear p1 p2 p3
  go_enter Tryd.func4, Tryd.ntmps4
  go_wp2_with (go_at_call 7; refine HA.out.mono ?_; rintro e w1 ⟨rfl, hb1⟩)
  have hb01 := below_step hb0 hb1
  rw [c0] at hb1
  have d0 := Under.cell ((hb1.cell (p := ⟨w.heap.size, 0, none⟩) (by simp)).trans (show _ = some (.int .i64 a0) by simp [go_sem]))
  have d1 := Under.cell ((hb1.cell (p := ⟨w.heap.size, 1, none⟩) (by simp)).trans (show _ = some (.int .i64 a1) by simp [go_sem]))
  have d2 := Under.cell ((hb1.cell (p := ⟨w.heap.size, 2, none⟩) (by simp)).trans (show _ = some (.int .i64 a2) by simp [go_sem]))
  have f0 := Under.cell ((hb1.cell (p := ⟨w.heap.size + 1, 0, none⟩) (by simp)).trans (show _ = some (.int .i64 b0) by simp [go_sem]))
  have f1 := Under.cell ((hb1.cell (p := ⟨w.heap.size + 1, 1, none⟩) (by simp)).trans (show _ = some (.int .i64 b1) by simp [go_sem]))
  have f2 := Under.cell ((hb1.cell (p := ⟨w.heap.size + 1, 2, none⟩) (by simp)).trans (show _ = some (.int .i64 b2) by simp [go_sem]))
  clear hb1 hb0 HA hlt c0
  refine wp_region_under (by kernel_rfl) (by kernel_rfl) ?_
  repeat (quiet_step ((first
    | (go_at_call 14; (with_reducible refine under_call (P1.out _)))
    | (go_at_call 14; (with_reducible refine under_call (P2.out _)))
    | (go_at_call 15; (with_reducible refine under_call (P3.out _)))
    | (go_at_call 10; (with_reducible refine under_call (of_any _ _ _ _))))))
  refine wpQuiet_nil ?_
  intro w5 hw5
  obtain ⟨m, rfl⟩ := hw5
  go_wp2
  go_ret
  exact ⟨rfl, below_step hb01 m.below⟩
end Go.Proofs.YtfabhnbiijnohaaDoor.meter
