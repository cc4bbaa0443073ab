/- ProbeShifts: the walk. -/
import Derived.Test.YtnfjpiilhchmgaaProbeOrder
import Derived.LoopTactic
namespace Go.Proofs.Ytnfjpiilhchmgaa.probe
open Go.ChangeShapes Go.WideShapes Go.ChangeAt Go.RowKit Go.Shelf
attribute [local go_sem] Oper.semAt_some

theorem order_next (h n : Nat) (hok : okN n) (w : World) :
    Calls Try.prog 8 #[.int .u64 (IntKind.u64.wrap ((h : Int) + 1)), .int .i64 n] w fun e w' => ∃ g c, e = .returned (.slice (some ⟨g, 0, none⟩) n c) ∧ g < w'.heap.size ∧ (∀ j, j < n → w'.cell? ⟨g, j, none⟩ = some (.int .i64 ((plc h n j + 1) % n : Nat))) ∧ Below w.heap.size w w' := by
  rw [show (h : Int) + 1 = ((h + 1 : Nat) : Int) by simp, wrapu_nat]
  refine (order_at _ n hok w).mono ?_
  rintro e w' ⟨g, c, rfl, hg, hc, hb⟩
  exact ⟨g, c, rfl, hg, fun j hj => by rw [hc j hj, plc_next hok], hb⟩
theorem order_round (h n : Nat) (hok : okN n) (w : World) :
    Calls Try.prog 8 #[.int .u64 (IntKind.u64.wrap ((h : Int) + (n : Int))), .int .i64 n] w fun e w' => ∃ g c, e = .returned (.slice (some ⟨g, 0, none⟩) n c) ∧ g < w'.heap.size ∧ (∀ j, j < n → w'.cell? ⟨g, j, none⟩ = some (.int .i64 (plc h n j : Nat))) ∧ Below w.heap.size w w' := by
  rw [← Int.natCast_add, wrapu_nat]
  refine (order_at _ n hok w).mono ?_
  rintro e w' ⟨g, c, rfl, hg, hc, hb⟩
  exact ⟨g, c, rfl, hg, fun j hj => by rw [hc j hj, plc_round hok], hb⟩

set_option maxRecDepth 100000 in
set_option maxHeartbeats 4000000 in
theorem shifts_yes (h n : Nat) (hok : okN n) (w : World) :
    Calls Try.prog 4 #[.int .u64 h, .int .i64 n] w fun e w' => e = .returned (.bool true) ∧ Below w.heap.size w w' := by
  have hp := okN_pos hok
  have hl := okN_le hok
  go_enter Try.func4, Try.ntmps4
  go_wp2_with (first
    | (go_at_call 5; refine (alive_any _).mono ?_; rintro e w1 ⟨rfl, hb1⟩)
    | (go_at_call 7; refine (right_yes n hok _).mono ?_; rintro e w' ⟨rfl, rfl⟩)
    | (go_at_call 8; (with_reducible refine (order_at h n hok _).mono ?_); rintro e w2 ⟨g1, k1, rfl, hg1, hc1, hb2⟩)
    | (go_at_call 8; (with_reducible refine (order_next h n hok _).mono ?_); rintro e w3 ⟨g2, k2, rfl, hg2, hc2, hb3⟩)
    | (go_at_call 8; (with_reducible refine (order_round h n hok _).mono ?_); rintro e w4 ⟨g3, k3, rfl, hg3, hc3, hb4⟩; have hC1 : ∀ j, j < n → w4.cell? ⟨g1, j, none⟩ = some (.int .i64 (plc h n j : Nat)) := (fun j hj => (hb4.cell (p := ⟨g1, j, none⟩) (Nat.lt_of_lt_of_le hg1 hb3.size)).trans ((hb3.cell (p := ⟨g1, j, none⟩) hg1).trans (hc1 j hj))); have hC2 : ∀ j, j < n → w4.cell? ⟨g2, j, none⟩ = some (.int .i64 ((plc h n j + 1) % n : Nat)) := (fun j hj => (hb4.cell (p := ⟨g2, j, none⟩) hg2).trans (hc2 j hj)))
    | (go_at_call 9; (with_reducible refine (same_fn (plc h n) n g1 k1 g3 k3 _ hl hC1 hc3).mono ?_); rintro e w' ⟨rfl, rfl⟩))
  have hB := Lib.hid (below_step (below_step (below_step hb1 hb2) hb3) hb4)
  have HC1 := Lib.hid hC1
  have HC2 := Lib.hid hC2
  clear hb1 hb2 hb3 hb4 hC1 hC2 hc1 hc2 hc3 hg1 hg2 hg3
  go_loopw [49] (fun i W => ∃ j : Nat, j ≤ n ∧ i = .int .i64 j ∧ ∃ q, W = w4.drewN q) (fun i _ => n - (intOf i).toNat)
  case atStart => exact ⟨0, by omega, rfl, 0, rfl⟩
  case round =>
    obtain ⟨j, hj, rfl, q, rfl⟩ := hrel
    rcases Nat.lt_or_ge j n with hjn | hjn
    · have c1 := HC1.out j hjn
      have c2 := HC2.out j hjn
      have hji : (j : Int) < (n : Int) := by omega
      have hy := plc_lt (h := h) (i := j) hp
      cases j with
      | zero =>
        obtain ⟨z, hz⟩ : ∃ z, (plc h n 0 + 1) % n = z := ⟨_, rfl⟩
        have hzn : z < n := by rw [← hz]; exact Nat.mod_lt _ hp
        have ht : (((plc h n 0 : Nat) : Int) + 1).tmod (n : Int) = (z : Int) := by rw [← hz]; exact (Int.ofNat_tmod (plc h n 0 + 1) n).symm
        rw [hz] at c2
        generalize plc h n 0 = y at *
        clear hz
        go_wp2
        go_quiet (fail)
        go_wp2
        go_roundw
        case rel => exact ⟨1, by omega, by go_num, _, rfl⟩
        case measure => simp [intOf]; omega
      | succ i =>
        obtain ⟨z, hz⟩ : ∃ z, (plc h n (i + 1) + 1) % n = z := ⟨_, rfl⟩
        have hzn : z < n := by rw [← hz]; exact Nat.mod_lt _ hp
        have ht : (((plc h n (i + 1) : Nat) : Int) + 1).tmod (n : Int) = (z : Int) := by rw [← hz]; exact (Int.ofNat_tmod (plc h n (i + 1) + 1) n).symm
        have c0 := HC1.out i (by omega)
        have hy0 := plc_lt (h := h) (i := i) hp
        have hs : (((plc h n i : Nat) : Int) + ((i : Int) + 1)).tmod (n : Int) = ((plc h n (i + 1) : Nat) : Int) := by rw [plc_step]; exact (Int.ofNat_tmod (plc h n i + (i + 1)) n).symm
        rw [hz] at c2
        generalize plc h n (i + 1) = y at *
        generalize plc h n i = y0 at *
        clear hz
        have e1 : ((i + 1 : Nat) : Int) = (i : Int) + 1 := by omega
        rw [e1] at hji ⊢
        have hji0 : (i : Int) < (n : Int) := by omega
        go_wp2
        go_quiet (fail)
        go_wp2
        go_roundw
        case rel => exact ⟨i + 1 + 1, by omega, by simp, _, rfl⟩
        case measure => simp [intOf]; omega
    · obtain rfl : j = n := by omega
      go_wp2
      go_ret
      exact ⟨rfl, hB.out.trans ⟨rfl, rfl, rfl, Nat.le_refl _, fun _ _ => rfl⟩⟩

theorem shifts_no (h : Nat) (g : Int) (hg : ¬ ∃ k : Nat, g = k ∧ okN k) (w : World) :
    Calls Try.prog 4 #[.int .u64 h, .int .i64 g] w fun e w' => e = .returned (.bool true) ∧ Below w.heap.size w w' := by
  have HR := Lib.hid (fun wx => right_no g hg wx)
  have HO := Lib.hid (fun wx => order_no h g hg wx)
  clear hg
  go_enter Try.func4, Try.ntmps4
  go_wp2_with (first
    | (go_at_call 5; refine (alive_any _).mono ?_; rintro e w1 ⟨rfl, hb1⟩)
    | (go_at_call 7; refine (HR.out _).mono ?_; rintro e w' ⟨rfl, rfl⟩)
    | (go_at_call 8; refine (HO.out _).mono ?_; rintro e w2 ⟨rfl, hb2⟩))
  go_ret
  exact ⟨by rfl, below_step hb1 hb2⟩
theorem shifts_any (h : Nat) (g : Int) (w : World) :
    Calls Try.prog 4 #[.int .u64 h, .int .i64 g] w fun e w' => e = .returned (.bool true) ∧ Below w.heap.size w w' := by
  by_cases hg : ∃ k : Nat, g = k ∧ okN k
  · obtain ⟨n, rfl, hok⟩ := hg
    exact shifts_yes h n hok w
  · exact shifts_no h g hg w
end Go.Proofs.Ytnfjpiilhchmgaa.probe
