/- SplitOrders: the walk, the first ahead by its hash. -/
import Derived.Test.YtiohlgkdlaiofaaDoorSplitDepth
import Derived.Test.YtiohlgkdlaiofaaDoorUnder
namespace Go.Proofs.YtiohlgkdlaiofaaDoor.split
open Go.ChangeShapes Go.WideShapes Go.ChangeAt Go.RowKit errs under
set_option maxHeartbeats 4000000 in
set_option maxRecDepth 20000 in
theorem orders_A (k1 v1 h1 k2 v2 h2 nk nh : Nat) (i : Int) (hh : h1 < 18446744073709551616) (hi64 : -9223372036854775808 ≤ i ∧ i ≤ 9223372036854775807) (e1 : ((h1 : Int) == (h2 : Int)) = false) (l1 : lessB k1 h1 k2 h2 = true) (l2 : lessB k2 h2 k1 h1 = false) (l3 : lessB k1 h1 nk nh = true) (l4 : lessB k2 h2 nk nh = false)
    (cA : ∀ W, Calls Tryd.prog 22 #[entV k1 v1 h1] W fun e w' => e = .returned (.tuple #[.int .u64 ((nh : Nat) : Int), .int .u64 ((nk : Nat) : Int), .bool true]) ∧ Below W.heap.size W w')
    (w : World) (a : String → Addr) (hE : ErrsOk ["ambler/api.ErrRange"] a w) :
    Calls Tryd.prog 5 #[entV k1 v1 h1, entV k2 v2 h2, .int .i64 i] w fun e w' => e = .returned (.bool true) ∧ Below w.heap.size w w' := by
  have cL1 := fun W => less_any k1 v1 h1 k2 v2 h2 W
  have cB1 := fun W => before_any k1 v1 h1 k2 v2 h2 W
  have cL2 := fun W => less_any k2 v2 h2 k1 v1 h1 W
  have cL3 : ∀ W, Calls Tryd.prog 20 #[entV k1 v1 h1, .agg #[.int .u64 ((nk : Nat) : Int), .int .u64 0, .int .u64 ((nh : Nat) : Int)]] W fun e w' => e = .returned (.bool true) ∧ Below W.heap.size W w' := fun W => by have c := less_any k1 v1 h1 nk 0 nh W; rw [l3] at c; exact c
  have cL4 : ∀ W, Calls Tryd.prog 20 #[entV k2 v2 h2, .agg #[.int .u64 ((nk : Nat) : Int), .int .u64 0, .int .u64 ((nh : Nat) : Int)]] W fun e w' => e = .returned (.bool false) ∧ Below W.heap.size W w' := fun W => by have c := less_any k2 v2 h2 nk 0 nh W; rw [l4] at c; exact c
  rw [l1] at cL1 cB1; rw [l2] at cL2
  clear l1 l2 l3 l4
  go_enter Tryd.func5, Tryd.ntmps5
  go_wp2_with (go_at_call 6; refine (alive_any _).mono ?_; rintro e w' ⟨rfl, rfl⟩)
  have hb0 : Below w.heap.size w ((w.alloc (.cells #[.int .u64 ((k1 : Nat) : Int), .int .u64 ((v1 : Nat) : Int), .int .u64 ((h1 : Nat) : Int)] 45)).alloc (.cells #[.int .u64 ((k2 : Nat) : Int), .int .u64 ((v2 : Nat) : Int), .int .u64 ((h2 : Nat) : Int)] 45)) := ((Below.refl _ _).alloc (Nat.le_refl _) _).alloc (by simp) _
  have hS0 := kept2 (k1 := k1) (v1 := v1) (h1 := h1) (k2 := k2) (v2 := v2) (h2 := h2) (a := a) (B := w.heap.size) (Below.refl _ ((w.alloc (.cells #[.int .u64 ((k1 : Nat) : Int), .int .u64 ((v1 : Nat) : Int), .int .u64 ((h1 : Nat) : Int)] 45)).alloc (.cells #[.int .u64 ((k2 : Nat) : Int), .int .u64 ((v2 : Nat) : Int), .int .u64 ((h2 : Nat) : Int)] 45))) ⟨by simp, by simp, by simp, by simp, by simp, by simp, by simp, hE.below hb0⟩
  generalize (w.alloc (.cells #[.int .u64 ((k1 : Nat) : Int), .int .u64 ((v1 : Nat) : Int), .int .u64 ((h1 : Nat) : Int)] 45)).alloc (.cells #[.int .u64 ((k2 : Nat) : Int), .int .u64 ((v2 : Nat) : Int), .int .u64 ((h2 : Nat) : Int)] 45) = w0 at hb0 hS0
  clear hE
  have n1 := Under.cell hS0.1
  have n2 := Under.cell hS0.2.1
  have n3 := Under.cell hS0.2.2.1
  have n4 := Under.cell hS0.2.2.2.1
  have n5 := Under.cell hS0.2.2.2.2.1
  have n6 := Under.cell hS0.2.2.2.2.2.1
  have HS0 := Lib.hid hS0
  clear hS0
  refine wp_region_under (by kernel_rfl) (by kernel_rfl) ?_
  repeat (quiet_step ((first
    | (go_at_call 20; (with_reducible refine under_call (cL1 _)))
    | (go_at_call 20; (with_reducible refine under_call (cL2 _)))
    | (go_at_call 21; (with_reducible refine under_call (cB1 _))))))
  refine wpQuiet_nil ?_
  intro w4 hw4
  obtain ⟨n4, rfl⟩ := hw4
  have hS5 := kept2 n4.below HS0.out
  have hb5 := below_step hb0 n4.below
  generalize n4.W = w5 at hS5 hb5
  clear n1 n2 n3 n4 n5 n6 HS0 hb0
  go_wp2_with (first
    | (go_at_call 22; (with_reducible refine (cA _).mono ?_); rintro e w6 ⟨rfl, hb6⟩; have hS6 := kept2 ((Below.refl w6.heap.size w6).alloc (Nat.le_refl _) (.cells #[.int .u64 ((nk : Nat) : Int), .int .u64 0, .int .u64 ((nh : Nat) : Int)] 45)) (kept2 hb6 hS5); have hN6 := next_cells nk nh w6)
    | (go_at_call 20; (with_reducible refine (cL3 _).mono ?_); rintro e w7 ⟨rfl, hb7⟩; have hS7 := kept2 hb7 (by assumption); have hN7 := kept1 hb7 (by assumption))
    | (go_at_call 20; (with_reducible refine (cL1 _).mono ?_); rintro e w8 ⟨rfl, hb8⟩; have hS8 := kept2 hb8 (by assumption); have hN8 := kept1 hb8 (by assumption))
    | (go_at_call 20; (with_reducible refine (cL4 _).mono ?_); rintro e w9 ⟨rfl, hb9⟩; have hS9 := kept2 hb9 (by assumption)))
  have hbz : Below w.heap.size w w9 := below_step hb5 (below_step hb6 (below_step ((Below.refl w6.heap.size w6).alloc (Nat.le_refl _) (.cells #[.int .u64 ((nk : Nat) : Int), .int .u64 0, .int .u64 ((nh : Nat) : Int)] 45)) (below_step hb7 (below_step hb8 hb9))))
  have c3 := hS9.2.2.1
  have er := hS9.2.2.2.2.2.2.2.at gErrRange (by simp)
  have er2 : ∀ q, (w9.drewN q).cell? ⟨0, 0, none⟩ = some (errV (a "ambler/api.ErrRange")) := fun _ => er
  clear hS5 hS6 hN6 hS7 hN7 hS8 hN8 cL1 cL2 cL3 cL4 cB1 cA hb5 hb6 hb7 hb8 hS9 hb9
  rcases (show (0 ≤ i ∧ i ≤ 15) ∨ i = 16 ∨ i = -1 ∨ (i < -1 ∨ 16 < i) by omega) with hi | rfl | rfl | hi
  · obtain ⟨d, rfl⟩ := Int.eq_ofNat_of_zero_le hi.1
    obtain ⟨t, m, b, ht, hb, hm, cT, cT2, cB, cW1, cW2, cW3⟩ := good_depth h1 d hh (by omega)
    have hmm : (((m : Nat) : Int) == 2 * ((t : Nat) : Int) + ((b : Nat) : Int)) = true := by simp [hm]
    have hd15 : ((d : Nat) : Int) ≤ 15 := hi.2
    clear hm er er2 hi
    go_wp2_with (first
      | (go_at_call 8; (with_reducible refine (cT _).mono ?_); rintro e w' ⟨rfl, rfl⟩)
      | (go_at_call 8; (with_reducible refine (cT2 _).mono ?_); rintro e w' ⟨rfl, rfl⟩)
      | (go_at_call 10; (with_reducible refine (cB _).mono ?_); rintro e w' ⟨rfl, rfl⟩)
      | (go_at_call 19; (with_reducible refine (cW1 _).mono ?_); rintro e w' ⟨rfl, rfl⟩)
      | (go_at_call 19; (with_reducible refine (cW2 _).mono ?_); rintro e w' ⟨rfl, rfl⟩)
      | (go_at_call 19; (with_reducible refine (cW3 _).mono ?_); rintro e w' ⟨rfl, rfl⟩))
    go_ret
    exact ⟨rfl, hbz⟩
  · have cT : ∀ W, Calls Tryd.prog 8 #[.int .u64 ((h1 : Nat) : Int), .int .i64 16] W fun e w' => e = .returned (.tuple #[.int .i64 ((h1 / 2 ^ (64 - 16) : Nat) : Int), .nilIface]) ∧ W = w' := fun W => top_yes h1 16 hh (by decide) W
    have cB : ∀ W, Calls Tryd.prog 10 #[.int .u64 ((h1 : Nat) : Int), .int .i64 16] W fun e w' => e = .returned (.tuple #[.int .i64 ((bitN h1 16 : Nat) : Int), .nilIface]) ∧ W = w' := fun W => bit_yes h1 16 hh (by decide) W
    generalize h1 / 2 ^ (64 - 16) = t at cT
    generalize bitN h1 16 = b at cB
    go_wp2_with (first
      | (go_at_call 8; (with_reducible refine (cT _).mono ?_); rintro e w' ⟨rfl, rfl⟩)
      | (go_at_call 8; (with_reducible refine (top_no h1 17 (by decide) _ _ er).mono ?_); rintro e w' ⟨rfl, q, rfl⟩)
      | (go_at_call 10; (with_reducible refine (cB _).mono ?_); rintro e w' ⟨rfl, rfl⟩))
    go_ret
    exact ⟨rfl, below_step hbz (drewN_below _ _)⟩
  · have cT : ∀ W, Calls Tryd.prog 8 #[.int .u64 ((h1 : Nat) : Int), .int .i64 0] W fun e w' => e = .returned (.tuple #[.int .i64 ((h1 / 2 ^ (64 - 0) : Nat) : Int), .nilIface]) ∧ W = w' := fun W => top_yes h1 0 hh (by decide) W
    generalize h1 / 2 ^ (64 - 0) = t at cT
    go_wp2_with (first
      | (go_at_call 8; (with_reducible refine (cT _).mono ?_); rintro e w' ⟨rfl, rfl⟩)
      | (go_at_call 8; (with_reducible refine (top_no h1 (-1) (by decide) _ _ er).mono ?_); rintro e w' ⟨rfl, q, rfl⟩)
      | (go_at_call 10; refine (bit_no h1 (-1) (by decide) _ _ (er2 _)).mono ?_; rintro e w' ⟨rfl, q2, rfl⟩))
    go_ret
    exact ⟨rfl, below_step hbz (drewN_below _ _)⟩
  · have hi2 : wrap64 (i + 1) < 0 ∨ 16 < wrap64 (i + 1) := by unfold wrap64; omega
    have hd : decide (i < 0) = true ∨ decide (i < 0) = false ∧ decide (15 < i) = true := by
      rcases hi with h | h
      · exact .inl (decide_eq_true (by omega))
      · exact .inr ⟨decide_eq_false (by omega), decide_eq_true (by omega)⟩
    have hi3 : i < 0 ∨ 16 < i := by omega
    have HI := Lib.hid hi2
    clear hi2 hi hi64
    rcases hd with hd | ⟨hd, hd2⟩
    all_goals
      go_wp2_with (first
        | (go_at_call 8; (with_reducible refine (top_no h1 i hi3 _ _ er).mono ?_); rintro e w' ⟨rfl, q, rfl⟩)
        | (go_at_call 8; refine (top_no h1 (wrap64 (i + 1)) HI.out _ _ (er2 _)).mono ?_; rintro e w' ⟨rfl, q2, rfl⟩)
        | (go_at_call 10; refine (bit_no h1 i hi3 _ _ (er2 _)).mono ?_; rintro e w' ⟨rfl, q3, rfl⟩))
      go_ret
      exact ⟨rfl, below_step hbz (drewN_below _ _)⟩
end Go.Proofs.YtiohlgkdlaiofaaDoor.split
