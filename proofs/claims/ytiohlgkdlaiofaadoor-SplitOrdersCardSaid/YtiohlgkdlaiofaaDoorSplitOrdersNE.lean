/- SplitOrders: the walk, nothing behind the first, both the same. -/
import Derived.Test.YtiohlgkdlaiofaaDoorSplitDepth
import Derived.Test.YtiohlgkdlaiofaaDoorUnder
namespace Go.Proofs.YtiohlgkdlaiofaaDoor.split
open Go.ChangeShapes Go.WideShapes Go.ChangeAt Go.RowKit errs under
set_option maxHeartbeats 4000000 in
set_option maxRecDepth 20000 in
theorem orders_nE (k1 v1 h1 k2 v2 h2 : Nat) (i : Int) (z1 : IntKind.u64.wrap (((h1 : Nat) : Int) + 1) = 0) (z2 : IntKind.u64.wrap (((k1 : Nat) : Int) + 1) = 0) (e1 : ((h1 : Int) == (h2 : Int)) = true) (e2 : ((k1 : Int) == (k2 : Int)) = true) (l1 : lessB k1 h1 k2 h2 = false) (l2 : lessB k2 h2 k1 h1 = false)
    (cA : ∀ W, Calls Tryd.prog 22 #[entV k1 v1 h1] W fun e w' => e = .returned (.tuple #[.int .u64 0, .int .u64 0, .bool false]) ∧ Below W.heap.size W w')
    (w : World) (a : String → Addr) (hE : ErrsOk ["ambler/api.ErrRange"] a w) :
    Calls Tryd.prog 5 #[entV k1 v1 h1, entV k2 v2 h2, .int .i64 i] w fun e w' => e = .returned (.bool true) ∧ Below w.heap.size w w' := by
  have cL1 := fun W => less_any k1 v1 h1 k2 v2 h2 W
  have cB1 := fun W => before_any k1 v1 h1 k2 v2 h2 W
  have cL2 := fun W => less_any k2 v2 h2 k1 v1 h1 W
  rw [l1] at cL1 cB1; rw [l2] at cL2
  clear l1 l2
  go_enter Tryd.func5, Tryd.ntmps5
  go_wp2_with (go_at_call 6; refine (alive_any _).mono ?_; rintro e w' ⟨rfl, rfl⟩)
  have hb0 : Below w.heap.size w ((w.alloc (.cells #[.int .u64 ((k1 : Nat) : Int), .int .u64 ((v1 : Nat) : Int), .int .u64 ((h1 : Nat) : Int)] 45)).alloc (.cells #[.int .u64 ((k2 : Nat) : Int), .int .u64 ((v2 : Nat) : Int), .int .u64 ((h2 : Nat) : Int)] 45)) := ((Below.refl _ _).alloc (Nat.le_refl _) _).alloc (by simp) _
  have hS0 := kept2 (k1 := k1) (v1 := v1) (h1 := h1) (k2 := k2) (v2 := v2) (h2 := h2) (a := a) (B := w.heap.size) (Below.refl _ ((w.alloc (.cells #[.int .u64 ((k1 : Nat) : Int), .int .u64 ((v1 : Nat) : Int), .int .u64 ((h1 : Nat) : Int)] 45)).alloc (.cells #[.int .u64 ((k2 : Nat) : Int), .int .u64 ((v2 : Nat) : Int), .int .u64 ((h2 : Nat) : Int)] 45))) ⟨by simp, by simp, by simp, by simp, by simp, by simp, by simp, hE.below hb0⟩
  generalize (w.alloc (.cells #[.int .u64 ((k1 : Nat) : Int), .int .u64 ((v1 : Nat) : Int), .int .u64 ((h1 : Nat) : Int)] 45)).alloc (.cells #[.int .u64 ((k2 : Nat) : Int), .int .u64 ((v2 : Nat) : Int), .int .u64 ((h2 : Nat) : Int)] 45) = w0 at hb0 hS0
  clear hE
  have n1 := Under.cell hS0.1
  have n2 := Under.cell hS0.2.1
  have n3 := Under.cell hS0.2.2.1
  have n4 := Under.cell hS0.2.2.2.1
  have n5 := Under.cell hS0.2.2.2.2.1
  have n6 := Under.cell hS0.2.2.2.2.2.1
  have HS0 := Lib.hid hS0
  clear hS0
  refine wp_region_under (by kernel_rfl) (by kernel_rfl) ?_
  repeat (quiet_step ((first
    | (go_at_call 20; (with_reducible refine under_call (cL1 _)))
    | (go_at_call 20; (with_reducible refine under_call (cL2 _)))
    | (go_at_call 21; (with_reducible refine under_call (cB1 _))))))
  refine wpQuiet_nil ?_
  intro w4 hw4
  obtain ⟨n4, rfl⟩ := hw4
  have hS5 := kept2 n4.below HS0.out
  have hb5 := below_step hb0 n4.below
  generalize n4.W = w5 at hS5 hb5
  clear n1 n2 n3 n4 n5 n6 HS0 hb0
  go_wp2_with (first
    | (go_at_call 22; (with_reducible refine (cA _).mono ?_); rintro e w6 ⟨rfl, hb6⟩; have hS6 := kept2 ((Below.refl w6.heap.size w6).alloc (Nat.le_refl _) (.cells #[.int .u64 0, .int .u64 0, .int .u64 0] 45)) (kept2 hb6 hS5))
    | (go_at_call 20; (with_reducible refine (cL1 _).mono ?_); rintro e w7 ⟨rfl, hb7⟩))
  go_ret
  exact ⟨rfl, below_step hb5 (below_step hb6 (below_step ((Below.refl w6.heap.size w6).alloc (Nat.le_refl _) (.cells #[.int .u64 0, .int .u64 0, .int .u64 0] 45)) hb7))⟩
end Go.Proofs.YtiohlgkdlaiofaaDoor.split
