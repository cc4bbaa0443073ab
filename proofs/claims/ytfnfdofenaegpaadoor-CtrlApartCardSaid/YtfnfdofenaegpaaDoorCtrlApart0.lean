/- CtrlApart: the walk. -/
import Derived.Test.YtfnfdofenaegpaaDoorCtrlAlive
import Derived.Test.YtfnfdofenaegpaaDoorCtrlMath2
import Derived.Test.YtfnfdofenaegpaaDoorNum
namespace Go.Proofs.YtfnfdofenaegpaaDoor.ctrl
open Go.ChangeShapes Go.WideShapes Go.ChangeAt Go.RowKit swar errs

set_option maxRecDepth 20000 in
theorem apart_r0 (n b : Nat) (i : Int) (hn : n < 18446744073709551616) (hr : okW n = true) (hi : i < 0 ∨ 8 ≤ i) (w : World) (a : String → Addr) (ha : ∀ w', Below w.heap.size w w' → ErrsOk ["ambler/api.ErrRange", "ambler/api.ErrForm"] a w') :
    Calls Tryd.prog 5 #[.int .u64 n, .int .i64 i, .int .u8 b] w fun e w' => e = .returned (.bool true) ∧ Below w.heap.size w w' := by
  have rN := fun wx => right_any n hn wx
  rw [hr] at rN
  have hs := cnt_kinds n hn hr
  have HO := or_kinds n hr
  have HA := and_kinds n hn
  have k1 := fun wx => count_any (eqM n 128) (eqM_lt _ _) wx
  have k2 := fun wx => count_any (eqM n 254) (eqM_lt _ _) wx
  have k3 := fun wx => count_any (hiM (18446744073709551615 - n)) (hiM_lt _) wx
  generalize cnt (eqM n 128) = c1 at *
  generalize cnt (eqM n 254) = c2 at *
  generalize cnt (hiM (18446744073709551615 - n)) = c3 at *
  go_enter Tryd.func5, Tryd.ntmps5
  go_wp2_with (first
    | (go_at_call 7; refine (alive_any _).mono ?_; rintro e w1 ⟨rfl, hb1⟩)
    | (go_at_call 18; (with_reducible refine (rN _).mono ?_); rintro e w' ⟨rfl, rfl⟩)
    | (go_at_call 12; refine (empties_any n hn _).mono ?_; rintro e w' ⟨rfl, rfl⟩)
    | (go_at_call 14; refine (deleteds_any n hn _).mono ?_; rintro e w' ⟨rfl, rfl⟩)
    | (go_at_call 15; refine (fulls_any n hn _).mono ?_; rintro e w' ⟨rfl, rfl⟩)
    | (go_at_call 16; refine (frees_any n hn _).mono ?_; rintro e w' ⟨rfl, rfl⟩)
    | (go_at_call 27; (with_reducible refine (k1 _).mono ?_); rintro e w' ⟨rfl, rfl⟩)
    | (go_at_call 27; (with_reducible refine (k2 _).mono ?_); rintro e w' ⟨rfl, rfl⟩)
    | (go_at_call 27; (with_reducible refine (k3 _).mono ?_); rintro e w' ⟨rfl, rfl⟩)
    | (go_at_call 23; refine (set_range n b i hi _ _ ((ha _ hb1).at gErrRange (by simp))).mono ?_; rintro e w2 ⟨rfl, q, rfl⟩))
  all_goals
    go_ret
    exact ⟨by simp, below_step hb1 (drewN_below _ _)⟩
set_option maxRecDepth 20000 in
theorem apart_r1 (n b : Nat) (i : Int) (hn : n < 18446744073709551616) (hr : okW n = false) (hi : i < 0 ∨ 8 ≤ i) (w : World) (a : String → Addr) (ha : ∀ w', Below w.heap.size w w' → ErrsOk ["ambler/api.ErrRange", "ambler/api.ErrForm"] a w') :
    Calls Tryd.prog 5 #[.int .u64 n, .int .i64 i, .int .u8 b] w fun e w' => e = .returned (.bool true) ∧ Below w.heap.size w w' := by
  have rN := fun wx => right_any n hn wx
  rw [hr] at rN
  go_enter Tryd.func5, Tryd.ntmps5
  go_wp2_with (first
    | (go_at_call 7; refine (alive_any _).mono ?_; rintro e w1 ⟨rfl, hb1⟩)
    | (go_at_call 18; (with_reducible refine (rN _).mono ?_); rintro e w' ⟨rfl, rfl⟩)
    | (go_at_call 23; refine (set_range n b i hi _ _ ((ha _ hb1).at gErrRange (by simp))).mono ?_; rintro e w2 ⟨rfl, q, rfl⟩))
  all_goals
    go_ret
    exact ⟨by simp, below_step hb1 (drewN_below _ _)⟩
set_option maxRecDepth 20000 in
theorem apart_f0 (n b : Nat) (k : Nat) (hn : n < 18446744073709551616) (hr : okW n = true) (hk : k < 8) (hb : okB b = false) (w : World) (a : String → Addr) (ha : ∀ w', Below w.heap.size w w' → ErrsOk ["ambler/api.ErrRange", "ambler/api.ErrForm"] a w') :
    Calls Tryd.prog 5 #[.int .u64 n, .int .i64 k, .int .u8 b] w fun e w' => e = .returned (.bool true) ∧ Below w.heap.size w w' := by
  have rN := fun wx => right_any n hn wx
  rw [hr] at rN
  have hs := cnt_kinds n hn hr
  have HO := or_kinds n hr
  have HA := and_kinds n hn
  have k1 := fun wx => count_any (eqM n 128) (eqM_lt _ _) wx
  have k2 := fun wx => count_any (eqM n 254) (eqM_lt _ _) wx
  have k3 := fun wx => count_any (hiM (18446744073709551615 - n)) (hiM_lt _) wx
  generalize cnt (eqM n 128) = c1 at *
  generalize cnt (eqM n 254) = c2 at *
  generalize cnt (hiM (18446744073709551615 - n)) = c3 at *
  go_enter Tryd.func5, Tryd.ntmps5
  go_wp2_with (first
    | (go_at_call 7; refine (alive_any _).mono ?_; rintro e w1 ⟨rfl, hb1⟩)
    | (go_at_call 18; (with_reducible refine (rN _).mono ?_); rintro e w' ⟨rfl, rfl⟩)
    | (go_at_call 12; refine (empties_any n hn _).mono ?_; rintro e w' ⟨rfl, rfl⟩)
    | (go_at_call 14; refine (deleteds_any n hn _).mono ?_; rintro e w' ⟨rfl, rfl⟩)
    | (go_at_call 15; refine (fulls_any n hn _).mono ?_; rintro e w' ⟨rfl, rfl⟩)
    | (go_at_call 16; refine (frees_any n hn _).mono ?_; rintro e w' ⟨rfl, rfl⟩)
    | (go_at_call 27; (with_reducible refine (k1 _).mono ?_); rintro e w' ⟨rfl, rfl⟩)
    | (go_at_call 27; (with_reducible refine (k2 _).mono ?_); rintro e w' ⟨rfl, rfl⟩)
    | (go_at_call 27; (with_reducible refine (k3 _).mono ?_); rintro e w' ⟨rfl, rfl⟩)
    | (go_at_call 23; refine (set_form n b k hn hk hb _ _ ((ha _ hb1).at gErrForm (by simp))).mono ?_; rintro e w2 ⟨rfl, q, rfl⟩))
  all_goals
    go_ret
    exact ⟨by simp, below_step hb1 (drewN_below _ _)⟩
set_option maxRecDepth 20000 in
theorem apart_f1 (n b : Nat) (k : Nat) (hn : n < 18446744073709551616) (hr : okW n = false) (hk : k < 8) (hb : okB b = false) (w : World) (a : String → Addr) (ha : ∀ w', Below w.heap.size w w' → ErrsOk ["ambler/api.ErrRange", "ambler/api.ErrForm"] a w') :
    Calls Tryd.prog 5 #[.int .u64 n, .int .i64 k, .int .u8 b] w fun e w' => e = .returned (.bool true) ∧ Below w.heap.size w w' := by
  have rN := fun wx => right_any n hn wx
  rw [hr] at rN
  go_enter Tryd.func5, Tryd.ntmps5
  go_wp2_with (first
    | (go_at_call 7; refine (alive_any _).mono ?_; rintro e w1 ⟨rfl, hb1⟩)
    | (go_at_call 18; (with_reducible refine (rN _).mono ?_); rintro e w' ⟨rfl, rfl⟩)
    | (go_at_call 23; refine (set_form n b k hn hk hb _ _ ((ha _ hb1).at gErrForm (by simp))).mono ?_; rintro e w2 ⟨rfl, q, rfl⟩))
  all_goals
    go_ret
    exact ⟨by simp, below_step hb1 (drewN_below _ _)⟩
end Go.Proofs.YtfnfdofenaegpaaDoor.ctrl
