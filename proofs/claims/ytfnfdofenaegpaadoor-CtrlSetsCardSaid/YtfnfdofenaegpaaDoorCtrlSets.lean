/- CtrlSets: the walk. -/
import Derived.Test.YtfnfdofenaegpaaDoorCtrlAlive
namespace Go.Proofs.YtfnfdofenaegpaaDoor.ctrl
open Go.ChangeShapes Go.WideShapes Go.ChangeAt Go.RowKit swar errs

theorem sets_range (n b : Nat) (i : Int) (hi : i < 0 ∨ 8 ≤ i) (w : World) (a : String → Addr) (h : ErrsOk names a w) :
    Calls Tryd.prog 4 #[.int .u64 n, .int .i64 i, .int .u8 b] w fun e w' => e = .returned (.bool true) ∧ Below w.heap.size w w' := by
  go_enter Tryd.func4, Tryd.ntmps4
  go_wp2_with (first
    | (go_at_call 7; refine (alive_any _).mono ?_; rintro e w1 ⟨rfl, hb1⟩)
    | (go_at_call 23; refine (set_range n b i hi _ _ ((h.below hb1).at gErrRange (nm_mem (i := 0) (by decide)))).mono ?_; rintro e w2 ⟨rfl, q, rfl⟩)
    | (go_at_call 24; refine (rset_range n b i hi _).mono ?_; rintro e w3 ⟨rfl, rfl⟩)
    | (go_at_call 25; refine (num_at a 0 (by decide) _ ((h.below hb1).drewN q)).mono ?_; rintro e w4 ⟨rfl, hb4⟩)
    | (go_at_call 26; refine (new_any _).mono ?_; rintro e w5 ⟨rfl, rfl⟩))
  go_ret
  exact ⟨by simp, below_step hb1 (below_drewN hb4)⟩
theorem sets_form (n b k : Nat) (hn : n < 18446744073709551616) (hk : k < 8) (hb : okB b = false) (w : World) (a : String → Addr) (h : ErrsOk names a w) :
    Calls Tryd.prog 4 #[.int .u64 n, .int .i64 k, .int .u8 b] w fun e w' => e = .returned (.bool true) ∧ Below w.heap.size w w' := by
  go_enter Tryd.func4, Tryd.ntmps4
  go_wp2_with (first
    | (go_at_call 7; refine (alive_any _).mono ?_; rintro e w1 ⟨rfl, hb1⟩)
    | (go_at_call 23; refine (set_form n b k hn hk hb _ _ ((h.below hb1).at gErrForm (nm_mem (i := 2) (by decide)))).mono ?_; rintro e w2 ⟨rfl, q, rfl⟩)
    | (go_at_call 24; refine (rset_form n b k hk hb _).mono ?_; rintro e w3 ⟨rfl, rfl⟩)
    | (go_at_call 25; refine (num_at a 2 (by decide) _ ((h.below hb1).drewN q)).mono ?_; rintro e w4 ⟨rfl, hb4⟩)
    | (go_at_call 26; refine (new_any _).mono ?_; rintro e w5 ⟨rfl, rfl⟩))
  go_ret
  exact ⟨by simp, below_step hb1 (below_drewN hb4)⟩
theorem sets_yes (n b k : Nat) (hn : n < 18446744073709551616) (hk : k < 8) (hb8 : b < 256) (hb : okB b = true) (w : World) :
    Calls Tryd.prog 4 #[.int .u64 n, .int .i64 k, .int .u8 b] w fun e w' => e = .returned (.bool true) ∧ Below w.heap.size w w' := by
  go_enter Tryd.func4, Tryd.ntmps4
  go_wp2_with (first
    | (go_at_call 7; refine (alive_any _).mono ?_; rintro e w1 ⟨rfl, hb1⟩)
    | (go_at_call 23; refine (set_yes n b k hn hk hb _).mono ?_; rintro e w2 ⟨rfl, q, rfl⟩)
    | (go_at_call 24; refine (rset_yes n b k hn hk hb8 hb _).mono ?_; rintro e w3 ⟨rfl, hb3⟩)
    | (go_at_call 25; refine (num_nil _).mono ?_; rintro e w4 ⟨rfl, rfl⟩)
    | (go_at_call 26; refine (new_any _).mono ?_; rintro e w5 ⟨rfl, rfl⟩))
  go_ret
  exact ⟨by simp, below_step hb1 (below_drewN hb3)⟩
theorem sets_any (n b : Nat) (i : Int) (hn : n < 18446744073709551616) (hb8 : b < 256) (w : World) (a : String → Addr) (h : ErrsOk names a w) :
    Calls Tryd.prog 4 #[.int .u64 n, .int .i64 i, .int .u8 b] w fun e w' => e = .returned (.bool true) ∧ Below w.heap.size w w' := by
  by_cases hi : i < 0 ∨ 8 ≤ i
  · exact sets_range n b i hi w a h
  · obtain ⟨k, rfl⟩ := Int.eq_ofNat_of_zero_le (show 0 ≤ i by omega)
    have hk : k < 8 := by omega
    cases hb : okB b
    · exact sets_form n b k hn hk hb w a h
    · exact sets_yes n b k hn hk hb8 hb w
end Go.Proofs.YtfnfdofenaegpaaDoor.ctrl
