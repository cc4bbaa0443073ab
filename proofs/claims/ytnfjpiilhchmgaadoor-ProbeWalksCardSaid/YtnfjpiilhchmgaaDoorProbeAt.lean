/- Package probe's 'At' and 'Home', and the document's own Right, At, Order. -/
import Derived.Test.YtnfjpiilhchmgaaDoorProbeOrder
import Derived.Test.YtnfjpiilhchmgaaDoorNum
import Derived.LoopTactic
import Derived.Deep.QuietTactic
namespace Go.Proofs.YtnfjpiilhchmgaaDoor.probe
open Go.ChangeShapes Go.WideShapes Go.ChangeAt Go.RowKit errs

theorem drewN_below (w : World) (q : Nat) : Below w.heap.size w (w.drewN q) := ⟨rfl, rfl, rfl, Nat.le_refl _, fun _ _ => rfl⟩

theorem at_yes (h n i : Nat) (hok : okN n) (hi : i < n) (w : World) :
    Calls Tryd.prog 5 #[.int .u64 h, .int .i64 n, .int .i64 i] w fun e w' => e = .returned (.tuple #[.int .i64 (plc h n i : Nat), .nilIface]) ∧ w = w' := by
  have hlt : (i : Int) < (n : Int) := by omega
  go_enter Tryd.func5, Tryd.ntmps5
  go_wp2_with (first
    | (go_at_call 9; refine (right_yes n hok _).mono ?_; rintro e w' ⟨rfl, rfl⟩)
    | (go_at_call 15; refine (place_any h n i hok hi _).mono ?_; rintro e w' ⟨rfl, rfl⟩))
  go_ret2
  exact ⟨rfl, rfl⟩
theorem at_off (h n : Nat) (hok : okN n) (i : Int) (hi : i < 0 ∨ (n : Int) ≤ i) (w : World) (er : Value) (hr : w.cell? ⟨0, 0, none⟩ = some er) :
    Calls Tryd.prog 5 #[.int .u64 h, .int .i64 n, .int .i64 i] w fun e w' => e = .returned (.tuple #[.int .i64 0, er]) ∧ ∃ q, w' = w.drewN q := by
  rcases hi with hi | hi
  · have h1 : decide (i < 0) = true := decide_eq_true hi
    go_enter Tryd.func5, Tryd.ntmps5
    go_wp2_with (go_at_call 9; refine (right_yes n hok _).mono ?_; rintro e w' ⟨rfl, rfl⟩)
    go_quiet (fail)
    go_wp2
    go_ret2
    exact ⟨rfl, _, rfl⟩
  · have h1 : decide (i < 0) = false := decide_eq_false (by omega)
    have h2 : decide ((n : Int) ≤ i) = true := decide_eq_true hi
    go_enter Tryd.func5, Tryd.ntmps5
    go_wp2_with (go_at_call 9; refine (right_yes n hok _).mono ?_; rintro e w' ⟨rfl, rfl⟩)
    go_quiet (fail)
    go_wp2
    go_ret2
    exact ⟨rfl, _, rfl⟩
theorem at_no (h : Nat) (g : Int) (hg : ¬ ∃ k : Nat, g = k ∧ okN k) (i : Int) (w : World) (er : Value) (hr : w.cell? ⟨0, 0, none⟩ = some er) :
    Calls Tryd.prog 5 #[.int .u64 h, .int .i64 g, .int .i64 i] w fun e w' => e = .returned (.tuple #[.int .i64 0, er]) ∧ ∃ q, w' = w.drewN q := by
  have HR := Lib.hid (fun wx => right_no g hg wx)
  clear hg
  go_enter Tryd.func5, Tryd.ntmps5
  go_wp2_with (go_at_call 9; refine (HR.out _).mono ?_; rintro e w' ⟨rfl, rfl⟩)
  go_quiet (fail)
  go_wp2
  go_ret2
  exact ⟨rfl, _, rfl⟩
theorem home_yes (h n : Nat) (hok : okN n) (w : World) :
    Calls Tryd.prog 7 #[.int .u64 h, .int .i64 n] w fun e w' => e = .returned (.tuple #[.int .i64 (plc h n 0 : Nat), .nilIface]) ∧ w = w' := by
  have hA' : ∀ wx, Calls Tryd.prog 5 #[.int .u64 h, .int .i64 n, .int .i64 0] wx fun e w' => e = .returned (.tuple #[.int .i64 (plc h n 0 : Nat), .nilIface]) ∧ wx = w' := fun wx => at_yes h n 0 hok (okN_pos hok) wx
  have hA := Lib.hid hA'
  clear hA'
  go_enter Tryd.func7, Tryd.ntmps7
  go_wp2_with (go_at_call 5; refine (hA.out _).mono ?_; rintro e w' ⟨rfl, rfl⟩)
  go_ret2
  exact ⟨rfl, rfl⟩
theorem home_no (h : Nat) (g : Int) (hg : ¬ ∃ k : Nat, g = k ∧ okN k) (w : World) (er : Value) (hr : w.cell? ⟨0, 0, none⟩ = some er) :
    Calls Tryd.prog 7 #[.int .u64 h, .int .i64 g] w fun e w' => e = .returned (.tuple #[.int .i64 0, er]) ∧ ∃ q, w' = w.drewN q := by
  go_enter Tryd.func7, Tryd.ntmps7
  go_wp2_with (go_at_call 5; refine (at_no h g hg 0 _ er hr).mono ?_; rintro e w' ⟨rfl, q, rfl⟩)
  go_ret2
  exact ⟨rfl, q, rfl⟩

/-! ### the document's own -/
theorem rright_yes (n : Nat) (h : okN n) (w : World) :
    Calls Tryd.prog 10 #[.int .i64 n] w fun e w' => e = .returned (.bool true) ∧ w = w' := by
  go_enter Tryd.func10, Tryd.ntmps10
  rcases h with rfl | rfl | rfl | rfl | rfl | rfl | rfl
  all_goals
    go_wp2
    refine wp_loop_rounds 8 ?_
    iterate 8 (try (rw [rounds_succ]; go_wp2))
    go_ret
    exact ⟨rfl, rfl⟩
theorem rright_no (g : Int) (hg : ¬ ∃ k : Nat, g = k ∧ okN k) (w : World) :
    Calls Tryd.prog 10 #[.int .i64 g] w fun e w' => e = .returned (.bool false) ∧ w = w' := by
  have h1 : ((1 : Int) == g) = false := beq_eq_false_iff_ne.2 fun e => hg ⟨1, e.symm, by decide⟩
  have h2 : ((2 : Int) == g) = false := beq_eq_false_iff_ne.2 fun e => hg ⟨2, e.symm, by decide⟩
  have h3 : ((4 : Int) == g) = false := beq_eq_false_iff_ne.2 fun e => hg ⟨4, e.symm, by decide⟩
  have h4 : ((8 : Int) == g) = false := beq_eq_false_iff_ne.2 fun e => hg ⟨8, e.symm, by decide⟩
  have h5 : ((16 : Int) == g) = false := beq_eq_false_iff_ne.2 fun e => hg ⟨16, e.symm, by decide⟩
  have h6 : ((32 : Int) == g) = false := beq_eq_false_iff_ne.2 fun e => hg ⟨32, e.symm, by decide⟩
  have h7 : ((64 : Int) == g) = false := beq_eq_false_iff_ne.2 fun e => hg ⟨64, e.symm, by decide⟩
  clear hg
  go_enter Tryd.func10, Tryd.ntmps10
  go_wp2
  refine wp_loop_rounds 8 ?_
  iterate 8 (try (rw [rounds_succ]; go_wp2))
  go_ret
  exact ⟨rfl, rfl⟩
end Go.Proofs.YtnfjpiilhchmgaaDoor.probe
