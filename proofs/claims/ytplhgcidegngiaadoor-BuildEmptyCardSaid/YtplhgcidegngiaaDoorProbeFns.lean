/- The contracts of package probe's functions but for the walk: each call hands back what is said, and memory is as it was. -/
import Derived.Test.YtplhgcidegngiaaDoorRows
import Derived.Test.YtplhgcidegngiaaDoorMath
import Derived.WalkKit
import Derived.ProofKit
import Derived.BigQuiet
import Derived.Deep.QuietTactic
import Derived.WalkSpells
import Derived.WalkLawsBesides
import Derived.RegionTactic
import Derived.LoopN
import Derived.Outline
import Derived.Lib.Hide
namespace Go.Proofs.YtplhgcidegngiaaDoor.probe
open Go.ChangeShapes Go.WideShapes Go.ChangeAt Go.RowKit

theorem ret_int {k : IntKind} {a b : Int} (h : a = b) : Ending.returned (.int k a) = .returned (.int k b) := by rw [h]

theorem right_yes (n : Nat) (h : okN n) (w : World) :
    Calls Tryd.prog 32 #[.int .i64 n] w fun e w' => e = .returned (.bool true) ∧ w = w' := by
  have hp := okN_pos h
  have hl := okN_le h
  have ha := (and_ok n (by omega) hp).2 h
  go_enter Tryd.func32, Tryd.ntmps32
  go_wp2
  all_goals (go_ret; exact ⟨by simp_all, rfl⟩)
theorem right_no (g : Int) (h : ¬ ∃ n : Nat, g = n ∧ okN n) (w : World) :
    Calls Tryd.prog 32 #[.int .i64 g] w fun e w' => e = .returned (.bool false) ∧ w = w' := by
  by_cases h0 : 0 < g
  · by_cases h1 : g ≤ 64
    · obtain ⟨n, rfl⟩ := Int.eq_ofNat_of_zero_le (show 0 ≤ g by omega)
      have hx : ¬ bits .and .i64 (n : Int) ((n : Int) - 1) = 0 := fun e => h ⟨n, rfl, (and_ok n (by omega) (by omega)).1 e⟩
      have hb : (bits .and .i64 (n : Int) ((n : Int) - 1) == 0) = false := by rw [beq_eq_false_iff_ne]; exact hx
      clear h hx
      go_enter Tryd.func32, Tryd.ntmps32
      go_wp2
      all_goals (go_ret; exact ⟨by simp_all, rfl⟩)
    · clear h
      go_enter Tryd.func32, Tryd.ntmps32
      go_wp2
      all_goals (go_ret; exact ⟨by simp_all, rfl⟩)
  · clear h
    go_enter Tryd.func32, Tryd.ntmps32
    go_wp2
    all_goals (go_ret; exact ⟨by simp_all, rfl⟩)
theorem wrapu_nat (x : Nat) : IntKind.u64.wrap (x : Int) = ((x % 18446744073709551616 : Nat) : Int) := by
  simp [IntKind.wrap, IntKind.signed, IntKind.bits]
theorem i64_nat (n : Nat) (h : n < 9223372036854775808) : wrap64 (n : Int) = (n : Int) := Go.IntWalk.wrap64_in _ (by omega)
theorem place_bits (h n i : Nat) (hok : okN n) (hi : i < n) :
    wrap64 ((IntKind.u64.wrap ((h : Int) + IntKind.u64.wrap (wrap64 ((wrap64 ((i : Int) * ((i : Int) + 1))).tdiv 2)))).tmod (n : Int)) = ((plc h n i : Nat) : Int) := by
  have hp := okN_pos hok
  have hl := okN_le hok
  have hm : i * (i + 1) ≤ 63 * 64 := Nat.mul_le_mul (by omega) (by omega)
  have hlt := plc_lt (h := h) (i := i) hp
  rw [show (i : Int) * ((i : Int) + 1) = ((i * (i + 1) : Nat) : Int) by simp, i64_nat _ (by omega), show (2 : Int) = ((2 : Nat) : Int) from rfl, ← Int.ofNat_tdiv, i64_nat _ (by omega), wrapu_nat,
    ← Int.natCast_add, wrapu_nat, ← Int.ofNat_tmod, Nat.mod_eq_of_lt (show i * (i + 1) / 2 < 18446744073709551616 by omega), plc_wrap hok, i64_nat _ (by omega)]
theorem place_any (h n i : Nat) (hok : okN n) (hi : i < n) (w : World) :
    Calls Tryd.prog 55 #[.int .u64 h, .int .i64 n, .int .i64 i] w fun e w' => e = .returned (.int .i64 (plc h n i : Nat)) ∧ w = w' := by
  have hp := okN_pos hok
  have hl := okN_le hok
  have hB := Lib.hid (place_bits h n i hok hi)
  go_enter Tryd.func55, Tryd.ntmps55
  go_wp2
  go_ret
  exact ⟨ret_int hB.out, rfl⟩

end Go.Proofs.YtplhgcidegngiaaDoor.probe
