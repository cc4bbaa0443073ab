/- The contracts of package split's functions but Less and After. -/
import Derived.Test.YtplhgcidegngiaaDoorRows
import Derived.Test.YtplhgcidegngiaaDoorMath
import Derived.WalkKit
import Derived.ProofKit
import Derived.BigQuiet
import Derived.Deep.QuietTactic
import Derived.RegionTactic
import Derived.Lib.Hide
import Derived.WalkSpells
namespace Go.Proofs.YtplhgcidegngiaaDoor.split
open Go.ChangeShapes Go.WideShapes Go.ChangeAt Go.RowKit

/-- a small number stays as it is in 64 bits with a sign -/
theorem i64_nat (n : Nat) (h : n < 9223372036854775808) : wrap64 (n : Int) = (n : Int) := Go.IntWalk.wrap64_in _ (by omega)
theorem cast_pow (n : Nat) : ((2 : Int) ^ n) = ((2 ^ n : Nat) : Int) := by simp
theorem cast_div (h n : Nat) : ((h : Int) / 2 ^ n) = ((h / 2 ^ n : Nat) : Int) := by simp
theorem top_small (h d : Nat) (hh : h < 18446744073709551616) (hd : d ≤ 16) : h / 2 ^ (64 - d) < 65536 :=
  Nat.lt_of_lt_of_le (top_lt h d hh (by omega)) (Nat.pow_le_pow_right (by decide) hd)
theorem pow_small (d : Nat) (hd : d ≤ 16) : 2 ^ d ≤ 65536 := Nat.pow_le_pow_right (by decide) hd
theorem h1_any (h : Nat) (w : World) :
    Calls Tryd.prog 39 #[.int .u64 h] w fun e w' => e = .returned (.int .u64 ((h / 128 : Nat) : Int)) ∧ w = w' := by
  go_enter Tryd.func39, Tryd.ntmps39
  go_wp2
  go_ret
  exact ⟨by simp, rfl⟩
theorem h2_any (h : Nat) (hh : h < 18446744073709551616) (w : World) :
    Calls Tryd.prog 61 #[.int .u64 h] w fun e w' => e = .returned (.int .u8 ((h % 128 : Nat) : Int)) ∧ w = w' := by
  go_enter Tryd.func61, Tryd.ntmps61
  have e : bits .and .u64 (h : Int) 127 % 256 = ((h % 128 : Nat) : Int) := by
    rw [show (127 : Int) = ((127 : Nat) : Int) from rfl, u64_and_nat _ _ hh (by decide), show h &&& 127 = h % 128 from Nat.and_two_pow_sub_one_eq_mod h 7]
    omega
  go_wp2
  go_ret
  exact ⟨by rw [e]; rfl, rfl⟩
/-- there is no such prefix -/
def NoPrefix (p i : Int) : Prop := i < 0 ∨ 16 < i ∨ p < 0 ∨ (2 : Int) ^ i.toNat ≤ p
/-- the least hash of a prefix -/
def lowN (p d : Nat) : Nat := p * 2 ^ (64 - d)
theorem lowN_lt (p d : Nat) (hd : d ≤ 64) (hp : p < 2 ^ d) : lowN p d + (2 ^ (64 - d) - 1) < 18446744073709551616 := by
  have h1 : (p + 1) * 2 ^ (64 - d) ≤ 2 ^ d * 2 ^ (64 - d) := Nat.mul_le_mul_right _ (by omega)
  rw [← Nat.pow_add, show d + (64 - d) = 64 by omega, Nat.add_mul] at h1
  have h2 : 0 < 2 ^ (64 - d) := Nat.pow_pos (by decide)
  unfold lowN; omega
end Go.Proofs.YtplhgcidegngiaaDoor.split
