/- SplLess: several texts in one: plain facts and laws for the walks. No program is named. -/
import Derived.Test.YtmbdfoobnkanlaaDoorRows
import Derived.Test.YtmbdfoobnkanlaaDoorMath
import Derived.WalkKit
import Derived.ProofKit
import Derived.BigQuiet
import Derived.Deep.QuietTactic
import Derived.RegionTactic
import Derived.Lib.Hide
import Derived.WalkSpells
import Derived.Test.YtmbdfoobnkanlaaDoorKit
import Derived.Test.YtmbdfoobnkanlaaDoorErrC

/-! ### The contracts of package split's functions but Less and After. -/
namespace Go.Proofs.YtmbdfoobnkanlaaDoor.split
open Go.ChangeShapes Go.WideShapes Go.ChangeAt Go.RowKit

theorem isDepth_yes (d : Nat) (hd : d ≤ 16) (w : World) :
    Calls Tryd.prog 55 #[.int .i64 d] w fun e w' => e = .returned (.bool true) ∧ w = w' := by
  have h' : decide ((d : Int) ≤ 16) = true := decide_eq_true (by omega)
  go_enter Tryd.func55, Tryd.ntmps55
  go_wp2
  all_goals (go_ret; exact ⟨by simp_all, rfl⟩)
theorem isDepth_no (i : Int) (h : i < 0 ∨ 16 < i) (w : World) :
    Calls Tryd.prog 55 #[.int .i64 i] w fun e w' => e = .returned (.bool false) ∧ w = w' := by
  rcases h with h | h
  · have h' : decide ((0 : Int) ≤ i) = false := decide_eq_false (by omega)
    go_enter Tryd.func55, Tryd.ntmps55
    go_wp2
    all_goals (go_ret; exact ⟨by simp_all, rfl⟩)
  · have h' : decide ((0 : Int) ≤ i) = true := decide_eq_true (by omega)
    have h'' : decide (i ≤ 16) = false := decide_eq_false (by omega)
    go_enter Tryd.func55, Tryd.ntmps55
    go_wp2
    all_goals (go_ret; exact ⟨by simp_all, rfl⟩)
/-- a small number stays as it is in 64 bits with a sign -/
theorem i64_nat (n : Nat) (h : n < 9223372036854775808) : wrap64 (n : Int) = (n : Int) := Go.IntWalk.wrap64_in _ (by omega)
theorem cast_pow (n : Nat) : ((2 : Int) ^ n) = ((2 ^ n : Nat) : Int) := by simp
theorem cast_div (h n : Nat) : ((h : Int) / 2 ^ n) = ((h / 2 ^ n : Nat) : Int) := by simp
theorem top_small (h d : Nat) (hh : h < 18446744073709551616) (hd : d ≤ 16) : h / 2 ^ (64 - d) < 65536 :=
  Nat.lt_of_lt_of_le (top_lt h d hh (by omega)) (Nat.pow_le_pow_right (by decide) hd)
theorem pow_small (d : Nat) (hd : d ≤ 16) : 2 ^ d ≤ 65536 := Nat.pow_le_pow_right (by decide) hd
theorem ltop_any (h d : Nat) (hh : h < 18446744073709551616) (hd : d ≤ 16) (w : World) :
    Calls Tryd.prog 56 #[.int .u64 h, .int .i64 d] w fun e w' => e = .returned (.int .i64 ((h / 2 ^ (64 - d) : Nat) : Int)) ∧ w = w' := by
  have e : wrap64 ((h : Int) / 2 ^ (64 - d)) = ((h / 2 ^ (64 - d) : Nat) : Int) := by
    rw [cast_div, i64_nat (h / 2 ^ (64 - d)) (by have := top_small h d hh hd; omega)]
  go_enter Tryd.func56, Tryd.ntmps56
  go_wp2
  go_ret
  exact ⟨by rw [e]; rfl, rfl⟩
theorem top_yes (h d : Nat) (hh : h < 18446744073709551616) (hd : d ≤ 16) (w : World) :
    Calls Tryd.prog 49 #[.int .u64 h, .int .i64 d] w fun e w' => e = .returned (.tuple #[.int .i64 ((h / 2 ^ (64 - d) : Nat) : Int), .nilIface]) ∧ w = w' := by
  go_enter Tryd.func49, Tryd.ntmps49
  go_wp2_with (first
    | (go_at_call 55; refine (isDepth_yes d hd _).mono ?_; rintro e w' ⟨rfl, rfl⟩)
    | (go_at_call 56; refine (ltop_any h d hh hd _).mono ?_; rintro e w' ⟨rfl, rfl⟩))
  go_ret2
  exact ⟨rfl, rfl⟩
theorem top_no (h : Nat) (i : Int) (hi : i < 0 ∨ 16 < i) (w : World) (er : Value) (hr : w.cell? ⟨1, 0, none⟩ = some er) :
    Calls Tryd.prog 49 #[.int .u64 h, .int .i64 i] w fun e w' => e = .returned (.tuple #[.int .i64 0, er]) ∧ ∃ q, w' = w.drewN q := by
  go_enter Tryd.func49, Tryd.ntmps49
  go_wp2_with (go_at_call 55; refine (isDepth_no i hi _).mono ?_; rintro e w' ⟨rfl, rfl⟩)
  go_quiet (fail)
  go_wp2
  go_ret2
  exact ⟨rfl, _, rfl⟩
/-- which prefixes there are of a depth -/
theorem isPrefix_yes (p d : Nat) (hd : d ≤ 16) (hp : p < 2 ^ d) (w : World) :
    Calls Tryd.prog 50 #[.int .i64 p, .int .i64 d] w fun e w' => e = .returned (.bool true) ∧ w = w' := by
  have e : wrap64 ((2 : Int) ^ d) = ((2 ^ d : Nat) : Int) := by
    rw [cast_pow, i64_nat (2 ^ d) (by have := pow_small d hd; omega)]
  have e2 : decide ((p : Int) < (2 : Int) ^ d) = true := decide_eq_true (by rw [cast_pow]; omega)
  go_enter Tryd.func50, Tryd.ntmps50
  go_wp2_with (go_at_call 55; refine (isDepth_yes d hd _).mono ?_; rintro e w' ⟨rfl, rfl⟩)
  all_goals (go_ret; exact ⟨by first | rfl | (rw [e2]; rfl), rfl⟩)
theorem isPrefix_neg (p : Int) (d : Nat) (hd : d ≤ 16) (hp : p < 0) (w : World) :
    Calls Tryd.prog 50 #[.int .i64 p, .int .i64 d] w fun e w' => e = .returned (.bool false) ∧ w = w' := by
  have h' : decide ((0 : Int) ≤ p) = false := decide_eq_false (by omega)
  go_enter Tryd.func50, Tryd.ntmps50
  go_wp2_with (go_at_call 55; refine (isDepth_yes d hd _).mono ?_; rintro e w' ⟨rfl, rfl⟩)
  all_goals (go_ret; exact ⟨rfl, rfl⟩)
theorem isPrefix_big (p d : Nat) (hd : d ≤ 16) (hp : 2 ^ d ≤ p) (w : World) :
    Calls Tryd.prog 50 #[.int .i64 p, .int .i64 d] w fun e w' => e = .returned (.bool false) ∧ w = w' := by
  have e : wrap64 ((2 : Int) ^ d) = ((2 ^ d : Nat) : Int) := by
    rw [cast_pow, i64_nat (2 ^ d) (by have := pow_small d hd; omega)]
  have e2 : decide ((p : Int) < (2 : Int) ^ d) = false := decide_eq_false (by rw [cast_pow]; omega)
  go_enter Tryd.func50, Tryd.ntmps50
  go_wp2_with (go_at_call 55; refine (isDepth_yes d hd _).mono ?_; rintro e w' ⟨rfl, rfl⟩)
  all_goals (go_ret; exact ⟨by first | rfl | (rw [e2]; rfl), rfl⟩)
theorem isPrefix_deep (p i : Int) (h : i < 0 ∨ 16 < i) (w : World) :
    Calls Tryd.prog 50 #[.int .i64 p, .int .i64 i] w fun e w' => e = .returned (.bool false) ∧ w = w' := by
  go_enter Tryd.func50, Tryd.ntmps50
  go_wp2_with (go_at_call 55; refine (isDepth_no i h _).mono ?_; rintro e w' ⟨rfl, rfl⟩)
  all_goals (go_ret; exact ⟨rfl, rfl⟩)
/-- there is no such prefix -/
def NoPrefix (p i : Int) : Prop := i < 0 ∨ 16 < i ∨ p < 0 ∨ (2 : Int) ^ i.toNat ≤ p
theorem isPrefix_no (p i : Int) (h : NoPrefix p i) (w : World) :
    Calls Tryd.prog 50 #[.int .i64 p, .int .i64 i] w fun e w' => e = .returned (.bool false) ∧ w = w' := by
  by_cases hi : i < 0 ∨ 16 < i
  · exact isPrefix_deep p i hi w
  · obtain ⟨d, rfl⟩ := Int.eq_ofNat_of_zero_le (show 0 ≤ i by omega)
    by_cases hp : p < 0
    · exact isPrefix_neg p d (by omega) hp w
    · obtain ⟨n, rfl⟩ := Int.eq_ofNat_of_zero_le (show 0 ≤ p by omega)
      refine isPrefix_big n d (by omega) ?_ w
      rcases h with h | h | h | h
      · omega
      · omega
      · omega
      · rw [Int.toNat_natCast] at h; exact_mod_cast h
/-- the least hash of a prefix -/
def lowN (p d : Nat) : Nat := p * 2 ^ (64 - d)
theorem lowN_lt (p d : Nat) (hd : d ≤ 64) (hp : p < 2 ^ d) : lowN p d + (2 ^ (64 - d) - 1) < 18446744073709551616 := by
  have h1 : (p + 1) * 2 ^ (64 - d) ≤ 2 ^ d * 2 ^ (64 - d) := Nat.mul_le_mul_right _ (by omega)
  rw [← Nat.pow_add, show d + (64 - d) = 64 by omega, Nat.add_mul] at h1
  have h2 : 0 < 2 ^ (64 - d) := Nat.pow_pos (by decide)
  unfold lowN; omega
theorem llow_any (p d : Nat) (hd : d ≤ 16) (hp : p < 2 ^ d) (w : World) :
    Calls Tryd.prog 51 #[.int .i64 p, .int .i64 d] w fun e w' => e = .returned (.int .u64 ((lowN p d : Nat) : Int)) ∧ w = w' := by
  have hp2 : p < 65536 := Nat.lt_of_lt_of_le hp (pow_small d hd)
  go_enter Tryd.func51, Tryd.ntmps51
  have e : IntKind.u64.wrap ((p : Int) * 2 ^ (64 - d)) = ((lowN p d : Nat) : Int) := by
    have h := lowN_lt p d (by omega) hp
    unfold lowN at h ⊢
    rw [cast_pow, ← Int.natCast_mul, IntKind.wrap_u64]; omega
  go_wp2
  go_ret
  exact ⟨rfl, rfl⟩
theorem low_yes (p d : Nat) (hd : d ≤ 16) (hp : p < 2 ^ d) (w : World) :
    Calls Tryd.prog 42 #[.int .i64 p, .int .i64 d] w fun e w' => e = .returned (.tuple #[.int .u64 ((lowN p d : Nat) : Int), .nilIface]) ∧ w = w' := by
  go_enter Tryd.func42, Tryd.ntmps42
  go_wp2_with (first
    | (go_at_call 50; refine (isPrefix_yes p d hd hp _).mono ?_; rintro e w' ⟨rfl, rfl⟩)
    | (go_at_call 51; refine (llow_any p d hd hp _).mono ?_; rintro e w' ⟨rfl, rfl⟩))
  go_ret2
  exact ⟨rfl, rfl⟩
theorem low_no (p i : Int) (h : NoPrefix p i) (w : World) (er : Value) (hr : w.cell? ⟨1, 0, none⟩ = some er) :
    Calls Tryd.prog 42 #[.int .i64 p, .int .i64 i] w fun e w' => e = .returned (.tuple #[.int .u64 0, er]) ∧ ∃ q, w' = w.drewN q := by
  go_enter Tryd.func42, Tryd.ntmps42
  go_wp2_with (go_at_call 50; refine (isPrefix_no p i h _).mono ?_; rintro e w' ⟨rfl, rfl⟩)
  go_quiet (fail)
  go_wp2
  go_ret2
  exact ⟨rfl, _, rfl⟩
theorem high_no (p i : Int) (h : NoPrefix p i) (w : World) (er : Value) (hr : w.cell? ⟨1, 0, none⟩ = some er) :
    Calls Tryd.prog 44 #[.int .i64 p, .int .i64 i] w fun e w' => e = .returned (.tuple #[.int .u64 0, er]) ∧ ∃ q, w' = w.drewN q := by
  go_enter Tryd.func44, Tryd.ntmps44
  go_wp2_with (go_at_call 50; refine (isPrefix_no p i h _).mono ?_; rintro e w' ⟨rfl, rfl⟩)
  go_quiet (fail)
  go_wp2
  go_ret2
  exact ⟨rfl, _, rfl⟩
theorem high_yes (p d : Nat) (hd : d ≤ 16) (hp : p < 2 ^ d) (w : World) :
    Calls Tryd.prog 44 #[.int .i64 p, .int .i64 d] w fun e w' => e = .returned (.tuple #[.int .u64 ((lowN p d + (2 ^ (64 - d) - 1) : Nat) : Int), .nilIface]) ∧ ∃ q, w' = w.drewN q := by
  go_enter Tryd.func44, Tryd.ntmps44
  go_wp2_with (go_at_call 50; refine (isPrefix_yes p d hd hp _).mono ?_; rintro e w' ⟨rfl, rfl⟩)
  go_quiet ((go_at_call 51; refine Calls.quiet_of_same ((llow_any p d hd hp _).mono fun _ _ ⟨he, hw⟩ => ⟨he, hw.symm⟩)))
  have e : bits .or .u64 ((lowN p d : Nat) : Int) (18446744073709551615 / 2 ^ d) = ((lowN p d + (2 ^ (64 - d) - 1) : Nat) : Int) := by
    have h := lowN_lt p d (by omega) hp
    have h2 : 0 < 2 ^ (64 - d) := Nat.pow_pos (by decide)
    have h3 : 18446744073709551615 / 2 ^ d = 2 ^ (64 - d) - 1 := by
      rcases cases17 hd with rfl | rfl | rfl | rfl | rfl | rfl | rfl | rfl | rfl | rfl | rfl | rfl | rfl | rfl | rfl | rfl | rfl <;> decide
    rw [show (18446744073709551615 : Int) / 2 ^ d = ((2 ^ (64 - d) - 1 : Nat) : Int) by rw [← h3]; simp, u64_or_nat _ _ (by omega) (by omega),
      nat_join (64 - d) (lowN p d) _ (Nat.mul_mod_left _ _) (by omega)]
  go_wp2
  go_ret2
  exact ⟨by rw [e]; rfl, _, rfl⟩
end Go.Proofs.YtmbdfoobnkanlaaDoor.split

/-! ### The order of entries: Less, Before (for seats without layer 3's own law). -/
namespace Go.Proofs.YtmbdfoobnkanlaaDoor.split
open Go.ChangeShapes Go.WideShapes Go.ChangeAt Go.RowKit

/-- an entry: key, value, hash -/
abbrev entV (k v h : Nat) : Value := .agg #[.int .u64 ((k : Nat) : Int), .int .u64 ((v : Nat) : Int), .int .u64 ((h : Nat) : Int)]
/-- does it come ahead, by hash and key -/
def lessB (k1 h1 k2 h2 : Nat) : Bool := if h1 = h2 then decide (k1 < k2) else decide (h1 < h2)
/-- the order is one of all entries -/
theorem lessB_lt {k1 h1 k2 h2 : Nat} (h : h1 < h2) : lessB k1 h1 k2 h2 = true ∧ lessB k2 h2 k1 h1 = false := by
  unfold lessB; rw [if_neg (by omega), if_neg (by omega)]; simp; omega
theorem lessB_key {k1 k2 h : Nat} (hk : k1 < k2) : lessB k1 h k2 h = true ∧ lessB k2 h k1 h = false := by
  unfold lessB; rw [if_pos rfl, if_pos rfl]; simp; omega
theorem lessB_same (k h : Nat) : lessB k h k h = false := by unfold lessB; rw [if_pos rfl]; simp
theorem lessB_iff (k1 h1 k2 h2 : Nat) : lessB k1 h1 k2 h2 = true ↔ (h1 < h2 ∨ h1 = h2 ∧ k1 < k2) := by
  unfold lessB; split <;> simp <;> omega
end Go.Proofs.YtmbdfoobnkanlaaDoor.split
