/- Plain arithmetic of bits: a number's bits from the highest one on, and the number of so many bits. No program is named. -/
import Derived.WalkKit
namespace Go.Proofs.YtgpfhgkphadgkaaDoor.split

/-- bit j of h (of 64), the highest one first -/
def bitN (h j : Nat) : Nat := h / 2 ^ (63 - j) % 2
theorem bitN_lt (h j : Nat) : bitN h j < 2 := Nat.mod_lt _ (by decide)
/-- the number of the first n of some bits -/
def num (b : Nat → Nat) : Nat → Nat
  | 0 => 0
  | n + 1 => num b n * 2 + b n
theorem num_zero (b : Nat → Nat) : num b 0 = 0 := rfl
theorem num_succ (b : Nat → Nat) (n : Nat) : num b (n + 1) = num b n * 2 + b n := rfl
theorem num_lt (b : Nat → Nat) : ∀ (n : Nat), (∀ j, j < n → b j < 2) → num b n < 2 ^ n
  | 0, _ => by simp [num]
  | n + 1, h => by
    have h1 := num_lt b n (fun j hj => h j (by omega))
    have h2 := h n (by omega)
    rw [num_succ, Nat.pow_succ]; omega
theorem num_lt64 (b : Nat → Nat) (n : Nat) (hn : n ≤ 64) (h : ∀ j, j < n → b j < 2) : num b n < 18446744073709551616 :=
  Nat.lt_of_lt_of_le (num_lt b n h) (Nat.pow_le_pow_right (by decide) hn)
theorem num_congr (b c : Nat → Nat) : ∀ (n : Nat), (∀ j, j < n → b j = c j) → num b n = num c n
  | 0, _ => rfl
  | n + 1, h => by rw [num_succ, num_succ, num_congr b c n (fun j hj => h j (by omega)), h n (by omega)]
/-- a stretch of a number's bits: the first n behind some -/
theorem num_div (p m : Nat) : ∀ (n : Nat), n ≤ m → p < 2 ^ m → num (fun j => p / 2 ^ (m - 1 - j) % 2) n = p / 2 ^ (m - n)
  | 0, _, hp => by rw [Nat.sub_zero, Nat.div_eq_of_lt hp]; rfl
  | n + 1, hn, hp => by
    rw [num_succ, num_div p m n (by omega) hp, show m - 1 - n = m - (n + 1) by omega]
    rw [show m - n = (m - (n + 1)) + 1 by omega, Nat.pow_succ, ← Nat.div_div_eq_div_mul]
    omega
theorem num_mod (h a : Nat) : ∀ (n : Nat), a + n ≤ 64 → num (fun j => bitN h (a + j)) n = h / 2 ^ (64 - a - n) % 2 ^ n
  | 0, _ => by simp [num, Nat.mod_one]
  | n + 1, hn => by
    rw [num_succ, num_mod h a n (by omega)]
    unfold bitN
    rw [show 63 - (a + n) = 64 - a - (n + 1) by omega, show 64 - a - n = (64 - a - (n + 1)) + 1 by omega, Nat.pow_succ, ← Nat.div_div_eq_div_mul]
    rw [show (2 : Nat) ^ (n + 1) = 2 * 2 ^ n by rw [Nat.pow_succ, Nat.mul_comm], Nat.mod_mul]
    omega
/-- the first d bits -/
theorem num_top (h d : Nat) (hh : h < 18446744073709551616) (hd : d ≤ 64) : num (bitN h) d = h / 2 ^ (64 - d) := by
  have e := num_mod h 0 d (by omega)
  simp only [Nat.zero_add, Nat.sub_zero] at e
  rw [show num (bitN h) d = num (fun j => bitN h j) d from rfl, e]
  refine Nat.mod_eq_of_lt ?_
  rw [Nat.div_lt_iff_lt_mul (Nat.pow_pos (by decide)), ← Nat.pow_add, show d + (64 - d) = 64 by omega]
  exact hh
theorem num_h1 (h : Nat) (hh : h < 18446744073709551616) : num (bitN h) 57 = h / 128 := num_top h 57 hh (by decide)
theorem num_h2 (h : Nat) : num (fun j => bitN h (57 + j)) 7 = h % 128 := by
  rw [num_mod h 57 7 (by decide)]; simp
/-- a top is below 2 to the depth -/
theorem top_lt (h d : Nat) (hh : h < 18446744073709551616) (hd : d ≤ 64) : h / 2 ^ (64 - d) < 2 ^ d := by
  rw [Nat.div_lt_iff_lt_mul (Nat.pow_pos (by decide)), ← Nat.pow_add, show d + (64 - d) = 64 by omega]
  exact hh
theorem top_next (h d : Nat) (hd : d < 64) : h / 2 ^ (64 - (d + 1)) = 2 * (h / 2 ^ (64 - d)) + bitN h d := by
  unfold bitN
  rw [show 63 - d = 64 - (d + 1) by omega, show 64 - d = (64 - (d + 1)) + 1 by omega, Nat.pow_succ, ← Nat.div_div_eq_div_mul]
  omega
/-- behind the first d bits zeros, or ones -/
theorem num_zeros (b : Nat → Nat) (d : Nat) : ∀ (k : Nat), (∀ j, d ≤ j → j < d + k → b j = 0) → num b (d + k) = num b d * 2 ^ k
  | 0, _ => by simp
  | k + 1, h => by
    rw [← Nat.add_assoc, num_succ, num_zeros b d k (fun j h1 h2 => h j h1 (by omega)), h (d + k) (by omega) (by omega), Nat.pow_succ, Nat.mul_assoc]; rfl
theorem num_ones (b : Nat → Nat) (d : Nat) : ∀ (k : Nat), (∀ j, d ≤ j → j < d + k → b j = 1) → num b (d + k) = num b d * 2 ^ k + (2 ^ k - 1)
  | 0, _ => by simp
  | k + 1, h => by
    have h2 : 0 < 2 ^ k := Nat.pow_pos (by decide)
    rw [← Nat.add_assoc, num_succ, num_ones b d k (fun j h1 h2 => h j h1 (by omega)), h (d + k) (by omega) (by omega), Nat.pow_succ, ← Nat.mul_assoc]; omega
/-- a prefix's hashes -/
theorem within_iff (h p d : Nat) : (h / 2 ^ (64 - d) = p) ↔ (p * 2 ^ (64 - d) ≤ h ∧ h ≤ p * 2 ^ (64 - d) + (2 ^ (64 - d) - 1)) := by
  have h2 : 0 < 2 ^ (64 - d) := Nat.pow_pos (by decide)
  generalize 2 ^ (64 - d) = m at h2
  constructor
  · rintro rfl
    have := Nat.div_add_mod h m
    have := Nat.mod_lt h h2
    rw [Nat.mul_comm (h / m) m]; omega
  · rintro ⟨h3, h4⟩
    exact Nat.div_eq_of_lt_le h3 (by rw [Nat.add_mul]; omega)
theorem cases17 {d : Nat} (h : d ≤ 16) : d = 0 ∨ d = 1 ∨ d = 2 ∨ d = 3 ∨ d = 4 ∨ d = 5 ∨ d = 6 ∨ d = 7 ∨ d = 8 ∨ d = 9 ∨ d = 10 ∨ d = 11 ∨ d = 12 ∨ d = 13 ∨ d = 14 ∨ d = 15 ∨ d = 16 := by omega
end Go.Proofs.YtgpfhgkphadgkaaDoor.split
