/- Plain facts for SwarBack: the lanes that are less than a number, as masks. -/
import Derived.Test.YthmkmnjhbnfioaaDoorSwarMath2
import Derived.Test.YthmkmnjhbnfioaaDoorSwarMath3
namespace Go.Proofs.YthmkmnjhbnfioaaDoor.swar

/-- the mask of the lanes below k, and how many they are -/
def below8 (n k : Nat) : Nat := pk8 (if ln n 0 < k then 128 else 0) (if ln n 1 < k then 128 else 0) (if ln n 2 < k then 128 else 0) (if ln n 3 < k then 128 else 0) (if ln n 4 < k then 128 else 0) (if ln n 5 < k then 128 else 0) (if ln n 6 < k then 128 else 0) (if ln n 7 < k then 128 else 0)
def count8 (n k : Nat) : Nat := one (ln n 0 < k) + one (ln n 1 < k) + one (ln n 2 < k) + one (ln n 3 < k) + one (ln n 4 < k) + one (ln n 5 < k) + one (ln n 6 < k) + one (ln n 7 < k)
theorem below8_lt (n k : Nat) : below8 n k < 18446744073709551616 := pk8_lt (if_lt _) (if_lt _) (if_lt _) (if_lt _) (if_lt _) (if_lt _) (if_lt _) (if_lt _)
theorem count8_le (n k : Nat) : count8 n k ≤ 8 := by
  have h := fun i => one_le (ln n i < k)
  have h0 := h 0; have h1 := h 1; have h2 := h 2; have h3 := h 3; have h4 := h 4; have h5 := h 5; have h6 := h 6; have h7 := h 7
  unfold count8; omega
theorem below8_zero (n : Nat) : below8 n 0 = 0 := by unfold below8; simp; decide
theorem count8_zero (n : Nat) : count8 n 0 = 0 := by unfold count8 one; simp
theorem below8_all (n : Nat) : below8 n 256 = 9259542123273814144 := by
  have h := fun i => ln_lt n i
  unfold below8; rw [if_pos (h 0), if_pos (h 1), if_pos (h 2), if_pos (h 3), if_pos (h 4), if_pos (h 5), if_pos (h 6), if_pos (h 7)]; decide
theorem count8_all (n : Nat) : count8 n 256 = 8 := by
  have h := fun i => ln_lt n i
  unfold count8 one; rw [if_pos (h 0), if_pos (h 1), if_pos (h 2), if_pos (h 3), if_pos (h 4), if_pos (h 5), if_pos (h 6), if_pos (h 7)]
theorem and_lane (x k : Nat) : (if x = k then 128 else 0) &&& (if x < k then 128 else 0) = 0 := by
  by_cases h : x = k
  · have : ¬ x < k := by omega
    rw [if_neg this]; simp
  · rw [if_neg h]; simp
theorem or_lane (x k : Nat) : (if x < k then 128 else 0) ||| (if x = k then 128 else 0) = (if x < k + 1 then 128 else 0) := by
  by_cases h : x = k
  · have h1 : ¬ x < k := by omega
    have h2 : x < k + 1 := by omega
    rw [if_neg h1, if_pos h, if_pos h2]; simp
  · by_cases h3 : x < k
    · have h2 : x < k + 1 := by omega
      rw [if_pos h3, if_neg h, if_pos h2]; simp
    · have h2 : ¬ x < k + 1 := by omega
      rw [if_neg h3, if_neg h, if_neg h2]; simp
theorem one_lane (x k : Nat) : one (x < k) + one (x = k) = one (x < k + 1) := by
  unfold one
  by_cases h : x = k
  · have h1 : ¬ x < k := by omega
    have h2 : x < k + 1 := by omega
    rw [if_neg h1, if_pos h, if_pos h2]
  · by_cases h3 : x < k
    · have h2 : x < k + 1 := by omega
      rw [if_pos h3, if_neg h, if_pos h2]
    · have h2 : ¬ x < k + 1 := by omega
      rw [if_neg h3, if_neg h, if_neg h2]
theorem and_below (n k : Nat) : eqM n k &&& below8 n k = 0 := by
  unfold eqM below8
  rw [and8 (if_lt _) (if_lt _) (if_lt _) (if_lt _) (if_lt _) (if_lt _) (if_lt _) (if_lt _) (if_lt _) (if_lt _) (if_lt _) (if_lt _) (if_lt _) (if_lt _)]
  simp only [and_lane]; decide
theorem or_below (n k : Nat) : below8 n k ||| eqM n k = below8 n (k + 1) := by
  unfold eqM below8
  rw [or8 (if_lt _) (if_lt _) (if_lt _) (if_lt _) (if_lt _) (if_lt _) (if_lt _) (if_lt _) (if_lt _) (if_lt _) (if_lt _) (if_lt _) (if_lt _) (if_lt _)]
  simp only [or_lane]
/-- Count of Equal's mask -/
theorem cnt_eqM (n k : Nat) : cnt (eqM n k) = one (ln n 0 = k) + one (ln n 1 = k) + one (ln n 2 = k) + one (ln n 3 = k) + one (ln n 4 = k) + one (ln n 5 = k) + one (ln n 6 = k) + one (ln n 7 = k) := by
  obtain ⟨e0, e1, e2, e3, e4, e5, e6, e7⟩ := ln_pk8 (if_lt (ln n 0 = k)) (if_lt (ln n 1 = k)) (if_lt (ln n 2 = k)) (if_lt (ln n 3 = k)) (if_lt (ln n 4 = k)) (if_lt (ln n 5 = k)) (if_lt (ln n 6 = k)) (if_lt (ln n 7 = k))
  have o : ∀ (p : Prop) [Decidable p], one (128 ≤ (if p then 128 else 0)) = one p := fun p _ => by by_cases h : p <;> simp [h, one]
  unfold cnt eqM
  rw [e0, e1, e2, e3, e4, e5, e6, e7]
  simp only [o]
theorem count_step (n k : Nat) : count8 n k + cnt (eqM n k) = count8 n (k + 1) := by
  rw [cnt_eqM]
  have s := fun i => one_lane (ln n i) k
  have s0 := s 0; have s1 := s 1; have s2 := s 2; have s3 := s 3; have s4 := s 4; have s5 := s 5; have s6 := s 6; have s7 := s 7
  unfold count8; omega
/-- as the walk spells them -/
theorem and_below_int (n k : Nat) : bits .and .u64 ((eqM n k : Nat) : Int) ((below8 n k : Nat) : Int) = 0 := by
  rw [u64_and_nat _ _ (eqM_lt n k) (below8_lt n k), and_below]; rfl
theorem or_below_int (n k : Nat) : bits .or .u64 ((below8 n k : Nat) : Int) ((eqM n k : Nat) : Int) = ((below8 n (k + 1) : Nat) : Int) := by
  rw [u64_or_nat _ _ (below8_lt n k) (eqM_lt n k), or_below]
theorem tl_all : tl 9259542123273814144 = [0, 1, 2, 3, 4, 5, 6, 7] := by decide
/-- Fold's arithmetic -/
theorem or_add (x a c i : Nat) (hc : c = 2 ^ i) (hx : x < c) (hb : x + a * c < 18446744073709551616) : bits .or .u64 (x : Int) ((a : Int) * (c : Int)) = ((x + a * c : Nat) : Int) := by
  rw [← Int.natCast_mul, u64_or_nat _ _ (by omega) (by omega)]
  subst hc
  rw [Nat.or_comm, nat_join i (a * 2 ^ i) x (Nat.mul_mod_left _ _) hx, Nat.add_comm]
theorem fold_bits (a0 a1 a2 a3 a4 a5 a6 a7 : Nat) (h0 : a0 < 256) (h1 : a1 < 256) (h2 : a2 < 256) (h3 : a3 < 256) (h4 : a4 < 256) (h5 : a5 < 256) (h6 : a6 < 256) (h7 : a7 < 256) :
    bits .or .u64 (bits .or .u64 (bits .or .u64 (bits .or .u64 (bits .or .u64 (bits .or .u64 (bits .or .u64 (bits .or .u64 0 (a0 : Int)) ((a1 : Int) * 256)) ((a2 : Int) * 65536)) ((a3 : Int) * 16777216)) ((a4 : Int) * 4294967296)) ((a5 : Int) * 1099511627776)) ((a6 : Int) * 281474976710656)) ((a7 : Int) * 72057594037927936) =
      ((pk8 a0 a1 a2 a3 a4 a5 a6 a7 : Nat) : Int) := by
  have r0 : bits .or .u64 0 (a0 : Int) = (a0 : Int) := by
    have := u64_or_nat 0 a0 (by decide) (by omega)
    simpa using this
  have r1 : bits .or .u64 (a0 : Int) ((a1 : Int) * 256) = ((a0 + a1 * 256 : Nat) : Int) := or_add _ _ 256 8 (by decide) (by omega) (by omega)
  have r2 : bits .or .u64 ((a0 + a1 * 256 : Nat) : Int) ((a2 : Int) * 65536) = ((a0 + a1 * 256 + a2 * 65536 : Nat) : Int) := or_add _ _ 65536 16 (by decide) (by omega) (by omega)
  have r3 : bits .or .u64 ((a0 + a1 * 256 + a2 * 65536 : Nat) : Int) ((a3 : Int) * 16777216) = ((a0 + a1 * 256 + a2 * 65536 + a3 * 16777216 : Nat) : Int) := or_add _ _ 16777216 24 (by decide) (by omega) (by omega)
  have r4 : bits .or .u64 ((a0 + a1 * 256 + a2 * 65536 + a3 * 16777216 : Nat) : Int) ((a4 : Int) * 4294967296) = ((a0 + a1 * 256 + a2 * 65536 + a3 * 16777216 + a4 * 4294967296 : Nat) : Int) := or_add _ _ 4294967296 32 (by decide) (by omega) (by omega)
  have r5 : bits .or .u64 ((a0 + a1 * 256 + a2 * 65536 + a3 * 16777216 + a4 * 4294967296 : Nat) : Int) ((a5 : Int) * 1099511627776) = ((a0 + a1 * 256 + a2 * 65536 + a3 * 16777216 + a4 * 4294967296 + a5 * 1099511627776 : Nat) : Int) := or_add _ _ 1099511627776 40 (by decide) (by omega) (by omega)
  have r6 : bits .or .u64 ((a0 + a1 * 256 + a2 * 65536 + a3 * 16777216 + a4 * 4294967296 + a5 * 1099511627776 : Nat) : Int) ((a6 : Int) * 281474976710656) = ((a0 + a1 * 256 + a2 * 65536 + a3 * 16777216 + a4 * 4294967296 + a5 * 1099511627776 + a6 * 281474976710656 : Nat) : Int) := or_add _ _ 281474976710656 48 (by decide) (by omega) (by omega)
  have r7 : bits .or .u64 ((a0 + a1 * 256 + a2 * 65536 + a3 * 16777216 + a4 * 4294967296 + a5 * 1099511627776 + a6 * 281474976710656 : Nat) : Int) ((a7 : Int) * 72057594037927936) = ((a0 + a1 * 256 + a2 * 65536 + a3 * 16777216 + a4 * 4294967296 + a5 * 1099511627776 + a6 * 281474976710656 + a7 * 72057594037927936 : Nat) : Int) := or_add _ _ 72057594037927936 56 (by decide) (by omega) (by omega)
  rw [r0, r1, r2, r3, r4, r5, r6, r7]
  congr 1
  clear r0 r1 r2 r3 r4 r5 r6 r7
  unfold pk8; omega
end Go.Proofs.YthmkmnjhbnfioaaDoor.swar
