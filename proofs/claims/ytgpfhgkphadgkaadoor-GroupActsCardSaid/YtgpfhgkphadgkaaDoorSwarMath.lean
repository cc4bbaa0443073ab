/- Plain facts on words of eight bytes: a word is its eight lanes; and, or, xor, plus without a carry go lane by lane. No program is imported. -/
import Derived.Laws.BitsAllLaws
import Derived.RowKit
import Derived.IntWalk
namespace Go.Proofs.YtgpfhgkphadgkaaDoor.swar

/-- a word's lane -/
def ln (n k : Nat) : Nat := n / 256 ^ k % 256
theorem ln_lt (n k : Nat) : ln n k < 256 := Nat.mod_lt _ (by decide)
/-- the word of eight lanes -/
def pk8 (a0 a1 a2 a3 a4 a5 a6 a7 : Nat) : Nat := 256 * (256 * (256 * (256 * (256 * (256 * (256 * a7 + a6) + a5) + a4) + a3) + a2) + a1) + a0
theorem pk8_lt {a0 a1 a2 a3 a4 a5 a6 a7 : Nat} (h0 : a0 < 256) (h1 : a1 < 256) (h2 : a2 < 256) (h3 : a3 < 256) (h4 : a4 < 256) (h5 : a5 < 256) (h6 : a6 < 256) (h7 : a7 < 256) :
    pk8 a0 a1 a2 a3 a4 a5 a6 a7 < 18446744073709551616 := by unfold pk8; omega
/-- a word is that of its lanes -/
theorem pk8_ln (n : Nat) (hn : n < 18446744073709551616) : pk8 (ln n 0) (ln n 1) (ln n 2) (ln n 3) (ln n 4) (ln n 5) (ln n 6) (ln n 7) = n := by
  unfold pk8 ln; simp only [Nat.reducePow]; omega
theorem ln_pk8 {a0 a1 a2 a3 a4 a5 a6 a7 : Nat} (h0 : a0 < 256) (h1 : a1 < 256) (h2 : a2 < 256) (h3 : a3 < 256) (h4 : a4 < 256) (h5 : a5 < 256) (h6 : a6 < 256) (h7 : a7 < 256) :
    ln (pk8 a0 a1 a2 a3 a4 a5 a6 a7) 0 = a0 ∧ ln (pk8 a0 a1 a2 a3 a4 a5 a6 a7) 1 = a1 ∧ ln (pk8 a0 a1 a2 a3 a4 a5 a6 a7) 2 = a2 ∧ ln (pk8 a0 a1 a2 a3 a4 a5 a6 a7) 3 = a3 ∧
    ln (pk8 a0 a1 a2 a3 a4 a5 a6 a7) 4 = a4 ∧ ln (pk8 a0 a1 a2 a3 a4 a5 a6 a7) 5 = a5 ∧ ln (pk8 a0 a1 a2 a3 a4 a5 a6 a7) 6 = a6 ∧ ln (pk8 a0 a1 a2 a3 a4 a5 a6 a7) 7 = a7 := by
  unfold pk8 ln; simp only [Nat.reducePow]; omega

theorem and_cons (a b c d : Nat) (ha : a < 256) (hb : b < 256) : (256 * c + a) &&& (256 * d + b) = 256 * (c &&& d) + (a &&& b) := by
  apply Nat.eq_of_testBit_eq; intro i
  have hab : a &&& b < 2 ^ 8 := Nat.lt_of_le_of_lt Nat.and_le_left ha
  rw [show (256 : Nat) = 2 ^ 8 from rfl, Nat.testBit_and, Nat.testBit_two_pow_mul_add c ha, Nat.testBit_two_pow_mul_add d hb, Nat.testBit_two_pow_mul_add _ hab]
  split <;> simp
theorem or_cons (a b c d : Nat) (ha : a < 256) (hb : b < 256) : (256 * c + a) ||| (256 * d + b) = 256 * (c ||| d) + (a ||| b) := by
  apply Nat.eq_of_testBit_eq; intro i
  have hab : a ||| b < 2 ^ 8 := Nat.or_lt_two_pow ha hb
  rw [show (256 : Nat) = 2 ^ 8 from rfl, Nat.testBit_or, Nat.testBit_two_pow_mul_add c ha, Nat.testBit_two_pow_mul_add d hb, Nat.testBit_two_pow_mul_add _ hab]
  split <;> simp
theorem xor_cons (a b c d : Nat) (ha : a < 256) (hb : b < 256) : (256 * c + a) ^^^ (256 * d + b) = 256 * (c ^^^ d) + (a ^^^ b) := by
  apply Nat.eq_of_testBit_eq; intro i
  have hab : a ^^^ b < 2 ^ 8 := Nat.xor_lt_two_pow ha hb
  rw [show (256 : Nat) = 2 ^ 8 from rfl, Nat.testBit_xor, Nat.testBit_two_pow_mul_add c ha, Nat.testBit_two_pow_mul_add d hb, Nat.testBit_two_pow_mul_add _ hab]
  split <;> simp

section lanes
variable {a0 a1 a2 a3 a4 a5 a6 a7 b0 b1 b2 b3 b4 b5 b6 b7 : Nat} (h0 : a0 < 256) (h1 : a1 < 256) (h2 : a2 < 256) (h3 : a3 < 256) (h4 : a4 < 256) (h5 : a5 < 256) (h6 : a6 < 256)
  (g0 : b0 < 256) (g1 : b1 < 256) (g2 : b2 < 256) (g3 : b3 < 256) (g4 : b4 < 256) (g5 : b5 < 256) (g6 : b6 < 256)
include h0 h1 h2 h3 h4 h5 h6 g0 g1 g2 g3 g4 g5 g6
theorem and8 : pk8 a0 a1 a2 a3 a4 a5 a6 a7 &&& pk8 b0 b1 b2 b3 b4 b5 b6 b7 = pk8 (a0 &&& b0) (a1 &&& b1) (a2 &&& b2) (a3 &&& b3) (a4 &&& b4) (a5 &&& b5) (a6 &&& b6) (a7 &&& b7) := by
  unfold pk8; rw [and_cons _ _ _ _ h0 g0, and_cons _ _ _ _ h1 g1, and_cons _ _ _ _ h2 g2, and_cons _ _ _ _ h3 g3, and_cons _ _ _ _ h4 g4, and_cons _ _ _ _ h5 g5, and_cons _ _ _ _ h6 g6]
theorem or8 : pk8 a0 a1 a2 a3 a4 a5 a6 a7 ||| pk8 b0 b1 b2 b3 b4 b5 b6 b7 = pk8 (a0 ||| b0) (a1 ||| b1) (a2 ||| b2) (a3 ||| b3) (a4 ||| b4) (a5 ||| b5) (a6 ||| b6) (a7 ||| b7) := by
  unfold pk8; rw [or_cons _ _ _ _ h0 g0, or_cons _ _ _ _ h1 g1, or_cons _ _ _ _ h2 g2, or_cons _ _ _ _ h3 g3, or_cons _ _ _ _ h4 g4, or_cons _ _ _ _ h5 g5, or_cons _ _ _ _ h6 g6]
theorem xor8 : pk8 a0 a1 a2 a3 a4 a5 a6 a7 ^^^ pk8 b0 b1 b2 b3 b4 b5 b6 b7 = pk8 (a0 ^^^ b0) (a1 ^^^ b1) (a2 ^^^ b2) (a3 ^^^ b3) (a4 ^^^ b4) (a5 ^^^ b5) (a6 ^^^ b6) (a7 ^^^ b7) := by
  unfold pk8; rw [xor_cons _ _ _ _ h0 g0, xor_cons _ _ _ _ h1 g1, xor_cons _ _ _ _ h2 g2, xor_cons _ _ _ _ h3 g3, xor_cons _ _ _ _ h4 g4, xor_cons _ _ _ _ h5 g5, xor_cons _ _ _ _ h6 g6]
end lanes
theorem and255 {a : Nat} (h : a < 256) : a &&& 255 = a := by rw [nat_mask8]; exact Nat.mod_eq_of_lt h
theorem or0 (a : Nat) : a ||| 0 = a := Nat.or_zero a
theorem rep8 (b : Nat) : b * 72340172838076673 = pk8 b b b b b b b b := by unfold pk8; omega

/-- a word with b in a lane -/
def withL (n i b : Nat) : Nat :=
  pk8 (if i = 0 then b else ln n 0) (if i = 1 then b else ln n 1) (if i = 2 then b else ln n 2) (if i = 3 then b else ln n 3) (if i = 4 then b else ln n 4) (if i = 5 then b else ln n 5) (if i = 6 then b else ln n 6) (if i = 7 then b else ln n 7)

/-- what Equal makes of a lane -/
theorem eq_lane (x b : Nat) (hx : x < 256) (hb : b < 256) : (255 - ((((x ^^^ b) &&& 127) + 127) ||| (x ^^^ b))) &&& 128 = if x = b then 128 else 0 := by
  have all : ∀ y : Fin 256, (255 - (((y.val &&& 127) + 127) ||| y.val)) &&& 128 = if y.val = 0 then 128 else 0 := by decide +kernel
  have hy : x ^^^ b < 2 ^ 8 := Nat.xor_lt_two_pow hx hb
  have h := all ⟨x ^^^ b, hy⟩
  simp only [] at h
  rw [h]
  have e : x ^^^ b = 0 ↔ x = b := by
    constructor
    · intro h0
      have h1 : x ^^^ b ^^^ b = b := by rw [h0]; simp
      simpa [Nat.xor_assoc] using h1
    · rintro rfl; simp
  simp only [e]
theorem hi_lane (x : Nat) (hx : x < 256) : x &&& 128 = if 128 ≤ x then 128 else 0 := by
  have all : ∀ y : Fin 256, y.val &&& 128 = if 128 ≤ y.val then 128 else 0 := by decide +kernel
  exact all ⟨x, hx⟩

/-- With's arithmetic -/
theorem with_bits (n b M C c0 c1 c2 c3 c4 c5 c6 c7 d0 d1 d2 d3 d4 d5 d6 d7 : Nat) (hn : n < 18446744073709551616) (hM : M < 18446744073709551616) (hc : 18446744073709551615 - M = pk8 c0 c1 c2 c3 c4 c5 c6 c7) (hd : b * C = pk8 d0 d1 d2 d3 d4 d5 d6 d7)
    (hcc : c0 < 256 ∧ c1 < 256 ∧ c2 < 256 ∧ c3 < 256 ∧ c4 < 256 ∧ c5 < 256 ∧ c6 < 256 ∧ c7 < 256) (hdd : d0 < 256 ∧ d1 < 256 ∧ d2 < 256 ∧ d3 < 256 ∧ d4 < 256 ∧ d5 < 256 ∧ d6 < 256 ∧ d7 < 256) :
    bits .or .u64 (bits .andNot .u64 (n : Int) (M : Int)) ((b : Int) * (C : Int)) =
      ((pk8 (ln n 0 &&& c0 ||| d0) (ln n 1 &&& c1 ||| d1) (ln n 2 &&& c2 ||| d2) (ln n 3 &&& c3 ||| d3) (ln n 4 &&& c4 ||| d4) (ln n 5 &&& c5 ||| d5) (ln n 6 &&& c6 ||| d6) (ln n 7 &&& c7 ||| d7) : Nat) : Int) := by
  obtain ⟨p0, p1, p2, p3, p4, p5, p6, p7⟩ := hcc
  obtain ⟨q0, q1, q2, q3, q4, q5, q6, q7⟩ := hdd
  have hx : n &&& (18446744073709551615 - M) < 18446744073709551616 := Nat.lt_of_le_of_lt Nat.and_le_left hn
  have hy : b * C < 18446744073709551616 := by rw [hd]; exact pk8_lt q0 q1 q2 q3 q4 q5 q6 q7
  rw [u64_andNot_nat n M hn hM, ← Int.natCast_mul, u64_or_nat _ _ hx hy, hc, hd]
  congr 1
  have l := ln_lt n
  conv => lhs; rw [← pk8_ln n hn]
  have b' : ∀ k c, ln n k &&& c < 256 := fun k c => Nat.lt_of_le_of_lt Nat.and_le_left (l k)
  rw [and8 (l 0) (l 1) (l 2) (l 3) (l 4) (l 5) (l 6) p0 p1 p2 p3 p4 p5 p6, or8 (b' 0 _) (b' 1 _) (b' 2 _) (b' 3 _) (b' 4 _) (b' 5 _) (b' 6 _) q0 q1 q2 q3 q4 q5 q6]
theorem with0 (n b : Nat) (hn : n < 18446744073709551616) (hb : b < 256) : bits .or .u64 (bits .andNot .u64 (n : Int) 255) (b : Int) = ((withL n 0 b : Nat) : Int) := by
  have h := with_bits n b 255 1 0 255 255 255 255 255 255 255 b 0 0 0 0 0 0 0 hn (by decide) (by decide) (by unfold pk8; omega) (by decide) (by omega)
  simpa [withL, and255 (ln_lt _ _)] using h
theorem with1 (n b : Nat) (hn : n < 18446744073709551616) (hb : b < 256) : bits .or .u64 (bits .andNot .u64 (n : Int) 65280) ((b : Int) * 256) = ((withL n 1 b : Nat) : Int) := by
  have h := with_bits n b 65280 256 255 0 255 255 255 255 255 255 0 b 0 0 0 0 0 0 hn (by decide) (by decide) (by unfold pk8; omega) (by decide) (by omega)
  simpa [withL, and255 (ln_lt _ _)] using h
theorem with2 (n b : Nat) (hn : n < 18446744073709551616) (hb : b < 256) : bits .or .u64 (bits .andNot .u64 (n : Int) 16711680) ((b : Int) * 65536) = ((withL n 2 b : Nat) : Int) := by
  have h := with_bits n b 16711680 65536 255 255 0 255 255 255 255 255 0 0 b 0 0 0 0 0 hn (by decide) (by decide) (by unfold pk8; omega) (by decide) (by omega)
  simpa [withL, and255 (ln_lt _ _)] using h
theorem with3 (n b : Nat) (hn : n < 18446744073709551616) (hb : b < 256) : bits .or .u64 (bits .andNot .u64 (n : Int) 4278190080) ((b : Int) * 16777216) = ((withL n 3 b : Nat) : Int) := by
  have h := with_bits n b 4278190080 16777216 255 255 255 0 255 255 255 255 0 0 0 b 0 0 0 0 hn (by decide) (by decide) (by unfold pk8; omega) (by decide) (by omega)
  simpa [withL, and255 (ln_lt _ _)] using h
theorem with4 (n b : Nat) (hn : n < 18446744073709551616) (hb : b < 256) : bits .or .u64 (bits .andNot .u64 (n : Int) 1095216660480) ((b : Int) * 4294967296) = ((withL n 4 b : Nat) : Int) := by
  have h := with_bits n b 1095216660480 4294967296 255 255 255 255 0 255 255 255 0 0 0 0 b 0 0 0 hn (by decide) (by decide) (by unfold pk8; omega) (by decide) (by omega)
  simpa [withL, and255 (ln_lt _ _)] using h
theorem with5 (n b : Nat) (hn : n < 18446744073709551616) (hb : b < 256) : bits .or .u64 (bits .andNot .u64 (n : Int) 280375465082880) ((b : Int) * 1099511627776) = ((withL n 5 b : Nat) : Int) := by
  have h := with_bits n b 280375465082880 1099511627776 255 255 255 255 255 0 255 255 0 0 0 0 0 b 0 0 hn (by decide) (by decide) (by unfold pk8; omega) (by decide) (by omega)
  simpa [withL, and255 (ln_lt _ _)] using h
theorem with6 (n b : Nat) (hn : n < 18446744073709551616) (hb : b < 256) : bits .or .u64 (bits .andNot .u64 (n : Int) 71776119061217280) ((b : Int) * 281474976710656) = ((withL n 6 b : Nat) : Int) := by
  have h := with_bits n b 71776119061217280 281474976710656 255 255 255 255 255 255 0 255 0 0 0 0 0 0 b 0 hn (by decide) (by decide) (by unfold pk8; omega) (by decide) (by omega)
  simpa [withL, and255 (ln_lt _ _)] using h
theorem with7 (n b : Nat) (hn : n < 18446744073709551616) (hb : b < 256) : bits .or .u64 (bits .andNot .u64 (n : Int) 18374686479671623680) ((b : Int) * 72057594037927936) = ((withL n 7 b : Nat) : Int) := by
  have h := with_bits n b 18374686479671623680 72057594037927936 255 255 255 255 255 255 255 0 0 0 0 0 0 0 0 b hn (by decide) (by decide) (by unfold pk8; omega) (by decide) (by omega)
  simpa [withL, and255 (ln_lt _ _)] using h

/-- what Equal, High, and a count of lanes come to -/
def eqM (n b : Nat) : Nat := pk8 (if ln n 0 = b then 128 else 0) (if ln n 1 = b then 128 else 0) (if ln n 2 = b then 128 else 0) (if ln n 3 = b then 128 else 0) (if ln n 4 = b then 128 else 0) (if ln n 5 = b then 128 else 0) (if ln n 6 = b then 128 else 0) (if ln n 7 = b then 128 else 0)
def hiM (n : Nat) : Nat := pk8 (if 128 ≤ ln n 0 then 128 else 0) (if 128 ≤ ln n 1 then 128 else 0) (if 128 ≤ ln n 2 then 128 else 0) (if 128 ≤ ln n 3 then 128 else 0) (if 128 ≤ ln n 4 then 128 else 0) (if 128 ≤ ln n 5 then 128 else 0) (if 128 ≤ ln n 6 then 128 else 0) (if 128 ≤ ln n 7 then 128 else 0)
theorem if_lt (p : Prop) [Decidable p] : (if p then 128 else 0) < 256 := by split <;> omega
theorem eqM_lt (n b : Nat) : eqM n b < 18446744073709551616 := pk8_lt (if_lt _) (if_lt _) (if_lt _) (if_lt _) (if_lt _) (if_lt _) (if_lt _) (if_lt _)
theorem hiM_lt (n : Nat) : hiM n < 18446744073709551616 := pk8_lt (if_lt _) (if_lt _) (if_lt _) (if_lt _) (if_lt _) (if_lt _) (if_lt _) (if_lt _)
theorem c128 : 9259542123273814144 = pk8 128 128 128 128 128 128 128 128 := by decide
theorem c127 : 9187201950435737471 = pk8 127 127 127 127 127 127 127 127 := by decide
theorem c255 : 18446744073709551615 = pk8 255 255 255 255 255 255 255 255 := by decide
theorem hi_bits (n : Nat) (hn : n < 18446744073709551616) : bits .and .u64 (n : Int) 9259542123273814144 = ((hiM n : Nat) : Int) := by
  have h := u64_and_nat n 9259542123273814144 hn (by decide)
  rw [show (9259542123273814144 : Int) = ((9259542123273814144 : Nat) : Int) from rfl, h, c128]
  congr 1
  have l := ln_lt n
  conv => lhs; rw [← pk8_ln n hn]
  rw [and8 (l 0) (l 1) (l 2) (l 3) (l 4) (l 5) (l 6) (by decide) (by decide) (by decide) (by decide) (by decide) (by decide) (by decide)]
  unfold hiM
  rw [hi_lane _ (l 0), hi_lane _ (l 1), hi_lane _ (l 2), hi_lane _ (l 3), hi_lane _ (l 4), hi_lane _ (l 5), hi_lane _ (l 6), hi_lane _ (l 7)]
/-- plus goes lane by lane -/
theorem add8 {a0 a1 a2 a3 a4 a5 a6 a7 b0 b1 b2 b3 b4 b5 b6 b7 : Nat} : pk8 a0 a1 a2 a3 a4 a5 a6 a7 + pk8 b0 b1 b2 b3 b4 b5 b6 b7 = pk8 (a0 + b0) (a1 + b1) (a2 + b2) (a3 + b3) (a4 + b4) (a5 + b5) (a6 + b6) (a7 + b7) := by unfold pk8; omega
/-- all bits the other way -/
theorem not8 {a0 a1 a2 a3 a4 a5 a6 a7 : Nat} (h0 : a0 < 256) (h1 : a1 < 256) (h2 : a2 < 256) (h3 : a3 < 256) (h4 : a4 < 256) (h5 : a5 < 256) (h6 : a6 < 256) (h7 : a7 < 256) :
    18446744073709551615 - pk8 a0 a1 a2 a3 a4 a5 a6 a7 = pk8 (255 - a0) (255 - a1) (255 - a2) (255 - a3) (255 - a4) (255 - a5) (255 - a6) (255 - a7) := by unfold pk8; omega
theorem xor_max (n : Nat) (hn : n < 18446744073709551616) : 18446744073709551615 ^^^ n = 18446744073709551615 - n := by
  apply Nat.eq_of_testBit_eq; intro i
  rw [show 18446744073709551615 - n = 2 ^ 64 - (n + 1) from by omega, Nat.testBit_two_pow_sub_succ (by omega), Nat.testBit_xor, show 18446744073709551615 = 2 ^ 64 - 1 from rfl, Nat.testBit_two_pow_sub_one]
  by_cases h : i < 64
  · simp [h]
  · have : n.testBit i = false := Nat.testBit_lt_two_pow (Nat.lt_of_lt_of_le hn (by rw [show 18446744073709551616 = 2 ^ 64 from rfl]; exact Nat.pow_le_pow_right (by decide) (by omega)))
    simp [h, this]
theorem eq_lane_lt (x b : Nat) (hx : x < 256) (hb : b < 256) : ((x ^^^ b) &&& 127) + 127 < 256 ∧ x ^^^ b < 256 ∧ (((x ^^^ b) &&& 127) + 127 ||| (x ^^^ b)) < 256 := by
  have h1 : (x ^^^ b) &&& 127 ≤ 127 := Nat.and_le_right
  have h2 : x ^^^ b < 2 ^ 8 := Nat.xor_lt_two_pow hx hb
  exact ⟨by omega, h2, Nat.or_lt_two_pow (n := 8) (by omega) h2⟩
/-- Equal's arithmetic on naturals -/
theorem eq_nat (n b : Nat) (hn : n < 18446744073709551616) (hb : b < 256) :
    (18446744073709551615 - (((n ^^^ pk8 b b b b b b b b) &&& 9187201950435737471) + 9187201950435737471 ||| (n ^^^ pk8 b b b b b b b b))) &&& 9259542123273814144 = eqM n b := by
  have l := ln_lt n
  have k := fun i => eq_lane_lt (ln n i) b (l i) hb
  have e : n ^^^ pk8 b b b b b b b b = pk8 (ln n 0 ^^^ b) (ln n 1 ^^^ b) (ln n 2 ^^^ b) (ln n 3 ^^^ b) (ln n 4 ^^^ b) (ln n 5 ^^^ b) (ln n 6 ^^^ b) (ln n 7 ^^^ b) := by
    conv => lhs; rw [← pk8_ln n hn]
    rw [xor8 (l 0) (l 1) (l 2) (l 3) (l 4) (l 5) (l 6) hb hb hb hb hb hb hb]
  have d : ∀ i, 255 - (((ln n i ^^^ b) &&& 127) + 127 ||| (ln n i ^^^ b)) < 256 := fun i => by omega
  rw [e, c127, and8 (k 0).2.1 (k 1).2.1 (k 2).2.1 (k 3).2.1 (k 4).2.1 (k 5).2.1 (k 6).2.1 (by decide) (by decide) (by decide) (by decide) (by decide) (by decide) (by decide), add8,
    or8 (k 0).1 (k 1).1 (k 2).1 (k 3).1 (k 4).1 (k 5).1 (k 6).1 (k 0).2.1 (k 1).2.1 (k 2).2.1 (k 3).2.1 (k 4).2.1 (k 5).2.1 (k 6).2.1,
    not8 (k 0).2.2 (k 1).2.2 (k 2).2.2 (k 3).2.2 (k 4).2.2 (k 5).2.2 (k 6).2.2 (k 7).2.2, c128,
    and8 (d 0) (d 1) (d 2) (d 3) (d 4) (d 5) (d 6) (by decide) (by decide) (by decide) (by decide) (by decide) (by decide) (by decide)]
  unfold eqM
  rw [eq_lane _ _ (l 0) hb, eq_lane _ _ (l 1) hb, eq_lane _ _ (l 2) hb, eq_lane _ _ (l 3) hb, eq_lane _ _ (l 4) hb, eq_lane _ _ (l 5) hb, eq_lane _ _ (l 6) hb, eq_lane _ _ (l 7) hb]
/-- Equal's arithmetic as the walk spells it -/
theorem eq_bits (n b : Nat) (hn : n < 18446744073709551616) (hb : b < 256) :
    bits .and .u64 (bits .xor .u64 IntKind.u64.max (bits .or .u64 (IntKind.u64.wrap (bits .and .u64 (bits .xor .u64 (n : Int) ((pk8 b b b b b b b b : Nat) : Int)) 9187201950435737471 + 9187201950435737471)) (bits .xor .u64 (n : Int) ((pk8 b b b b b b b b : Nat) : Int)))) 9259542123273814144 = ((eqM n b : Nat) : Int) := by
  have hr : pk8 b b b b b b b b < 18446744073709551616 := pk8_lt hb hb hb hb hb hb hb hb
  have hx : n ^^^ pk8 b b b b b b b b < 18446744073709551616 := Nat.xor_lt_two_pow (n := 64) hn hr
  have ha : (n ^^^ pk8 b b b b b b b b) &&& 9187201950435737471 ≤ 9187201950435737471 := Nat.and_le_right
  have hs : ((((n ^^^ pk8 b b b b b b b b) &&& 9187201950435737471) + 9187201950435737471 : Nat) : Int) % 18446744073709551616 = ((((n ^^^ pk8 b b b b b b b b) &&& 9187201950435737471) + 9187201950435737471 : Nat) : Int) := by omega
  have ho : ((n ^^^ pk8 b b b b b b b b) &&& 9187201950435737471) + 9187201950435737471 ||| (n ^^^ pk8 b b b b b b b b) < 18446744073709551616 := Nat.or_lt_two_pow (n := 64) (by omega) hx
  rw [u64_xor_nat n _ hn hr, show (9187201950435737471 : Int) = ((9187201950435737471 : Nat) : Int) from rfl, u64_and_nat _ _ hx (by decide), ← Int.natCast_add,
    IntKind.wrap_u64, hs, u64_or_nat _ _ (by omega) hx, show IntKind.u64.max = ((18446744073709551615 : Nat) : Int) from rfl, u64_xor_nat _ _ (by decide) ho, xor_max _ ho,
    show (9259542123273814144 : Int) = ((9259542123273814144 : Nat) : Int) from rfl, u64_and_nat _ _ (by omega) (by decide), eq_nat n b hn hb]

/-- one for a lane that is told -/
def one (p : Prop) [Decidable p] : Nat := if p then 1 else 0
theorem one_le (p : Prop) [Decidable p] : one p ≤ 1 := by unfold one; split <;> omega
theorem one128 (p : Prop) [Decidable p] : (if p then 128 else 0) = 128 * one p := by unfold one; split <;> rfl
theorem hiM_one (n : Nat) : hiM n = 128 * pk8 (one (128 ≤ ln n 0)) (one (128 ≤ ln n 1)) (one (128 ≤ ln n 2)) (one (128 ≤ ln n 3)) (one (128 ≤ ln n 4)) (one (128 ≤ ln n 5)) (one (128 ≤ ln n 6)) (one (128 ≤ ln n 7)) := by
  unfold hiM; simp only [one128]; unfold pk8; omega
/-- how many lanes are told -/
def cnt (n : Nat) : Nat := one (128 ≤ ln n 0) + one (128 ≤ ln n 1) + one (128 ≤ ln n 2) + one (128 ≤ ln n 3) + one (128 ≤ ln n 4) + one (128 ≤ ln n 5) + one (128 ≤ ln n 6) + one (128 ≤ ln n 7)
theorem cnt_le (n : Nat) : cnt n ≤ 8 := by
  have h := fun k => one_le (128 ≤ ln n k)
  have h0 := h 0; have h1 := h 1; have h2 := h 2; have h3 := h 3; have h4 := h 4; have h5 := h 5; have h6 := h 6; have h7 := h 7
  unfold cnt; omega
section ones
variable {b0 b1 b2 b3 b4 b5 b6 b7 : Nat} (h0 : b0 ≤ 1) (h1 : b1 ≤ 1) (h2 : b2 ≤ 1) (h3 : b3 ≤ 1) (h4 : b4 ≤ 1) (h5 : b5 ≤ 1) (h6 : b6 ≤ 1) (h7 : b7 ≤ 1)
include h0 h1 h2 h3 h4 h5 h6 h7
theorem pk_and (c d m : Nat) (hm : m < 256) (hc : c < 256) (hd : ∀ b, b ≤ 1 → c * b &&& m = d * b) :
    c * pk8 b0 b1 b2 b3 b4 b5 b6 b7 &&& pk8 m m m m m m m m = d * pk8 b0 b1 b2 b3 b4 b5 b6 b7 := by
  have e : ∀ c, c * pk8 b0 b1 b2 b3 b4 b5 b6 b7 = pk8 (c * b0) (c * b1) (c * b2) (c * b3) (c * b4) (c * b5) (c * b6) (c * b7) := fun c => by unfold pk8; grind
  have l : ∀ b, b ≤ 1 → c * b < 256 := fun b hb => Nat.lt_of_le_of_lt (Nat.mul_le_mul_left c hb) (by omega)
  rw [e c, and8 (l _ h0) (l _ h1) (l _ h2) (l _ h3) (l _ h4) (l _ h5) (l _ h6) hm hm hm hm hm hm hm, hd _ h0, hd _ h1, hd _ h2, hd _ h3, hd _ h4, hd _ h5, hd _ h6, hd _ h7, e d]
theorem ones_sum : let x1 := pk8 b0 b1 b2 b3 b4 b5 b6 b7 + pk8 b0 b1 b2 b3 b4 b5 b6 b7 / 256
    let x2 := x1 + x1 / 65536
    (x2 + x2 / 4294967296) % 128 = b0 + b1 + b2 + b3 + b4 + b5 + b6 + b7 := by
  intro x1 x2
  have e1 : x1 = pk8 (b0 + b1) (b1 + b2) (b2 + b3) (b3 + b4) (b4 + b5) (b5 + b6) (b6 + b7) b7 := by simp only [x1]; unfold pk8; omega
  have e2 : x2 = pk8 (b0 + b1 + b2 + b3) (b1 + b2 + b3 + b4) (b2 + b3 + b4 + b5) (b3 + b4 + b5 + b6) (b4 + b5 + b6 + b7) (b5 + b6 + b7) (b6 + b7) b7 := by simp only [x2]; rw [e1]; unfold pk8; omega
  have e3 : x2 / 4294967296 = pk8 (b4 + b5 + b6 + b7) (b5 + b6 + b7) (b6 + b7) b7 0 0 0 0 := by rw [e2]; unfold pk8; omega
  rw [e3, e2]; clear e3 e2 e1 x2 x1; unfold pk8; omega
theorem ones_le : pk8 b0 b1 b2 b3 b4 b5 b6 b7 ≤ 72340172838076673 := by unfold pk8; omega
end ones

theorem i64_and127 (z : Int) (h0 : 0 ≤ z) (h1 : z < 4611686018427387904) : bits .and .i64 z 127 = z % 128 := by
  obtain ⟨n, rfl⟩ := Int.eq_ofNat_of_zero_le h0
  show IntKind.i64.wrap ((BitVec.ofInt 64 (n : Int) &&& BitVec.ofInt 64 127).toNat : Int) = _
  rw [BitVec.toNat_and, ofInt_u64 n (by omega), show (BitVec.ofInt 64 127).toNat = 127 from by decide, nat_mask7, IntKind.wrap_i64]; omega
/-- OnesCount64's arithmetic, step by step, as the walk spells it -/
theorem ones_bits (y s : Nat) (hy : y ≤ 72340172838076673) (r1 : 64 * y &&& pk8 85 85 85 85 85 85 85 85 = 64 * y) (r2 : 128 * y &&& pk8 85 85 85 85 85 85 85 85 = 0 * y)
    (r4 : 16 * y &&& pk8 51 51 51 51 51 51 51 51 = 16 * y) (r5 : 64 * y &&& pk8 51 51 51 51 51 51 51 51 = 0 * y) (r8 : 17 * y &&& pk8 15 15 15 15 15 15 15 15 = 1 * y)
    (rs : let x1 := y + y / 256; let x2 := x1 + x1 / 65536; (x2 + x2 / 4294967296) % 128 = s) :
    bits .and .u64 (128 * (y : Int) / 2) 6148914691236517205 = 64 * (y : Int) ∧ bits .and .u64 (128 * (y : Int)) 6148914691236517205 = 0 ∧ IntKind.u64.wrap (64 * (y : Int) + 0) = 64 * (y : Int) ∧
    bits .and .u64 (64 * (y : Int) / 4) 3689348814741910323 = 16 * (y : Int) ∧ bits .and .u64 (64 * (y : Int)) 3689348814741910323 = 0 ∧ IntKind.u64.wrap (16 * (y : Int) + 0) = 16 * (y : Int) ∧
    IntKind.u64.wrap (16 * (y : Int) / 16 + 16 * (y : Int)) = 17 * (y : Int) ∧ bits .and .u64 (17 * (y : Int)) 1085102592571150095 = (y : Int) ∧
    IntKind.u64.wrap ((y : Int) + (y : Int) / 256) = (y : Int) + (y : Int) / 256 ∧
    IntKind.u64.wrap ((y : Int) + (y : Int) / 256 + ((y : Int) + (y : Int) / 256) / 65536) = (y : Int) + (y : Int) / 256 + ((y : Int) + (y : Int) / 256) / 65536 ∧
    IntKind.u64.wrap ((y : Int) + (y : Int) / 256 + ((y : Int) + (y : Int) / 256) / 65536 + ((y : Int) + (y : Int) / 256 + ((y : Int) + (y : Int) / 256) / 65536) / 4294967296) =
      (y : Int) + (y : Int) / 256 + ((y : Int) + (y : Int) / 256) / 65536 + ((y : Int) + (y : Int) / 256 + ((y : Int) + (y : Int) / 256) / 65536) / 4294967296 ∧
    bits .and .i64 (RowKit.wrap64 ((y : Int) + (y : Int) / 256 + ((y : Int) + (y : Int) / 256) / 65536 + ((y : Int) + (y : Int) / 256 + ((y : Int) + (y : Int) / 256) / 65536) / 4294967296)) 127 = (s : Int) := by
  have c85 : pk8 85 85 85 85 85 85 85 85 = 6148914691236517205 := by decide
  have c51 : pk8 51 51 51 51 51 51 51 51 = 3689348814741910323 := by decide
  have c15 : pk8 15 15 15 15 15 15 15 15 = 1085102592571150095 := by decide
  rw [c85] at r1 r2; rw [c51] at r4 r5; rw [c15] at r8
  have d1 : 128 * (y : Int) / 2 = ((64 * y : Nat) : Int) := by omega
  have d2 : 128 * (y : Int) = ((128 * y : Nat) : Int) := by omega
  have d4 : 64 * (y : Int) / 4 = ((16 * y : Nat) : Int) := by omega
  have d5 : 64 * (y : Int) = ((64 * y : Nat) : Int) := by omega
  have d8 : 17 * (y : Int) = ((17 * y : Nat) : Int) := by omega
  refine ⟨?_, ?_, ?_, ?_, ?_, ?_, ?_, ?_, ?_, ?_, ?_, ?_⟩
  · rw [d1, show (6148914691236517205 : Int) = ((6148914691236517205 : Nat) : Int) from rfl, u64_and_nat _ _ (by omega) (by decide), r1]; omega
  · rw [d2, show (6148914691236517205 : Int) = ((6148914691236517205 : Nat) : Int) from rfl, u64_and_nat _ _ (by omega) (by decide), r2]; omega
  · rw [IntKind.wrap_u64]; omega
  · rw [d4, show (3689348814741910323 : Int) = ((3689348814741910323 : Nat) : Int) from rfl, u64_and_nat _ _ (by omega) (by decide), r4]; omega
  · rw [d5, show (3689348814741910323 : Int) = ((3689348814741910323 : Nat) : Int) from rfl, u64_and_nat _ _ (by omega) (by decide), r5]; omega
  · rw [IntKind.wrap_u64]; omega
  · rw [IntKind.wrap_u64]; omega
  · rw [d8, show (1085102592571150095 : Int) = ((1085102592571150095 : Nat) : Int) from rfl, u64_and_nat _ _ (by omega) (by decide), r8]; omega
  · rw [IntKind.wrap_u64]; omega
  · rw [IntKind.wrap_u64]; omega
  · rw [IntKind.wrap_u64]; omega
  · rw [IntWalk.wrap64_in _ ⟨by omega, by omega⟩, i64_and127 _ (by omega) (by omega), ← rs]; omega

/-- a number's lowest bit -/
theorem odd_and (p t : Nat) (ht : t < 2 ^ p) : (2 * t + 1) &&& (2 * (2 ^ p - (t + 1)) + 1) = 1 := by
  apply Nat.eq_of_testBit_eq; intro i
  cases i with
  | zero => rw [Nat.testBit_and]; simp [Nat.testBit_zero]
  | succ i =>
    rw [Nat.testBit_and, Nat.testBit_succ, Nat.testBit_succ, Nat.testBit_succ, show (2 * t + 1) / 2 = t from by omega, show (2 * (2 ^ p - (t + 1)) + 1) / 2 = 2 ^ p - (t + 1) from by omega, Nat.testBit_two_pow_sub_succ ht]
    simp
    intro h _; exact h
theorem mul_and (j a b : Nat) : (2 ^ j * a) &&& (2 ^ j * b) = 2 ^ j * (a &&& b) := by
  apply Nat.eq_of_testBit_eq; intro i
  rw [Nat.testBit_and, Nat.testBit_two_pow_mul, Nat.testBit_two_pow_mul, Nat.testBit_two_pow_mul, Nat.testBit_and]
  cases decide (i ≥ j) <;> simp
theorem low_bit (j t : Nat) (hj : j < 64) (h : 2 ^ j * (2 * t + 1) < 18446744073709551616) : (2 ^ j * (2 * t + 1)) &&& (18446744073709551616 - 2 ^ j * (2 * t + 1)) = 2 ^ j := by
  have e : (18446744073709551616 : Nat) = 2 ^ j * (2 * 2 ^ (63 - j)) := by
    rw [← Nat.pow_succ', ← Nat.pow_add, show j + (63 - j + 1) = 64 from by omega]
  have hp : 0 < 2 ^ j := Nat.two_pow_pos j
  have ht : t < 2 ^ (63 - j) := by
    rw [e] at h
    have := Nat.lt_of_mul_lt_mul_left h
    omega
  rw [e, ← Nat.mul_sub, mul_and, show 2 * 2 ^ (63 - j) - (2 * t + 1) = 2 * (2 ^ (63 - j) - (t + 1)) + 1 from by omega, odd_and _ _ ht, Nat.mul_one]
theorem low_int (m j t : Nat) (hj : j < 64) (hm : m = 2 ^ j * (2 * t + 1)) (h : m < 18446744073709551616) (h0 : 0 < m) : bits .and .u64 (m : Int) (IntKind.u64.wrap (-(m : Int))) = ((2 ^ j : Nat) : Int) := by
  have e : IntKind.u64.wrap (-(m : Int)) = ((18446744073709551616 - m : Nat) : Int) := by rw [IntKind.wrap_u64]; omega
  rw [e, u64_and_nat _ _ h (by omega)]
  subst hm
  rw [low_bit j t hj h]
/-- the least lane that is told -/
def firstI (n : Nat) : Int := if 128 ≤ ln n 0 then 0 else if 128 ≤ ln n 1 then 1 else if 128 ≤ ln n 2 then 2 else if 128 ≤ ln n 3 then 3 else if 128 ≤ ln n 4 then 4 else if 128 ≤ ln n 5 then 5 else if 128 ≤ ln n 6 then 6 else if 128 ≤ ln n 7 then 7 else -1
theorem hiM_zero (n : Nat) : hiM n = 0 ↔ firstI n = -1 := by
  rw [hiM_one]; unfold pk8 one firstI
  constructor
  · intro h
    repeat' split at h
    all_goals (first | omega | simp_all)
  · intro h
    repeat' split at h
    all_goals (first | omega | (rename_i h0 h1 h2 h3 h4 h5 h6 h7; simp only [if_neg h0, if_neg h1, if_neg h2, if_neg h3, if_neg h4, if_neg h5, if_neg h6, if_neg h7]))
theorem low0 (n : Nat)  (h0 : 128 ≤ ln n 0) : 0 < hiM n ∧ IntKind.u64.wrap (bits .and .u64 ((hiM n : Nat) : Int) (IntKind.u64.wrap (-((hiM n : Nat) : Int))) * 285870213051353865) / 288230376151711744 = 62 := by
  have e : hiM n = 2 ^ 7 * (2 * (128 * (256 ^ 0 * one (128 ≤ ln n 1) + 256 ^ 1 * one (128 ≤ ln n 2) + 256 ^ 2 * one (128 ≤ ln n 3) + 256 ^ 3 * one (128 ≤ ln n 4) + 256 ^ 4 * one (128 ≤ ln n 5) + 256 ^ 5 * one (128 ≤ ln n 6) + 256 ^ 6 * one (128 ≤ ln n 7))) + 1) := by
    rw [hiM_one]; unfold pk8; simp only [one, if_pos h0, Nat.reducePow]; omega
  have h0' : 0 < hiM n := by rw [e]; omega
  rw [low_int _ 7 _ (by decide) e (hiM_lt n) h0']
  exact ⟨h0', by decide⟩
theorem low1 (n : Nat) (h0 : ¬ 128 ≤ ln n 0) (h1 : 128 ≤ ln n 1) : 0 < hiM n ∧ IntKind.u64.wrap (bits .and .u64 ((hiM n : Nat) : Int) (IntKind.u64.wrap (-((hiM n : Nat) : Int))) * 285870213051353865) / 288230376151711744 = 51 := by
  have e : hiM n = 2 ^ 15 * (2 * (128 * (256 ^ 0 * one (128 ≤ ln n 2) + 256 ^ 1 * one (128 ≤ ln n 3) + 256 ^ 2 * one (128 ≤ ln n 4) + 256 ^ 3 * one (128 ≤ ln n 5) + 256 ^ 4 * one (128 ≤ ln n 6) + 256 ^ 5 * one (128 ≤ ln n 7))) + 1) := by
    rw [hiM_one]; unfold pk8; rw [show one (128 ≤ ln n 0) = 0 from if_neg h0]; simp only [one, if_pos h1, Nat.reducePow]; omega
  have h0' : 0 < hiM n := by rw [e]; omega
  rw [low_int _ 15 _ (by decide) e (hiM_lt n) h0']
  exact ⟨h0', by decide⟩
theorem low2 (n : Nat) (h0 : ¬ 128 ≤ ln n 0) (h1 : ¬ 128 ≤ ln n 1) (h2 : 128 ≤ ln n 2) : 0 < hiM n ∧ IntKind.u64.wrap (bits .and .u64 ((hiM n : Nat) : Int) (IntKind.u64.wrap (-((hiM n : Nat) : Int))) * 285870213051353865) / 288230376151711744 = 46 := by
  have e : hiM n = 2 ^ 23 * (2 * (128 * (256 ^ 0 * one (128 ≤ ln n 3) + 256 ^ 1 * one (128 ≤ ln n 4) + 256 ^ 2 * one (128 ≤ ln n 5) + 256 ^ 3 * one (128 ≤ ln n 6) + 256 ^ 4 * one (128 ≤ ln n 7))) + 1) := by
    rw [hiM_one]; unfold pk8; rw [show one (128 ≤ ln n 0) = 0 from if_neg h0]; rw [show one (128 ≤ ln n 1) = 0 from if_neg h1]; simp only [one, if_pos h2, Nat.reducePow]; omega
  have h0' : 0 < hiM n := by rw [e]; omega
  rw [low_int _ 23 _ (by decide) e (hiM_lt n) h0']
  exact ⟨h0', by decide⟩
theorem low3 (n : Nat) (h0 : ¬ 128 ≤ ln n 0) (h1 : ¬ 128 ≤ ln n 1) (h2 : ¬ 128 ≤ ln n 2) (h3 : 128 ≤ ln n 3) : 0 < hiM n ∧ IntKind.u64.wrap (bits .and .u64 ((hiM n : Nat) : Int) (IntKind.u64.wrap (-((hiM n : Nat) : Int))) * 285870213051353865) / 288230376151711744 = 54 := by
  have e : hiM n = 2 ^ 31 * (2 * (128 * (256 ^ 0 * one (128 ≤ ln n 4) + 256 ^ 1 * one (128 ≤ ln n 5) + 256 ^ 2 * one (128 ≤ ln n 6) + 256 ^ 3 * one (128 ≤ ln n 7))) + 1) := by
    rw [hiM_one]; unfold pk8; rw [show one (128 ≤ ln n 0) = 0 from if_neg h0]; rw [show one (128 ≤ ln n 1) = 0 from if_neg h1]; rw [show one (128 ≤ ln n 2) = 0 from if_neg h2]; simp only [one, if_pos h3, Nat.reducePow]; omega
  have h0' : 0 < hiM n := by rw [e]; omega
  rw [low_int _ 31 _ (by decide) e (hiM_lt n) h0']
  exact ⟨h0', by decide⟩
theorem low4 (n : Nat) (h0 : ¬ 128 ≤ ln n 0) (h1 : ¬ 128 ≤ ln n 1) (h2 : ¬ 128 ≤ ln n 2) (h3 : ¬ 128 ≤ ln n 3) (h4 : 128 ≤ ln n 4) : 0 < hiM n ∧ IntKind.u64.wrap (bits .and .u64 ((hiM n : Nat) : Int) (IntKind.u64.wrap (-((hiM n : Nat) : Int))) * 285870213051353865) / 288230376151711744 = 25 := by
  have e : hiM n = 2 ^ 39 * (2 * (128 * (256 ^ 0 * one (128 ≤ ln n 5) + 256 ^ 1 * one (128 ≤ ln n 6) + 256 ^ 2 * one (128 ≤ ln n 7))) + 1) := by
    rw [hiM_one]; unfold pk8; rw [show one (128 ≤ ln n 0) = 0 from if_neg h0]; rw [show one (128 ≤ ln n 1) = 0 from if_neg h1]; rw [show one (128 ≤ ln n 2) = 0 from if_neg h2]; rw [show one (128 ≤ ln n 3) = 0 from if_neg h3]; simp only [one, if_pos h4, Nat.reducePow]; omega
  have h0' : 0 < hiM n := by rw [e]; omega
  rw [low_int _ 39 _ (by decide) e (hiM_lt n) h0']
  exact ⟨h0', by decide⟩
theorem low5 (n : Nat) (h0 : ¬ 128 ≤ ln n 0) (h1 : ¬ 128 ≤ ln n 1) (h2 : ¬ 128 ≤ ln n 2) (h3 : ¬ 128 ≤ ln n 3) (h4 : ¬ 128 ≤ ln n 4) (h5 : 128 ≤ ln n 5) : 0 < hiM n ∧ IntKind.u64.wrap (bits .and .u64 ((hiM n : Nat) : Int) (IntKind.u64.wrap (-((hiM n : Nat) : Int))) * 285870213051353865) / 288230376151711744 = 17 := by
  have e : hiM n = 2 ^ 47 * (2 * (128 * (256 ^ 0 * one (128 ≤ ln n 6) + 256 ^ 1 * one (128 ≤ ln n 7))) + 1) := by
    rw [hiM_one]; unfold pk8; rw [show one (128 ≤ ln n 0) = 0 from if_neg h0]; rw [show one (128 ≤ ln n 1) = 0 from if_neg h1]; rw [show one (128 ≤ ln n 2) = 0 from if_neg h2]; rw [show one (128 ≤ ln n 3) = 0 from if_neg h3]; rw [show one (128 ≤ ln n 4) = 0 from if_neg h4]; simp only [one, if_pos h5, Nat.reducePow]; omega
  have h0' : 0 < hiM n := by rw [e]; omega
  rw [low_int _ 47 _ (by decide) e (hiM_lt n) h0']
  exact ⟨h0', by decide⟩
theorem low6 (n : Nat) (h0 : ¬ 128 ≤ ln n 0) (h1 : ¬ 128 ≤ ln n 1) (h2 : ¬ 128 ≤ ln n 2) (h3 : ¬ 128 ≤ ln n 3) (h4 : ¬ 128 ≤ ln n 4) (h5 : ¬ 128 ≤ ln n 5) (h6 : 128 ≤ ln n 6) : 0 < hiM n ∧ IntKind.u64.wrap (bits .and .u64 ((hiM n : Nat) : Int) (IntKind.u64.wrap (-((hiM n : Nat) : Int))) * 285870213051353865) / 288230376151711744 = 33 := by
  have e : hiM n = 2 ^ 55 * (2 * (128 * (256 ^ 0 * one (128 ≤ ln n 7))) + 1) := by
    rw [hiM_one]; unfold pk8; rw [show one (128 ≤ ln n 0) = 0 from if_neg h0]; rw [show one (128 ≤ ln n 1) = 0 from if_neg h1]; rw [show one (128 ≤ ln n 2) = 0 from if_neg h2]; rw [show one (128 ≤ ln n 3) = 0 from if_neg h3]; rw [show one (128 ≤ ln n 4) = 0 from if_neg h4]; rw [show one (128 ≤ ln n 5) = 0 from if_neg h5]; simp only [one, if_pos h6, Nat.reducePow]; omega
  have h0' : 0 < hiM n := by rw [e]; omega
  rw [low_int _ 55 _ (by decide) e (hiM_lt n) h0']
  exact ⟨h0', by decide⟩
theorem low7 (n : Nat) (h0 : ¬ 128 ≤ ln n 0) (h1 : ¬ 128 ≤ ln n 1) (h2 : ¬ 128 ≤ ln n 2) (h3 : ¬ 128 ≤ ln n 3) (h4 : ¬ 128 ≤ ln n 4) (h5 : ¬ 128 ≤ ln n 5) (h6 : ¬ 128 ≤ ln n 6) (h7 : 128 ≤ ln n 7) : 0 < hiM n ∧ IntKind.u64.wrap (bits .and .u64 ((hiM n : Nat) : Int) (IntKind.u64.wrap (-((hiM n : Nat) : Int))) * 285870213051353865) / 288230376151711744 = 32 := by
  have e : hiM n = 2 ^ 63 * (2 * (128 * (0)) + 1) := by
    rw [hiM_one]; unfold pk8; rw [show one (128 ≤ ln n 0) = 0 from if_neg h0]; rw [show one (128 ≤ ln n 1) = 0 from if_neg h1]; rw [show one (128 ≤ ln n 2) = 0 from if_neg h2]; rw [show one (128 ≤ ln n 3) = 0 from if_neg h3]; rw [show one (128 ≤ ln n 4) = 0 from if_neg h4]; rw [show one (128 ≤ ln n 5) = 0 from if_neg h5]; rw [show one (128 ≤ ln n 6) = 0 from if_neg h6]; simp only [one, if_pos h7, Nat.reducePow]
  have h0' : 0 < hiM n := by rw [e]; omega
  rw [low_int _ 63 _ (by decide) e (hiM_lt n) h0']
  exact ⟨h0', by decide⟩
end Go.Proofs.YtgpfhgkphadgkaaDoor.swar
