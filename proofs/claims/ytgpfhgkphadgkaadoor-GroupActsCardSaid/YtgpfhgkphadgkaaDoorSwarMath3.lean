/- Plain facts on masks: the list of the lanes that a mask tells, the least one, and what is left without it. -/
import Derived.Test.YtgpfhgkphadgkaaDoorSwarMath
namespace Go.Proofs.YtgpfhgkphadgkaaDoor.swar

/-- the mask of a list of lanes -/
def msk : List Nat → Nat
  | [] => 0
  | k :: r => 128 * 256 ^ k + msk r
/-- the lanes that a word tells, rising -/
def tl (n : Nat) : List Nat := [0, 1, 2, 3, 4, 5, 6, 7].filter fun k => decide (128 ≤ ln n k)
theorem length_filter (p : Nat → Bool) : ∀ l : List Nat, (l.filter p).length = (l.map fun k => if p k then 1 else 0).sum
  | [] => rfl
  | k :: l => by
    have ih := length_filter p l
    cases h : p k
    · simp [h, ih]
    · simp [h, ih]; omega
theorem sum8 (x0 x1 x2 x3 x4 x5 x6 x7 : Nat) : pk8 x0 x1 x2 x3 x4 x5 x6 x7 = x0 * 1 + (x1 * 256 + (x2 * 65536 + (x3 * 16777216 + (x4 * 4294967296 + (x5 * 1099511627776 + (x6 * 281474976710656 + (x7 * 72057594037927936 + 0))))))) := by unfold pk8; omega
theorem msk_cf (p : Nat → Bool) (k : Nat) (l : List Nat) : msk ((k :: l).filter p) = (if p k then 128 else 0) * 256 ^ k + msk (l.filter p) := by
  cases h : p k <;> simp [h, msk]
theorem sum8' (x0 x1 x2 x3 x4 x5 x6 x7 : Nat) : pk8 x0 x1 x2 x3 x4 x5 x6 x7 = x0 * 256 ^ 0 + (x1 * 256 ^ 1 + (x2 * 256 ^ 2 + (x3 * 256 ^ 3 + (x4 * 256 ^ 4 + (x5 * 256 ^ 5 + (x6 * 256 ^ 6 + (x7 * 256 ^ 7 + 0))))))) := by
  rw [sum8]
theorem dec_if (n k : Nat) : (if decide (128 ≤ ln n k) = true then 128 else 0) = (if 128 ≤ ln n k then 128 else 0) := by by_cases h : 128 ≤ ln n k <;> simp [h]
theorem hiM_msk (n : Nat) : hiM n = msk (tl n) := by
  have e : hiM n = _ := sum8' (if 128 ≤ ln n 0 then 128 else 0) (if 128 ≤ ln n 1 then 128 else 0) (if 128 ≤ ln n 2 then 128 else 0) (if 128 ≤ ln n 3 then 128 else 0) (if 128 ≤ ln n 4 then 128 else 0) (if 128 ≤ ln n 5 then 128 else 0) (if 128 ≤ ln n 6 then 128 else 0) (if 128 ≤ ln n 7 then 128 else 0)
  rw [e, tl, msk_cf, msk_cf, msk_cf, msk_cf, msk_cf, msk_cf, msk_cf, msk_cf, dec_if, dec_if, dec_if, dec_if, dec_if, dec_if, dec_if, dec_if]
  rfl
/-- a list of lanes, rising, each below 8 and from j on -/
def Up (j : Nat) : List Nat → Prop
  | [] => True
  | k :: r => j ≤ k ∧ k < 8 ∧ Up (k + 1) r
theorem Up.mono {i j : Nat} (h : i ≤ j) : ∀ {l : List Nat}, Up j l → Up i l
  | [], _ => trivial
  | _ :: _, ⟨a, b, c⟩ => ⟨by omega, b, c⟩
theorem Up.filter (p : Nat → Bool) : ∀ {j : Nat} {l : List Nat}, Up j l → Up j (l.filter p)
  | _, [], _ => trivial
  | j, k :: l, ⟨a, b, c⟩ => by
    have ih := Up.filter p c
    cases h : p k
    · simp [h]; exact ih.mono (by omega)
    · simp [h]; exact ⟨a, b, ih⟩
theorem up_tl (n : Nat) : Up 0 (tl n) := Up.filter _ (by simp [Up])
theorem tl_length (n : Nat) : (tl n).length = cnt n := by
  unfold tl cnt one
  rw [length_filter]
  simp only [List.map_cons, List.map_nil, List.sum_cons, List.sum_nil, decide_eq_true_eq]
  omega
theorem msk_dvd : ∀ (j : Nat) (l : List Nat), Up j l → ∃ t, msk l = 256 ^ j * (128 * t) ∧ msk l < 256 ^ 8
  | _, [], _ => ⟨0, by simp [msk], by decide⟩
  | j, k :: r, ⟨a, b, c⟩ => by
    obtain ⟨t, ht, hlt⟩ := msk_dvd (k + 1) r c
    have e1 : 256 ^ k = 256 ^ j * 256 ^ (k - j) := by rw [← Nat.pow_add]; congr 1; omega
    have e2 : 256 ^ (k + 1) = 256 ^ j * (256 ^ (k - j) * 256) := by rw [Nat.pow_succ, e1, Nat.mul_assoc]
    refine ⟨256 ^ (k - j) + 256 ^ (k - j) * 256 * t, ?_, ?_⟩
    · simp only [msk, ht]; rw [e1, e2]; grind
    · simp only [msk]
      have e3 : (256 : Nat) ^ 8 = 256 ^ (k + 1) * 256 ^ (7 - k) := by rw [← Nat.pow_add]; congr 1; omega
      rw [ht] at hlt ⊢
      rw [e3] at hlt ⊢
      have h1 : 128 * t < 256 ^ (7 - k) := Nat.lt_of_mul_lt_mul_left hlt
      have h2 : 128 * t + 1 ≤ 256 ^ (7 - k) := h1
      have h3 := Nat.mul_le_mul_left (256 ^ (k + 1)) h2
      have h4 : 0 < 256 ^ k := Nat.pow_pos (by decide)
      have h5 : 256 ^ (k + 1) = 256 ^ k * 256 := Nat.pow_succ ..
      rw [Nat.mul_add, Nat.mul_one] at h3
      generalize 256 ^ (k + 1) * 256 ^ (7 - k) = A at *
      generalize 256 ^ (k + 1) * (128 * t) = B at *
      omega
theorem msk_lt {l : List Nat} (h : Up 0 l) : msk l < 18446744073709551616 := by
  obtain ⟨_, _, h⟩ := msk_dvd 0 l h
  simpa using h
/-- the lowest told lane's bit, and what is odd above it -/
theorem msk_cons {k : Nat} {r : List Nat} (h : Up (k + 1) r) : ∃ t, msk (k :: r) = 2 ^ (8 * k + 7) * (2 * t + 1) ∧ msk r = 2 ^ (8 * k + 7) * (2 * t) := by
  obtain ⟨t, ht, _⟩ := msk_dvd (k + 1) r h
  have e : (256 : Nat) ^ k = 2 ^ (8 * k) := by rw [show (256 : Nat) = 2 ^ 8 from rfl, ← Nat.pow_mul]
  refine ⟨128 * t, ?_, ?_⟩
  · simp only [msk, ht]
    rw [Nat.pow_succ, e, Nat.pow_add, show (2 : Nat) ^ 7 = 128 from rfl]; grind
  · rw [ht, Nat.pow_succ, e, Nat.pow_add, show (2 : Nat) ^ 7 = 128 from rfl]; grind
theorem and_pow (j a b r s : Nat) (hr : r < 2 ^ j) (hs : s < 2 ^ j) : (2 ^ j * a + r) &&& (2 ^ j * b + s) = 2 ^ j * (a &&& b) + (r &&& s) := by
  apply Nat.eq_of_testBit_eq; intro i
  have hrs : r &&& s < 2 ^ j := Nat.lt_of_le_of_lt Nat.and_le_left hr
  rw [Nat.testBit_and, Nat.testBit_two_pow_mul_add a hr, Nat.testBit_two_pow_mul_add b hs, Nat.testBit_two_pow_mul_add _ hrs]
  split <;> simp
theorem clear_low (j t : Nat) : 2 ^ j * (2 * t + 1) &&& (2 ^ j * (2 * t + 1) - 1) = 2 ^ j * (2 * t) := by
  have hp : 0 < 2 ^ j := Nat.two_pow_pos j
  have e : 2 ^ j * (2 * t + 1) - 1 = 2 ^ j * (2 * t) + (2 ^ j - 1) := by rw [Nat.mul_add, Nat.mul_one]; omega
  have h := and_pow j (2 * t + 1) (2 * t) 0 (2 ^ j - 1) hp (by omega)
  rw [Nat.add_zero] at h
  rw [e, h]
  have e2 : (2 * t + 1) &&& (2 * t) = 2 * t := by
    have h := and_pow 1 t t 1 0 (by decide) (by decide)
    simpa using h
  rw [e2]; simp
theorem msk_pos {k : Nat} {r : List Nat} : 0 < msk (k :: r) := by
  simp only [msk]; have := Nat.pow_pos (n := k) (show 0 < 256 by decide); omega
/-- 'left &= left - 1', as the walk spells it -/
theorem msk_step {k : Nat} {r : List Nat} (h : Up (k + 1) r) (hlt : msk (k :: r) < 18446744073709551616) : bits .and .u64 ((msk (k :: r) : Nat) : Int) (((msk (k :: r) : Nat) : Int) - 1) = ((msk r : Nat) : Int) := by
  obtain ⟨t, h1, h2⟩ := msk_cons h
  have hp := @msk_pos k r
  rw [show (((msk (k :: r) : Nat) : Int) - 1) = ((msk (k :: r) - 1 : Nat) : Int) from by omega, u64_and_nat _ _ hlt (by omega), h1, clear_low, ← h2]
/-- the table's place for a lane's bit -/
theorem msk_tz {k : Nat} {r : List Nat} (hk : 8 * k + 7 < 64) (h : Up (k + 1) r) (hlt : msk (k :: r) < 18446744073709551616) :
    bits .and .u64 ((msk (k :: r) : Nat) : Int) (IntKind.u64.wrap (-((msk (k :: r) : Nat) : Int))) = ((2 ^ (8 * k + 7) : Nat) : Int) := by
  obtain ⟨t, h1, _⟩ := msk_cons h
  exact low_int _ (8 * k + 7) t hk h1 hlt msk_pos
/-- a list's mask has no other bits -/
theorem msk_and : ∀ (l : List Nat) (j : Nat), Up j l → msk l &&& 9259542123273814144 = msk l
  | [], _, _ => by simp [msk]
  | k :: r, j, ⟨a, b, c⟩ => by
    have ih := msk_and r (k + 1) c
    obtain ⟨t, ht, _⟩ := msk_dvd (k + 1) r c
    have e : (256 : Nat) ^ (k + 1) = 2 ^ (8 * k + 8) := by rw [show (256 : Nat) = 2 ^ 8 from rfl, ← Nat.pow_mul]; congr 1
    have e' : 128 * (256 : Nat) ^ k = 2 ^ (8 * k + 7) := by rw [show (256 : Nat) = 2 ^ 8 from rfl, ← Nat.pow_mul, Nat.pow_add, Nat.mul_comm]
    have hp : 0 < 2 ^ (8 * k + 8) := Nat.two_pow_pos _
    have hlt : 2 ^ (8 * k + 7) < 2 ^ (8 * k + 8) := Nat.pow_lt_pow_right (by decide) (by omega)
    have hs : 9259542123273814144 % 2 ^ (8 * k + 8) < 2 ^ (8 * k + 8) := Nat.mod_lt _ hp
    have hH : 9259542123273814144 = 2 ^ (8 * k + 8) * (9259542123273814144 / 2 ^ (8 * k + 8)) + 9259542123273814144 % 2 ^ (8 * k + 8) := (Nat.div_add_mod _ _).symm
    have hk : 2 ^ (8 * k + 7) &&& 9259542123273814144 % 2 ^ (8 * k + 8) = 2 ^ (8 * k + 7) := by
      have h8 : k = 0 ∨ k = 1 ∨ k = 2 ∨ k = 3 ∨ k = 4 ∨ k = 5 ∨ k = 6 ∨ k = 7 := by omega
      rcases h8 with rfl | rfl | rfl | rfl | rfl | rfl | rfl | rfl <;> decide
    have h1 := and_pow (8 * k + 8) (128 * t) (9259542123273814144 / 2 ^ (8 * k + 8)) 0 (9259542123273814144 % 2 ^ (8 * k + 8)) hp hs
    have h2 := and_pow (8 * k + 8) (128 * t) (9259542123273814144 / 2 ^ (8 * k + 8)) (2 ^ (8 * k + 7)) (9259542123273814144 % 2 ^ (8 * k + 8)) hlt hs
    rw [← hH, hk] at h2
    rw [← hH, Nat.add_zero, Nat.zero_and, ← e, ← ht, ih, Nat.add_zero] at h1
    rw [← e, ← h1, ← ht, ← e'] at h2
    simp only [msk]
    rw [Nat.add_comm, h2]
theorem msk_hi {l : List Nat} (h : Up 0 l) : bits .and .u64 ((msk l : Nat) : Int) 9259542123273814144 = ((msk l : Nat) : Int) := by
  rw [show (9259542123273814144 : Int) = ((9259542123273814144 : Nat) : Int) from rfl, u64_and_nat _ _ (msk_lt h) (by decide), msk_and l 0 h]
theorem hiM_self {l : List Nat} (h : Up 0 l) : hiM (msk l) = msk l := by
  have e := (hi_bits _ (msk_lt h)).symm.trans (msk_hi h)
  omega
end Go.Proofs.YtgpfhgkphadgkaaDoor.swar
