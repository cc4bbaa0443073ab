/- Floats of 64 bits: what a word holds, and what the operations come to. No program is named. -/
import Derived.Laws.FloatArith
namespace Go.Proofs.Ytbldjegeaphocaa.flt
open Ieee
set_option linter.unusedVariables false
set_option linter.unusedSimpArgs false

/-- what a word that is finite and not negative holds, in units of the least number above 0 -/
def V (x : Nat) : Nat := if x < 4503599627370496 then x else (4503599627370496 + x % 4503599627370496) * 2 ^ (x / 4503599627370496 - 1)
/-- infinity's word -/
abbrev inf : Nat := 9218868437227405312

theorem V_of (q k : Nat) (hk : k < 9007199254740992) (h : q = 0 ∨ 4503599627370496 ≤ k) : V (q * 4503599627370496 + k) = k * 2 ^ q := by
  unfold V
  by_cases h1 : k < 4503599627370496
  · have : q = 0 := by omega
    subst this
    simp [h1]
  · have e1 : (q * 4503599627370496 + k) / 4503599627370496 - 1 = q := by omega
    have e2 : 4503599627370496 + (q * 4503599627370496 + k) % 4503599627370496 = k := by omega
    have e3 : ¬ (q * 4503599627370496 + k < 4503599627370496) := by omega
    rw [if_neg e3, e1, e2]
theorem form (x : Nat) : ∃ q k, x = q * 4503599627370496 + k ∧ k < 9007199254740992 ∧ (q = 0 ∨ 4503599627370496 ≤ k) ∧ V x = k * 2 ^ q := by
  by_cases h : x < 4503599627370496
  · exact ⟨0, x, by omega, by omega, .inl rfl, by simp [V, h]⟩
  · refine ⟨x / 4503599627370496 - 1, 4503599627370496 + x % 4503599627370496, by omega, by omega, .inr (by omega), ?_⟩
    simp [V, h]

theorem pow_split {a b : Nat} (h : a ≤ b) : 2 ^ b = 2 ^ a * 2 ^ (b - a) := by rw [← Nat.pow_add]; congr 1; omega
theorem pow52 : (4503599627370496 : Nat) = 2 ^ 52 := by decide
theorem pow53 : (9007199254740992 : Nat) = 2 ^ 53 := by decide

theorem V_lt {x y : Nat} (h : x < y) : V x < V y := by
  obtain ⟨q, k, hx, hk, hq, e⟩ := form x
  obtain ⟨q', k', hy, hk', hq', e'⟩ := form y
  rw [e, e']
  rcases Nat.lt_trichotomy q q' with hl | rfl | hl
  · have h1 : 4503599627370496 ≤ k' := by omega
    calc k * 2 ^ q < 9007199254740992 * 2 ^ q := Nat.mul_lt_mul_of_pos_right hk (Nat.two_pow_pos q)
      _ = 4503599627370496 * 2 ^ (q + 1) := by rw [Nat.pow_succ]; omega
      _ ≤ 4503599627370496 * 2 ^ q' := Nat.mul_le_mul_left _ (Nat.pow_le_pow_right (by decide) hl)
      _ ≤ k' * 2 ^ q' := Nat.mul_le_mul_right _ h1
  · exact Nat.mul_lt_mul_of_pos_right (by omega) (Nat.two_pow_pos q)
  · omega
theorem V_le {x y : Nat} (h : x ≤ y) : V x ≤ V y := by
  rcases Nat.lt_or_eq_of_le h with h | rfl
  · exact Nat.le_of_lt (V_lt h)
  · exact Nat.le_refl _
theorem V_le_iff {x y : Nat} : V x ≤ V y ↔ x ≤ y := ⟨fun h => Nat.not_lt.1 fun hl => absurd (V_lt hl) (Nat.not_lt.2 h), V_le⟩
theorem V_lt_iff {x y : Nat} : V x < V y ↔ x < y := ⟨fun h => Nat.not_le.1 fun hl => absurd (V_le hl) (Nat.not_le.2 h), V_lt⟩
theorem V_inj {x y : Nat} (h : V x = V y) : x = y := Nat.le_antisymm (V_le_iff.1 (Nat.le_of_eq h)) (V_le_iff.1 (Nat.le_of_eq h.symm))
theorem V_zero : V 0 = 0 := by decide
theorem rep (m e : Nat) (h : m < 9007199254740992) : ∃ z, V z = m * 2 ^ e := by
  induction e generalizing m with
  | zero => exact ⟨0 * 4503599627370496 + m, by rw [V_of 0 m h (.inl rfl)]⟩
  | succ e ih =>
    by_cases h1 : m < 4503599627370496
    · obtain ⟨z, hz⟩ := ih (2 * m) (by omega)
      exact ⟨z, by rw [hz, Nat.pow_succ]; ac_rfl⟩
    · exact ⟨_, V_of (e + 1) m h (.inr (by omega))⟩

/-! ## reading -/
theorem read_fin (x : Nat) (hx : x < inf) : ∃ q k, x = q * 4503599627370496 + k ∧ k < 9007199254740992 ∧ (q = 0 ∨ 4503599627370496 ≤ k) ∧ V x = k * 2 ^ q ∧ double.read x = .number false k ((q : Int) - 1074) := by
  have e0 : double.signWeight = 9223372036854775808 := by decide
  have e1 : double.binade = 4503599627370496 := by decide
  have e2 : double.infRung = inf := by decide
  have e3 : double.leastPlace = -1074 := by decide
  have hneg : (x / 9223372036854775808 % 2 == 1) = false := by
    have : x / 9223372036854775808 = 0 := by unfold inf at hx; omega
    simp [this]
  have hr : x % 9223372036854775808 = x := Nat.mod_eq_of_lt (by unfold inf at hx; omega)
  by_cases h : x < 4503599627370496
  · refine ⟨0, x, by omega, by omega, .inl rfl, by simp [V, h], ?_⟩
    simp only [Format.read, e0, e1, e2, e3, hneg, hr, h, if_true]
    rfl
  · refine ⟨x / 4503599627370496 - 1, 4503599627370496 + x % 4503599627370496, by omega, by omega, .inr (by omega), by simp [V, h], ?_⟩
    simp only [Format.read, e0, e1, e2, e3, hneg, hr, h, hx, if_true, if_false]
    congr 1
theorem read_inf : double.read inf = .infinity false := by decide
theorem read_neg (x : Nat) (hx : x < 9223372036854775808) : double.read (9223372036854775808 + x) = (double.read x).opposite := by
  have e0 : double.signWeight = 9223372036854775808 := by decide
  have hneg : (x / 9223372036854775808 % 2 == 1) = false := by
    have : x / 9223372036854775808 = 0 := by omega
    simp [this]
  have hneg' : ((9223372036854775808 + x) / 9223372036854775808 % 2 == 1) = true := by
    have : (9223372036854775808 + x) / 9223372036854775808 = 1 := by omega
    simp [this]
  have hr : x % 9223372036854775808 = x := Nat.mod_eq_of_lt (by omega)
  have hr' : (9223372036854775808 + x) % 9223372036854775808 = x := by omega
  simp only [Format.read, e0, hneg, hneg', hr, hr']
  split
  · rfl
  · split
    · rfl
    · split <;> rfl

/-! ## rounding -/
theorem cut_le (s : Bool) (n d k : Nat) (h : n ≤ k * 2 ^ d) : Toward.even.cut s n d ≤ k := by
  unfold Toward.cut
  simp only [Nat.one_shiftLeft]
  by_cases hd : d ≤ n.log2 + 2
  · rw [Nat.min_eq_left hd]
    have hp : 0 < 2 ^ d := Nat.two_pow_pos d
    have hm := Nat.div_add_mod n (2 ^ d)
    have hlt := Nat.mod_lt n hp
    by_cases hr : n % 2 ^ d = 0
    · have : n / 2 ^ d ≤ k := by
        refine Nat.div_le_of_le_mul ?_
        rw [Nat.mul_comm]; exact h
      rw [hr]
      have h0 : (2 ^ d == 0) = false := by simp [Nat.ne_of_gt hp]
      simp [h0]
      exact this
    · have hlt2 : n / 2 ^ d < k := by
        refine Nat.lt_of_not_le fun hk => ?_
        have : 2 ^ d * k ≤ 2 ^ d * (n / 2 ^ d) := Nat.mul_le_mul_left _ hk
        rw [Nat.mul_comm] at h
        omega
      have : ∀ b : Bool, b.toNat ≤ 1 := by decide
      exact Nat.le_trans (Nat.add_le_add_left (this _) _) hlt2
  · have hn : n < 2 ^ (n.log2 + 1) := Nat.lt_log2_self
    rw [Nat.min_eq_right (by omega)]
    have e : 2 ^ (n.log2 + 2) = 2 * 2 ^ (n.log2 + 1) := by rw [Nat.pow_succ, Nat.mul_comm]
    have h1 : n / 2 ^ (n.log2 + 2) = 0 := Nat.div_eq_of_lt (by omega)
    have h2 : n % 2 ^ (n.log2 + 2) = n := Nat.mod_eq_of_lt (by omega)
    rw [h1, h2]
    have h3 : decide (2 ^ (n.log2 + 2) < 2 * n) = false := by simp; omega
    have h4 : (2 ^ (n.log2 + 2) == 2 * n) = false := by simp; omega
    simp [h3, h4]
theorem le_cut (s : Bool) (n d k : Nat) (h : k * 2 ^ d ≤ n) : k ≤ Toward.even.cut s n d := by
  unfold Toward.cut
  simp only [Nat.one_shiftLeft]
  by_cases hd : d ≤ n.log2 + 2
  · rw [Nat.min_eq_left hd]
    have hp : 0 < 2 ^ d := Nat.two_pow_pos d
    exact Nat.le_trans ((Nat.le_div_iff_mul_le hp).2 h) (Nat.le_add_right _ _)
  · have hn : n < 2 ^ (n.log2 + 1) := Nat.lt_log2_self
    have : n < 2 ^ d := Nat.lt_of_lt_of_le hn (Nat.pow_le_pow_right (by decide) (by omega))
    have hk : k = 0 := by
      rcases Nat.eq_zero_or_pos k with h0 | h0
      · exact h0
      · have := Nat.le_mul_of_pos_left (2 ^ d) h0
        omega
    rw [hk]; exact Nat.zero_le _
theorem scale_le (m a b p p' q k : Nat) (h : a + q + p' = b + p) : m * 2 ^ a ≤ k * 2 ^ b ↔ m * 2 ^ p ≤ k * 2 ^ q * 2 ^ p' := by
  have e1 : m * 2 ^ a * 2 ^ (q + p') = m * 2 ^ p * 2 ^ b := by rw [Nat.mul_assoc, Nat.mul_assoc, ← Nat.pow_add, ← Nat.pow_add]; congr 2; omega
  have e2 : k * 2 ^ b * 2 ^ (q + p') = k * 2 ^ q * 2 ^ p' * 2 ^ b := by rw [Nat.pow_add]; ac_rfl
  have p1 : 0 < 2 ^ (q + p') := Nat.two_pow_pos _
  have p2 : 0 < 2 ^ b := Nat.two_pow_pos _
  rw [← Nat.mul_le_mul_right_iff p1, e1, e2, Nat.mul_le_mul_right_iff p2]
theorem scale_ge (m a b p p' q k : Nat) (h : a + q + p' = b + p) : k * 2 ^ b ≤ m * 2 ^ a ↔ k * 2 ^ q * 2 ^ p' ≤ m * 2 ^ p := by
  have e1 : m * 2 ^ a * 2 ^ (q + p') = m * 2 ^ p * 2 ^ b := by rw [Nat.mul_assoc, Nat.mul_assoc, ← Nat.pow_add, ← Nat.pow_add]; congr 2; omega
  have e2 : k * 2 ^ b * 2 ^ (q + p') = k * 2 ^ q * 2 ^ p' * 2 ^ b := by rw [Nat.pow_add]; ac_rfl
  have p1 : 0 < 2 ^ (q + p') := Nat.two_pow_pos _
  have p2 : 0 < 2 ^ b := Nat.two_pow_pos _
  rw [← Nat.mul_le_mul_right_iff p1, e1, e2, Nat.mul_le_mul_right_iff p2]

/-- the rung that a number is rounded to lies between those that the number lies between -/
theorem nearest_at (s : Bool) (mag : Nat) (place : Int) (p p' : Nat) (hp : place + 1074 = (p : Int) - p') (h0 : p = 0 ∨ p' = 0) :
    ∃ r, double.nearest s mag place = double.word s r ∧ r ≤ inf ∧ (∀ z, mag * 2 ^ p ≤ V z * 2 ^ p' → r ≤ z) ∧ (∀ z, z ≤ inf → V z * 2 ^ p' ≤ mag * 2 ^ p → z ≤ r) := by
  have e1 : double.binade = 4503599627370496 := by decide
  have e2 : double.infRung = inf := by decide
  have e3 : double.leastPlace = -1074 := by decide
  have e4 : double.fractionBits = 52 := rfl
  by_cases hm : mag = 0
  · subst hm
    refine ⟨0, by simp [Format.nearest], by decide, fun z _ => Nat.zero_le _, fun z _ hz => ?_⟩
    rw [Nat.zero_mul] at hz
    have : V z = 0 := by
      rcases Nat.eq_zero_or_pos (V z) with h | h
      · exact h
      · have := Nat.mul_pos h (Nat.two_pow_pos p')
        omega
    have := V_inj (this.trans V_zero.symm)
    omega
  · have hL1 : 2 ^ mag.log2 ≤ mag := Nat.log2_self_le hm
    have hL2 : mag < 2 ^ (mag.log2 + 1) := Nat.lt_log2_self
    generalize hq : (mag.log2 + p - p' - 52) = q
    have hlast : max (place + mag.log2 - (52 : Nat)) (-1074) = (q : Int) - 1074 := by omega
    generalize ha : (place - ((q : Int) - 1074)).toNat = a
    generalize hb : (((q : Int) - 1074) - place).toNat = b
    have hab : a + q + p' = b + p := by omega
    have hval : double.nearest s mag place = double.word s (min (q * 4503599627370496 + Toward.even.cut s (mag * 2 ^ a) b) inf) := by
      unfold Format.nearest
      rw [if_neg hm]
      simp only [e1, e2, e3, e4, hlast, ha, hb, Nat.shiftLeft_eq]
      rw [show ((q : Int) - 1074 - -1074).toNat = q from by omega]
    have up : ∀ k, mag * 2 ^ p ≤ k * 2 ^ q * 2 ^ p' → Toward.even.cut s (mag * 2 ^ a) b ≤ k := fun k hk => cut_le _ _ _ _ ((scale_le _ _ _ _ _ _ _ hab).2 hk)
    have lo : ∀ k, k * 2 ^ q * 2 ^ p' ≤ mag * 2 ^ p → k ≤ Toward.even.cut s (mag * 2 ^ a) b := fun k hk => le_cut _ _ _ _ ((scale_ge _ _ _ _ _ _ _ hab).2 hk)
    -- what lies between the powers of two
    have hN2 : mag * 2 ^ p < 9007199254740992 * 2 ^ q * 2 ^ p' := by
      have : mag * 2 ^ p < 2 ^ (mag.log2 + 1) * 2 ^ p := Nat.mul_lt_mul_of_pos_right hL2 (Nat.two_pow_pos p)
      refine Nat.lt_of_lt_of_le this ?_
      rw [pow53, ← Nat.pow_add, ← Nat.pow_add, ← Nat.pow_add]
      exact Nat.pow_le_pow_right (by decide) (by omega)
    have hN1 : 0 < q → 4503599627370496 * 2 ^ q * 2 ^ p' ≤ mag * 2 ^ p := fun hq0 => by
      have : 2 ^ mag.log2 * 2 ^ p ≤ mag * 2 ^ p := Nat.mul_le_mul_right _ hL1
      refine Nat.le_trans ?_ this
      rw [pow52, ← Nat.pow_add, ← Nat.pow_add, ← Nat.pow_add]
      exact Nat.pow_le_pow_right (by decide) (by omega)
    have hP : 0 < 2 ^ p' := Nat.two_pow_pos p'
    refine ⟨_, hval, Nat.min_le_right _ _, fun z hz => Nat.le_trans (Nat.min_le_left _ _) ?_, fun z hzi hz => Nat.le_min.2 ⟨?_, hzi⟩⟩
    · obtain ⟨q', k', hzx, hk', hq', e⟩ := form z
      rw [e] at hz
      rcases Nat.lt_trichotomy q' q with hl | rfl | hl
      · exfalso
        have h1 := hN1 (by omega)
        have h2 : k' * 2 ^ q' < 4503599627370496 * 2 ^ q := by
          calc k' * 2 ^ q' < 9007199254740992 * 2 ^ q' := Nat.mul_lt_mul_of_pos_right hk' (Nat.two_pow_pos _)
            _ = 4503599627370496 * 2 ^ (q' + 1) := by rw [Nat.pow_succ]; omega
            _ ≤ 4503599627370496 * 2 ^ q := Nat.mul_le_mul_left _ (Nat.pow_le_pow_right (by decide) hl)
        have := Nat.mul_lt_mul_of_pos_right h2 hP
        omega
      · have := up k' hz
        omega
      · have := up 9007199254740992 (Nat.le_of_lt hN2)
        have : (q + 1) * 4503599627370496 ≤ q' * 4503599627370496 := Nat.mul_le_mul_right _ hl
        omega
    · obtain ⟨q', k', hzx, hk', hq', e⟩ := form z
      rw [e] at hz
      rcases Nat.lt_trichotomy q' q with hl | rfl | hl
      · have := lo 4503599627370496 (hN1 (by omega))
        have : (q' + 1) * 4503599627370496 ≤ q * 4503599627370496 := Nat.mul_le_mul_right _ hl
        omega
      · have := lo k' hz
        omega
      · exfalso
        have h2 : 9007199254740992 * 2 ^ q ≤ k' * 2 ^ q' := by
          calc 9007199254740992 * 2 ^ q = 4503599627370496 * 2 ^ (q + 1) := by rw [Nat.pow_succ]; omega
            _ ≤ 4503599627370496 * 2 ^ q' := Nat.mul_le_mul_left _ (Nat.pow_le_pow_right (by decide) hl)
            _ ≤ k' * 2 ^ q' := Nat.mul_le_mul_right _ (by omega)
        have := Nat.mul_le_mul_right (2 ^ p') h2
        omega

theorem word_false (r : Nat) : double.word false r = r := rfl
theorem word_true (r : Nat) : double.word true r = 9223372036854775808 + r := by simp [Format.word, Format.signWeight, double]
/-- a number that a word holds is rounded to that word -/
theorem nearest_is (s : Bool) (mag : Nat) (place : Int) (p p' z : Nat) (hp : place + 1074 = (p : Int) - p') (h0 : p = 0 ∨ p' = 0) (hz : z ≤ inf) (h : mag * 2 ^ p = V z * 2 ^ p') : double.nearest s mag place = double.word s z := by
  obtain ⟨r, hr, hi, up, lo⟩ := nearest_at s mag place p p' hp h0
  have := up z (Nat.le_of_eq h)
  have := lo z hz (Nat.le_of_eq h.symm)
  rw [hr, show r = z from by omega]

/-! ## sums -/
theorem signed_false (m u : Nat) : signed false m u = ((m * 2 ^ u : Nat) : Int) := by simp [signed, Nat.shiftLeft_eq]
theorem signed_true (m u : Nat) : signed true m u = -((m * 2 ^ u : Nat) : Int) := by simp [signed, Nat.shiftLeft_eq]
theorem up_min (k q m : Nat) (h : m ≤ q) : k * 2 ^ (q - m) * 2 ^ m = k * 2 ^ q := by rw [Nat.mul_assoc, ← Nat.pow_add]; congr 2; omega
theorem sum_fin {x y : Nat} (hx : x < inf) (hy : y < inf) : ∃ (mag : Nat) (place : Int) (p : Nat), (double.read x).sum (double.read y) = some (.number false mag place) ∧ place + 1074 = p ∧ mag * 2 ^ p = V x + V y := by
  obtain ⟨q, k, _, _, _, e, r⟩ := read_fin x hx
  obtain ⟨q', k', _, _, _, e', r'⟩ := read_fin y hy
  have a1 : ((q : Int) - 1074 - min ((q : Int) - 1074) ((q' : Int) - 1074)).toNat = q - min q q' := by omega
  have a2 : ((q' : Int) - 1074 - min ((q : Int) - 1074) ((q' : Int) - 1074)).toNat = q' - min q q' := by omega
  refine ⟨k * 2 ^ (q - min q q') + k' * 2 ^ (q' - min q q'), min ((q : Int) - 1074) ((q' : Int) - 1074), min q q', ?_, by omega, ?_⟩
  · rw [r, r']
    simp only [Datum.sum, a1, a2, signed_false, ← Int.natCast_add, Int.natAbs_natCast]
    congr 2
    split
    · rfl
    · exact decide_eq_false (by omega)
  · rw [Nat.add_mul, up_min _ _ _ (Nat.min_le_left _ _), up_min _ _ _ (Nat.min_le_right _ _), e, e']
theorem diff_fin {x y : Nat} (hx : x < inf) (hy : y < inf) (h : V y ≤ V x) : ∃ (mag : Nat) (place : Int) (p : Nat), (double.read x).sum (double.read y).opposite = some (.number false mag place) ∧ place + 1074 = p ∧ mag * 2 ^ p + V y = V x := by
  obtain ⟨q, k, _, _, _, e, r⟩ := read_fin x hx
  obtain ⟨q', k', _, _, _, e', r'⟩ := read_fin y hy
  have a1 : ((q : Int) - 1074 - min ((q : Int) - 1074) ((q' : Int) - 1074)).toNat = q - min q q' := by omega
  have a2 : ((q' : Int) - 1074 - min ((q : Int) - 1074) ((q' : Int) - 1074)).toNat = q' - min q q' := by omega
  have u1 := up_min k q (min q q') (Nat.min_le_left _ _)
  have u2 := up_min k' q' (min q q') (Nat.min_le_right _ _)
  have hle : k' * 2 ^ (q' - min q q') ≤ k * 2 ^ (q - min q q') := by
    have hP : 0 < 2 ^ min q q' := Nat.two_pow_pos _
    rw [← Nat.mul_le_mul_right_iff hP, u1, u2, ← e, ← e']; exact h
  generalize hA : k * 2 ^ (q - min q q') = A at *
  generalize hB : k' * 2 ^ (q' - min q q') = B at *
  refine ⟨A - B, min ((q : Int) - 1074) ((q' : Int) - 1074), min q q', ?_, by omega, ?_⟩
  · rw [r, r']
    simp only [Datum.sum, Datum.opposite, a1, a2, signed_false, signed_true, hA, hB, Bool.not_false]
    have t1 : ((A : Int) + -(B : Int)).natAbs = A - B := by omega
    have t2 : ¬ ((A : Int) + -(B : Int) < 0) := by omega
    rw [t1, decide_eq_false t2]
    congr 2
    split <;> rfl
  · rw [Nat.sub_mul, u1, u2, ← e, ← e']; omega
theorem add_at {x y : Nat} (hx : x < inf) (hy : y < inf) : ∃ r, double.add x y = some r ∧ r ≤ inf ∧ (∀ z, V x + V y ≤ V z → r ≤ z) ∧ (∀ z, z ≤ inf → V z ≤ V x + V y → z ≤ r) := by
  obtain ⟨mag, place, p, h, hp, hm⟩ := sum_fin hx hy
  obtain ⟨r, hr, hi, up, lo⟩ := nearest_at false mag place p 0 (by omega) (.inr rfl)
  simp only [hm, Nat.pow_zero, Nat.mul_one] at up lo
  exact ⟨r, by unfold Format.add; rw [h]; exact congrArg some hr, hi, up, lo⟩
theorem add_is {x y z : Nat} (hx : x < inf) (hy : y < inf) (hz : z ≤ inf) (h : V z = V x + V y) : double.add x y = some z := by
  obtain ⟨r, hr, _, up, lo⟩ := add_at hx hy
  have := up z (Nat.le_of_eq h.symm)
  have := lo z hz (Nat.le_of_eq h)
  rw [hr, show r = z from by omega]
theorem sub_at {x y : Nat} (hx : x < inf) (hy : y < inf) (hle : V y ≤ V x) : ∃ r, double.sub x y = some r ∧ r ≤ inf ∧ (∀ z, V x ≤ V z + V y → r ≤ z) ∧ (∀ z, z ≤ inf → V z + V y ≤ V x → z ≤ r) := by
  obtain ⟨mag, place, p, h, hp, hm⟩ := diff_fin hx hy hle
  obtain ⟨r, hr, hi, up, lo⟩ := nearest_at false mag place p 0 (by omega) (.inr rfl)
  simp only [Nat.pow_zero, Nat.mul_one] at up lo
  exact ⟨r, by unfold Format.sub; rw [h]; exact congrArg some hr, hi, fun z hz => up z (by omega), fun z h1 hz => lo z h1 (by omega)⟩
theorem sub_is {x y z : Nat} (hx : x < inf) (hy : y < inf) (hz : z ≤ inf) (h : V z + V y = V x) : double.sub x y = some z := by
  obtain ⟨r, hr, _, up, lo⟩ := sub_at hx hy (by omega)
  have := up z (by omega)
  have := lo z hz (by omega)
  rw [hr, show r = z from by omega]

/-! ## the unit: how much 1 is -/
def E : Nat := 1074
def U : Nat := 2 ^ E
theorem U_eq {n : Nat} (h : n = 1074) : 2 ^ n = U := by
  have h2 : n = E := h
  rw [h2]; rfl
theorem U_split {a b : Nat} (h : a + b = 1074) : 2 ^ a * 2 ^ b = U := by rw [← Nat.pow_add, U_eq h]
theorem U_pos : 0 < U := Nat.two_pow_pos E
theorem two_past {m : Nat} (h : 1074 ≤ m) : 2 ^ m = 2 ^ (m - 1074) * U := by
  obtain ⟨d, hd⟩ : ∃ d, m = d + E := ⟨m - E, (Nat.sub_add_cancel h).symm⟩
  have e : m - 1074 = d := by
    have : m - E = d := by rw [hd, Nat.add_sub_cancel]
    exact this
  rw [e, hd, Nat.pow_add]; rfl
theorem mul_is {x y z : Nat} (hx : x < inf) (hy : y < inf) (hz : z ≤ inf) (h : V z * U = V x * V y) : double.mul x y = some z := by
  obtain ⟨q, k, _, _, _, e, r⟩ := read_fin x hx
  obtain ⟨q', k', _, _, _, e', r'⟩ := read_fin y hy
  unfold Format.mul
  rw [r, r']
  refine congrArg some (nearest_is false (k * k') _ (q + q' - 1074) (1074 - (q + q')) z (by omega) (by omega) hz ?_)
  have e2 : V x * V y = k * k' * 2 ^ (q + q') := by rw [e, e', Nat.pow_add]; ac_rfl
  rw [e2] at h
  rcases Nat.le_total (q + q') 1074 with hl | hl
  · rw [show q + q' - 1074 = 0 from by omega, Nat.pow_zero, Nat.mul_one]
    have hP : 0 < 2 ^ (q + q') := Nat.two_pow_pos _
    refine Nat.eq_of_mul_eq_mul_right hP ?_
    rw [← h, Nat.mul_assoc, U_split (by omega)]
  · rw [show 1074 - (q + q') = 0 from by omega, Nat.pow_zero, Nat.mul_one]
    refine Nat.eq_of_mul_eq_mul_right U_pos ?_
    have e3 : 2 ^ (q + q') = 2 ^ (q + q' - 1074) * U := two_past hl
    rw [h, e3, Nat.mul_assoc]

/-! ## whole numbers -/
theorem ofInt_is (n z : Nat) (hz : z ≤ inf) (h : V z = n * U) : floatOfInt .f64 (n : Int) = z := by
  have e : floatOfInt .f64 (n : Int) = double.nearest false n 0 := by
    show double.nearest (decide ((n : Int) < 0)) (n : Int).natAbs 0 = _
    rw [decide_eq_false (by omega), Int.natAbs_natCast]
  obtain ⟨m, hm⟩ : ∃ m : Nat, m = 1074 := ⟨_, rfl⟩
  rw [e, nearest_is false n 0 m 0 z (by omega) (.inr rfl) hz (by rw [h, U_eq hm, Nat.pow_zero, Nat.mul_one])]
  rfl
theorem toInt_fin (x : Nat) (hx : x < inf) : (double.read x).toInt .zero = some ((V x / U : Nat) : Int) := by
  obtain ⟨q, k, _, _, _, e, r⟩ := read_fin x hx
  rw [r]
  simp only [Datum.toInt, Datum.integral, signed_false, Nat.pow_zero, Nat.mul_one]
  congr 2
  simp only [Toward.cut, Nat.shiftLeft_eq, Nat.one_mul, Bool.toNat_false, Nat.add_zero]
  rw [e]
  rcases Nat.le_total q 1074 with hl | hl
  · rw [show ((q : Int) - 1074).toNat = 0 from by omega, show (-((q : Int) - 1074)).toNat = 1074 - q from by omega, Nat.pow_zero, Nat.mul_one]
    have e2 : k * 2 ^ q / U = k / 2 ^ (1074 - q) := by
      rw [← U_split (show q + (1074 - q) = 1074 from by omega), Nat.mul_comm k, Nat.mul_div_mul_left _ _ (Nat.two_pow_pos q)]
    rw [e2]
    by_cases hd : 1074 - q ≤ k.log2 + 2
    · rw [Nat.min_eq_left hd]
    · rw [Nat.min_eq_right (by omega)]
      have hk : k < 2 ^ (k.log2 + 1) := Nat.lt_log2_self
      rw [Nat.div_eq_of_lt (Nat.lt_of_lt_of_le hk (Nat.pow_le_pow_right (by decide) (by omega))), Nat.div_eq_of_lt (Nat.lt_of_lt_of_le hk (Nat.pow_le_pow_right (by decide) (by omega)))]
  · rw [show ((q : Int) - 1074).toNat = q - 1074 from by omega, show (-((q : Int) - 1074)).toNat = 0 from by omega, Nat.zero_min, Nat.pow_zero, Nat.div_one]
    have e2 : k * 2 ^ q = k * 2 ^ (q - 1074) * U := by
      obtain ⟨n, hn⟩ : ∃ n : Nat, n = 1074 := ⟨_, rfl⟩
      rw [← U_eq hn, Nat.mul_assoc, ← Nat.pow_add]
      congr 2
      omega
    rw [e2, Nat.mul_div_cancel _ U_pos]
/-- what is left of a number behind its whole part, a word holds -/
theorem rem_rep (x : Nat) : ∃ z, V z = V x % U := by
  obtain ⟨q, k, _, hk, _, e⟩ := form x
  rcases Nat.le_total q 1074 with hl | hl
  · obtain ⟨z, hz⟩ := rep (k % 2 ^ (1074 - q)) q (Nat.lt_of_le_of_lt (Nat.mod_le _ _) hk)
    exact ⟨z, by rw [hz, e, ← U_split (show (1074 - q) + q = 1074 from by omega), Nat.mul_mod_mul_right]⟩
  · refine ⟨0, ?_⟩
    have e2 : k * 2 ^ q = k * 2 ^ (q - 1074) * U := by
      obtain ⟨n, hn⟩ : ∃ n : Nat, n = 1074 := ⟨_, rfl⟩
      rw [← U_eq hn, Nat.mul_assoc, ← Nat.pow_add]
      congr 2
      omega
    rw [V_zero, e, e2, Nat.mul_mod_left]

/-! ## the order of words -/
theorem compare_int (a b : Int) : compare a b = if a < b then .lt else if a = b then .eq else .gt := rfl
theorem compare_scale (a b c : Int) (h : 0 < c) : compare (a * c) (b * c) = compare a b := by
  rw [compare_int, compare_int]
  have h1 : a * c < b * c ↔ a < b := Int.mul_lt_mul_right h
  have h2 : a * c = b * c ↔ a = b := Int.mul_eq_mul_right_iff (by omega)
  simp only [h1, h2]
/-- what a word that is no NaN and no infinity holds, with its sign -/
def SV (x : Nat) : Int := if x < 9223372036854775808 then (V x : Int) else -(V (x - 9223372036854775808) : Int)
theorem read_num (x : Nat) (hx : x % 9223372036854775808 < inf) (h64 : x < 18446744073709551616) : ∃ (s : Bool) (k q : Nat), double.read x = .number s k ((q : Int) - 1074) ∧ ∀ m, m ≤ q → signed s k (q - m) * ((2 ^ m : Nat) : Int) = SV x := by
  by_cases h : x < 9223372036854775808
  · rw [Nat.mod_eq_of_lt h] at hx
    obtain ⟨q, k, _, _, _, e, r⟩ := read_fin x hx
    refine ⟨false, k, q, r, fun m hm => ?_⟩
    rw [SV, if_pos h, signed_false, ← Int.natCast_mul, up_min k q m hm, e]
  · have e1 : x % 9223372036854775808 = x - 9223372036854775808 := by omega
    rw [e1] at hx
    obtain ⟨q, k, _, _, _, e, r⟩ := read_fin _ hx
    refine ⟨true, k, q, ?_, fun m hm => ?_⟩
    · rw [show x = 9223372036854775808 + (x - 9223372036854775808) from by omega, read_neg _ (by omega), r]; rfl
    · rw [SV, if_neg h, signed_true, Int.neg_mul, ← Int.natCast_mul, up_min k q m hm, e]
theorem order_num {x y : Nat} (hx : x % 9223372036854775808 < inf) (hx6 : x < 18446744073709551616) (hy : y % 9223372036854775808 < inf) (hy6 : y < 18446744073709551616) : double.order x y = some (compare (SV x) (SV y)) := by
  obtain ⟨s, k, q, r, e⟩ := read_num x hx hx6
  obtain ⟨s', k', q', r', e'⟩ := read_num y hy hy6
  have a1 : ((q : Int) - 1074 - min ((q : Int) - 1074) ((q' : Int) - 1074)).toNat = q - min q q' := by omega
  have a2 : ((q' : Int) - 1074 - min ((q : Int) - 1074) ((q' : Int) - 1074)).toNat = q' - min q q' := by omega
  unfold Format.order
  rw [r, r']
  simp only [Datum.order, a1, a2]
  rw [← e (min q q') (Nat.min_le_left _ _), ← e' (min q q') (Nat.min_le_right _ _), compare_scale _ _ _ (by exact_mod_cast Nat.two_pow_pos _)]
theorem order_fin {x y : Nat} (hx : x < inf) (hy : y < inf) : double.order x y = some (if x < y then .lt else if x = y then .eq else .gt) := by
  have h1 : x < 9223372036854775808 := by unfold inf at hx; omega
  have h2 : y < 9223372036854775808 := by unfold inf at hy; omega
  rw [order_num (by rw [Nat.mod_eq_of_lt h1]; exact hx) (by omega) (by rw [Nat.mod_eq_of_lt h2]; exact hy) (by omega), SV, SV, if_pos h1, if_pos h2, compare_int]
  have e1 : (V x : Int) < (V y : Int) ↔ x < y := by rw [Int.ofNat_lt]; exact V_lt_iff
  have e2 : (V x : Int) = (V y : Int) ↔ x = y := by rw [Int.ofNat_inj]; exact ⟨V_inj, fun h => by rw [h]⟩
  simp only [e1, e2]
theorem read_nan (x : Nat) (h : inf < x % 9223372036854775808) : ∃ s t, double.read x = .nan s t := by
  have e0 : double.signWeight = 9223372036854775808 := by decide
  have e1 : double.binade = 4503599627370496 := by decide
  have e2 : double.infRung = inf := by decide
  simp only [Format.read, e0, e1, e2]
  rw [if_neg (by unfold inf at h; omega), if_neg (by omega), if_neg (by omega)]
  exact ⟨_, _, rfl⟩
theorem order_nan_l {x : Nat} (y : Nat) (h : inf < x % 9223372036854775808) : double.order x y = none := by
  obtain ⟨s, t, e⟩ := read_nan x h
  unfold Format.order; rw [e]; rfl
theorem order_nan_r (x : Nat) {y : Nat} (h : inf < y % 9223372036854775808) : double.order x y = none := by
  obtain ⟨s, t, e⟩ := read_nan y h
  unfold Format.order; rw [e]; cases double.read x <;> rfl
theorem order_inf_l {y : Nat} (hy : y % 9223372036854775808 < inf) (hy6 : y < 18446744073709551616) : double.order inf y = some .gt := by
  obtain ⟨s', k', q', r', e'⟩ := read_num y hy hy6
  unfold Format.order; rw [read_inf, r']; rfl
theorem order_ninf_l {y : Nat} (hy : y % 9223372036854775808 < inf) (hy6 : y < 18446744073709551616) : double.order (9223372036854775808 + inf) y = some .lt := by
  obtain ⟨s', k', q', r', e'⟩ := read_num y hy hy6
  unfold Format.order; rw [read_neg _ (by decide), read_inf, r']; rfl
end Go.Proofs.Ytbldjegeaphocaa.flt
