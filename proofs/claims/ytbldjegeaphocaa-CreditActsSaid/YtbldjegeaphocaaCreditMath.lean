/- credit: a float's whole part, what is left, and what a ledger holds. No program is named. -/
import Derived.Test.YtbldjegeaphocaaFloatMath
namespace Go.Proofs.Ytbldjegeaphocaa.credit
open flt Ieee
set_option linter.unusedVariables false

/-- the words of 1, of 2, of MaxCount -/
abbrev w1 : Nat := 4607182418800017408
abbrev w2 : Nat := 4611686018427387904
abbrev w40 : Nat := 4787326403894837248
theorem U_eq_40 {n : Nat} (hn : n = 1062) : 2 ^ 40 * 2 ^ (12 + n) = 1099511627776 * U := by rw [U_eq (show 12 + n = 1074 by omega)]
theorem V_w1 : V w1 = U := by
  obtain ⟨n, hn⟩ : ∃ n : Nat, n = 1022 := ⟨_, rfl⟩
  have := V_of n 4503599627370496 (by decide) (.inr (by decide))
  rw [show n * 4503599627370496 + 4503599627370496 = w1 from by subst hn; decide] at this
  rw [this, pow52, U_split (by omega)]
theorem V_w40 : V w40 = 1099511627776 * U := by
  obtain ⟨n, hn⟩ : ∃ n : Nat, n = 1062 := ⟨_, rfl⟩
  have := V_of n 4503599627370496 (by decide) (.inr (by decide))
  rw [show n * 4503599627370496 + 4503599627370496 = w40 from by subst hn; decide] at this
  rw [this, show (4503599627370496 : Nat) = 2 ^ 40 * 2 ^ 12 from by decide, Nat.mul_assoc, ← Nat.pow_add 2 12 n, U_eq_40 hn]
/-- the last word below 2 -/
theorem V_w2p : V (w2 - 1) + 2 ^ 1022 = 2 * U := by
  obtain ⟨n, hn⟩ : ∃ n : Nat, n = 1022 := ⟨_, rfl⟩
  have := V_of n 9007199254740991 (by decide) (.inr (by decide))
  rw [show n * 4503599627370496 + 9007199254740991 = w2 - 1 from by subst hn; decide] at this
  have e : U = 4503599627370496 * 2 ^ n := by rw [pow52, U_split (by omega)]
  rw [← hn, this, e]
  omega
theorem V_w1p : V (w1 - 1) + 2 ^ 1021 = U := by
  obtain ⟨n, hn⟩ : ∃ n : Nat, n = 1021 := ⟨_, rfl⟩
  have := V_of n 9007199254740991 (by decide) (.inr (by decide))
  rw [show n * 4503599627370496 + 9007199254740991 = w1 - 1 from by subst hn; decide] at this
  have e : U = 9007199254740992 * 2 ^ n := by rw [pow53, U_split (by omega)]
  rw [← hn, this, e]
  omega
theorem two_1022 : 2 ^ 1022 = 2 * 2 ^ 1021 := by
  obtain ⟨n, hn⟩ : ∃ n : Nat, n = 1021 := ⟨_, rfl⟩
  rw [show (1022 : Nat) = n + 1 from by omega, ← hn, Nat.pow_succ, Nat.mul_comm]

/-- of a word: how many whole ones, and the word of what is left -/
def wn (b : Nat) : Nat := if 0 < b ∧ b < w40 then V b / U else if w40 ≤ b ∧ b ≤ inf then 1099511627776 else 0
noncomputable def wp (b : Nat) : Nat := if 0 < b ∧ b < w40 then Classical.choose (rem_rep b) else 0
theorem wp_V {b : Nat} (h : 0 < b ∧ b < w40) : V (wp b) = V b % U := by rw [wp, if_pos h]; exact Classical.choose_spec (rem_rep b)
theorem wp_lt (b : Nat) : wp b < w1 := by
  by_cases h : 0 < b ∧ b < w40
  · refine V_lt_iff.1 ?_
    rw [wp_V h, V_w1]; exact Nat.mod_lt _ U_pos
  · rw [wp, if_neg h]; decide
theorem wn_lt {b : Nat} (h : 0 < b ∧ b < w40) : V b / U < 1099511627776 := by
  refine Nat.div_lt_of_lt_mul ?_
  have := V_lt h.2
  rw [V_w40, Nat.mul_comm] at this
  exact this
theorem wn_le (b : Nat) : wn b ≤ 1099511627776 := by
  unfold wn; split
  · rename_i h; exact Nat.le_of_lt (wn_lt h)
  · split <;> omega

/-! ### what the walks meet -/
theorem inf_lt {x : Nat} (h : x < inf) : x % 9223372036854775808 < inf := by rw [Nat.mod_eq_of_lt (by unfold inf at h; omega)]; exact h
theorem word_lt {x : Nat} (h : x < inf) : x < 18446744073709551616 := by unfold inf at h; omega
theorem mid_lt {b : Nat} (h : b < w40) : b < inf := by unfold inf; unfold w40 at h; omega
theorem mid_ge {b : Nat} (h : 0 < b ∧ b < w40) : FloatKind.f64.format.order b w40 = some .lt := by
  show double.order b w40 = _
  rw [order_fin (mid_lt h.2) (by decide), if_pos h.2]
theorem mid_gt {b : Nat} (h : 0 < b ∧ b < w40) : FloatKind.f64.format.order b 0 = some .gt := by
  show double.order b 0 = _
  rw [order_fin (mid_lt h.2) (by decide), if_neg (by omega), if_neg (by omega)]
theorem mid_int {b : Nat} (h : 0 < b ∧ b < w40) : floatToIntVal .f64 b .i64 = some ((V b / U : Nat) : Int) := by
  have := wn_lt h
  have e : (FloatKind.f64.decode b).toInt .zero = some ((V b / U : Nat) : Int) := toInt_fin b (mid_lt h.2)
  have h1 : IntKind.i64.min ≤ ((V b / U : Nat) : Int) := Int.le_trans (b := 0) (by decide) (Int.natCast_nonneg _)
  have h2 : ((V b / U : Nat) : Int) ≤ IntKind.i64.max := Int.le_trans (b := 1099511627776) (by clear e h1; generalize V b / U = t at this ⊢; omega) (by decide)
  unfold floatToIntVal
  rw [e]
  exact if_pos ⟨h1, h2⟩
/-- the word of a whole number up to MaxCount -/
theorem int_word (n : Nat) (h : n ≤ 1099511627776) : ∃ z, z < inf ∧ floatOfInt .f64 (n : Int) = z ∧ V z = n * U := by
  obtain ⟨z, hz⟩ := rep n E (by omega)
  have hU : V z = n * U := hz
  have hl : z ≤ w40 := by
    refine V_le_iff.1 ?_
    rw [V_w40, hU]; exact Nat.mul_le_mul_right _ h
  have hi : z < inf := Nat.lt_of_le_of_lt hl (by decide)
  exact ⟨z, hi, ofInt_is n z (Nat.le_of_lt hi) hU, hU⟩
theorem mid_part {b : Nat} (h : 0 < b ∧ b < w40) : floatBits .sub .f64 b (floatOfInt .f64 ((V b / U : Nat) : Int)) = some (wp b) := by
  obtain ⟨z, hz, he, hV⟩ := int_word (V b / U) (Nat.le_of_lt (wn_lt h))
  rw [he]
  have := wp_lt b
  unfold w1 at this
  refine sub_is (mid_lt h.2) hz (by unfold inf; omega) ?_
  rw [wp_V h, hV, Nat.mul_comm]; exact Nat.mod_add_div _ _
/-- a word that isn't between 0 and MaxCount: how it stands to MaxCount, to 0 -/
theorem out_ge {b : Nat} (h : ¬ (0 < b ∧ b < w40)) (h6 : b < 18446744073709551616) : (FloatKind.f64.format.order b w40 == some .gt || FloatKind.f64.format.order b w40 == some .eq) = decide (w40 ≤ b ∧ b ≤ inf) := by
  show (double.order b w40 == some .gt || double.order b w40 == some .eq) = _
  by_cases h2 : w40 ≤ b ∧ b ≤ inf
  · rw [decide_eq_true h2]
    rcases Nat.lt_or_eq_of_le h2.2 with hl | rfl
    · rw [order_fin hl (by decide), if_neg (by omega)]
      split <;> rfl
    · rw [order_inf_l (by decide) (by decide)]; rfl
  · rw [decide_eq_false h2]
    rcases Nat.lt_trichotomy (b % 9223372036854775808) inf with hl | he | hl
    · rw [order_num hl h6 (by decide) (by decide), compare_int]
      have : SV b < SV w40 := by
        unfold SV
        rw [if_pos (show w40 < 9223372036854775808 by decide)]
        have hp : 0 < V w40 := by rw [V_w40]; exact Nat.mul_pos (by decide) U_pos
        split
        · rename_i h3
          rw [Nat.mod_eq_of_lt h3] at hl
          have : b = 0 := by omega
          rw [this, V_zero]; exact_mod_cast hp
        · have : (0 : Int) ≤ (V (b - 9223372036854775808) : Int) := Int.natCast_nonneg _
          omega
      rw [if_pos this]; rfl
    · have : b = 9223372036854775808 + inf := by unfold inf at *; omega
      rw [this, order_ninf_l (by decide) (by decide)]; rfl
    · rw [order_nan_l _ hl]; rfl
theorem low_gt {b : Nat} (h : ¬ (0 < b ∧ b < w40)) (h2 : ¬ (w40 ≤ b ∧ b ≤ inf)) (h6 : b < 18446744073709551616) : (FloatKind.f64.format.order b 0 == some .gt) = false := by
  show (double.order b 0 == some .gt) = _
  rcases Nat.lt_trichotomy (b % 9223372036854775808) inf with hl | he | hl
  · rw [order_num hl h6 (by decide) (by decide), compare_int]
    have : SV b ≤ SV 0 := by
      unfold SV
      rw [if_pos (show 0 < 9223372036854775808 by decide), V_zero]
      split
      · rename_i h3
        rw [Nat.mod_eq_of_lt h3] at hl
        have : b = 0 := by omega
        rw [this, V_zero]; decide
      · have : (0 : Int) ≤ (V (b - 9223372036854775808) : Int) := Int.natCast_nonneg _
        show -(V (b - 9223372036854775808) : Int) ≤ 0
        omega
    split
    · rfl
    · rw [if_pos (by omega)]; rfl
  · have : b = 9223372036854775808 + inf := by unfold inf at *; omega
    rw [this, order_ninf_l (by decide) (by decide)]; rfl
  · rw [order_nan_l _ hl]; rfl
theorem high_gt {b : Nat} (h2 : w40 ≤ b ∧ b ≤ inf) : (FloatKind.f64.format.order b 0 == some .gt) = true := by
  show (double.order b 0 == some .gt) = _
  rcases Nat.lt_or_eq_of_le h2.2 with hl | rfl
  · rw [order_fin hl (by decide), if_neg (by omega), if_neg (by unfold w40 at h2; omega)]; rfl
  · rw [order_inf_l (by decide) (by decide)]; rfl

/-! ### rests -/
def fadd (x y : Nat) : Nat := (double.add x y).getD 0
def fsub (x y : Nat) : Nat := (double.sub x y).getD 0
theorem rest_add {r p : Nat} (hr : r < w1) (hp : p < w1) : floatBits .add .f64 r p = some (fadd r p) ∧ fadd r p < w2 := by
  have h1 : w1 < inf := by decide
  obtain ⟨s, hs, _, up, _⟩ := add_at (x := r) (y := p) (by omega) (by omega)
  have e : fadd r p = s := by unfold fadd; rw [hs]; rfl
  rw [e]
  refine ⟨hs, ?_⟩
  have a1 : V r ≤ V (w1 - 1) := V_le (by omega)
  have a2 : V p ≤ V (w1 - 1) := V_le (by omega)
  have := up (w2 - 1) (by
    have b1 := V_w1p
    have b2 := V_w2p
    rw [two_1022] at b2
    generalize 2 ^ 1021 = T at *
    omega)
  unfold w2 at *
  omega
theorem rest_sub {s : Nat} (h1 : w1 ≤ s) (h2 : s < w2) : floatBits .sub .f64 s w1 = some (fsub s w1) ∧ fsub s w1 < w1 := by
  have hi : s < inf := by unfold w2 at h2; unfold inf; omega
  obtain ⟨n, hn⟩ : ∃ n : Nat, n = 1022 := ⟨_, rfl⟩
  have hV := V_of n (s - w1 + 4503599627370496) (by unfold w1 w2 at *; omega) (.inr (by omega))
  rw [show n * 4503599627370496 + (s - w1 + 4503599627370496) = s from by unfold w1 w2 at *; omega] at hV
  have hU : U = 4503599627370496 * 2 ^ n := by rw [pow52, U_split (by omega)]
  obtain ⟨z, hz⟩ := rep (s - w1) n (by unfold w1 w2 at *; omega)
  have hz1 : V z + V w1 = V s := by rw [hz, V_w1, hU, hV, Nat.add_mul]
  have hzl : z < w1 := by
    refine V_lt_iff.1 ?_
    rw [V_w1, hz, hU]
    exact Nat.mul_lt_mul_of_pos_right (by unfold w1 w2 at *; omega) (Nat.two_pow_pos n)
  have := sub_is (x := s) (y := w1) (z := z) hi (by decide) (by unfold inf; unfold w1 at hzl; omega) hz1
  have e : fsub s w1 = z := by unfold fsub; rw [this]; rfl
  rw [e]
  exact ⟨this, hzl⟩
theorem ge_one {s : Nat} (h : s < inf) : (FloatKind.f64.format.order s w1 == some .gt || FloatKind.f64.format.order s w1 == some .eq) = decide (w1 ≤ s) := by
  show (double.order s w1 == some .gt || double.order s w1 == some .eq) = _
  rw [order_fin h (by decide)]
  by_cases h1 : w1 ≤ s
  · rw [decide_eq_true h1, if_neg (by omega)]; split <;> rfl
  · rw [decide_eq_false h1, if_pos (by omega)]; rfl
theorem same_word {s : Nat} (h : s < inf) : (FloatKind.f64.format.order s s == some .eq) = true := by
  show (double.order s s == some .eq) = _
  rw [order_fin h h, if_neg (by omega), if_pos rfl]; rfl
theorem ge_none {s : Nat} (h : s < inf) : (FloatKind.f64.format.order s 0 == some .gt || FloatKind.f64.format.order s 0 == some .eq) = true := by
  show (double.order s 0 == some .gt || double.order s 0 == some .eq) = _
  rw [order_fin h (by decide), if_neg (by omega)]; split <;> rfl
theorem lt_one {s : Nat} (h : s < w1) : (FloatKind.f64.format.order s w1 == some .lt) = true := by
  show (double.order s w1 == some .lt) = _
  rw [order_fin (by unfold w1 at h; unfold inf; omega) (by decide), if_pos h]; rfl

/-! ### the ledger -/
structure Lg where
  b : Int
  r : Nat
structure Lg.Ok (l : Lg) : Prop where
  b0 : 0 ≤ l.b
  b1 : l.b ≤ 1099511627776
  r1 : l.r < w1
/-- how many of n credits are kept -/
def dep (b n : Int) : Int := max 0 (min n (1099511627776 - b))
theorem dep_at {b : Int} (n : Int) (h : b ≤ 1099511627776) : 0 ≤ dep b n ∧ dep b n ≤ 1099511627776 - b := by unfold dep; omega
def Lg.zero : Lg := ⟨0, 0⟩
theorem Lg.zero_ok : Lg.zero.Ok := ⟨by decide, by decide, by decide⟩
def Lg.dep (l : Lg) (n : Int) : Lg := ⟨l.b + credit.dep l.b n, l.r⟩
theorem Lg.Ok.dep {l : Lg} (h : l.Ok) (n : Int) : (l.dep n).Ok := by
  obtain ⟨h0, h1, h2⟩ := h
  have := dep_at n h1
  exact ⟨by show 0 ≤ l.b + _; omega, by show l.b + _ ≤ _; omega, h2⟩
noncomputable def Lg.sum (l : Lg) (f : Nat) : Nat := fadd l.r (wp f)
noncomputable def Lg.earnN (l : Lg) (f : Nat) : Int := if w1 ≤ l.sum f then credit.dep l.b (wn f) + credit.dep (l.dep (wn f)).b 1 else credit.dep l.b (wn f)
noncomputable def Lg.earn (l : Lg) (f : Nat) : Lg := if w1 ≤ l.sum f then ⟨((l.dep (wn f)).dep 1).b, fsub (l.sum f) w1⟩ else ⟨(l.dep (wn f)).b, l.sum f⟩
theorem Lg.Ok.earn {l : Lg} (h : l.Ok) (f : Nat) : (l.earn f).Ok := by
  have hd := h.dep (wn f)
  have hd2 := hd.dep 1
  obtain ⟨_, hs⟩ := rest_add h.r1 (wp_lt f)
  unfold Lg.earn
  split
  · rename_i h1
    exact ⟨hd2.b0, hd2.b1, (rest_sub h1 hs).2⟩
  · rename_i h1
    exact ⟨hd.b0, hd.b1, by show l.sum f < w1; omega⟩
theorem Lg.earn_b (l : Lg) (f : Nat) : (l.earn f).b = l.b + l.earnN f := by
  unfold Lg.earn Lg.earnN
  split
  · show l.b + credit.dep l.b (wn f) + _ = _
    omega
  · rfl
theorem Lg.Ok.earnN {l : Lg} (h : l.Ok) (f : Nat) : 0 ≤ l.earnN f ∧ l.earnN f ≤ 1099511627776 := by
  have h1 := dep_at (wn f) h.b1
  have h2 := dep_at 1 (h.dep (wn f)).b1
  have h3 : (l.dep (wn f)).b = l.b + credit.dep l.b (wn f) := rfl
  have := h.b0
  unfold Lg.earnN
  split <;> omega
def Lg.spend (l : Lg) (n : Int) : Lg := if 0 ≤ n ∧ n ≤ l.b then ⟨l.b - n, l.r⟩ else l
def takes (b n : Int) : Int := max 0 (min n b)
def Lg.take (l : Lg) (n : Int) : Lg := ⟨l.b - takes l.b n, l.r⟩
theorem Lg.Ok.spend {l : Lg} (h : l.Ok) (n : Int) : (l.spend n).Ok := by
  unfold Lg.spend
  split
  · exact ⟨by show 0 ≤ l.b - n; omega, by have := h.b1; show l.b - n ≤ _; omega, h.r1⟩
  · exact h
theorem takes_at {b : Int} (n : Int) (h : 0 ≤ b) : 0 ≤ takes b n ∧ takes b n ≤ b := by unfold takes; omega
theorem Lg.Ok.take {l : Lg} (h : l.Ok) (n : Int) : (l.take n).Ok := by
  have := takes_at n h.b0
  exact ⟨by show 0 ≤ l.b - _; omega, by have := h.b1; show l.b - _ ≤ _; omega, h.r1⟩
end Go.Proofs.Ytbldjegeaphocaa.credit
