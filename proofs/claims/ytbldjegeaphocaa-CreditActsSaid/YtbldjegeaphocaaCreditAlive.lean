/- credit: the chapter's example; CreditWhole. -/
import Derived.Test.YtbldjegeaphocaaCreditAt
namespace Go.Proofs.Ytbldjegeaphocaa.credit
open Go.RowKit under trap flt
set_option linter.unusedSimpArgs false
set_option linter.unusedVariables false

theorem small {b : Nat} (h0 : 0 < b) (h1 : b < w1) : wn b = 0 ∧ wp b = b := by
  have h : 0 < b ∧ b < w40 := ⟨h0, Nat.lt_trans h1 (by decide)⟩
  have hV : V b < U := by rw [← V_w1]; exact V_lt h1
  refine ⟨?_, ?_⟩
  · rw [← wn_mid h]; exact Nat.div_eq_of_lt hV
  · refine V_inj ?_
    rw [wp_V h, Nat.mod_eq_of_lt hV]
theorem fa1 : fadd 0 4604930618986332160 = 4604930618986332160 := by kernel_rfl
theorem fa2 : fadd 4604930618986332160 4604930618986332160 = 4609434218613702656 := by kernel_rfl
theorem fs2 : fsub 4609434218613702656 4607182418800017408 = 4602678819172646912 := by kernel_rfl
theorem earn_1 : Lg.zero.earn 4604930618986332160 = ⟨0, 4604930618986332160⟩ ∧ Lg.zero.earnN 4604930618986332160 = 0 := by
  obtain ⟨e1, e2⟩ := small (b := 4604930618986332160) (by decide) (by decide)
  have e : Lg.zero.sum 4604930618986332160 = 4604930618986332160 := by unfold Lg.sum; rw [e2]; exact fa1
  unfold Lg.earn Lg.earnN
  rw [e, e1, if_neg (by decide), if_neg (by decide)]
  exact ⟨rfl, rfl⟩
theorem earn_2 : Lg.earn ⟨0, 4604930618986332160⟩ 4604930618986332160 = ⟨1, 4602678819172646912⟩ ∧ Lg.earnN ⟨0, 4604930618986332160⟩ 4604930618986332160 = 1 := by
  obtain ⟨e1, e2⟩ := small (b := 4604930618986332160) (by decide) (by decide)
  have e : Lg.sum ⟨0, 4604930618986332160⟩ 4604930618986332160 = 4609434218613702656 := by unfold Lg.sum; rw [e2]; exact fa2
  unfold Lg.earn Lg.earnN
  rw [e, e1, if_pos (by decide), if_pos (by decide), fs2]
  exact ⟨rfl, rfl⟩
theorem alive_any (w : World) : Calls Try.prog 7 #[] w fun e w' => e = .returned (.bool true) ∧ Below w.heap.size w w' := by
  have hb0 := (Below.refl _ w).alloc (Nat.le_refl _) (.cells #[.int .i64 0, .float .f64 0] 27)
  have ha0 := LAt.new w 27
  have c1 := earn_any _ 0 _ Lg.zero_ok 4604930618986332160 (by decide) _ ha0
  have c2 := fun w' h => earn_any w.heap.size 0 _ (Lg.zero_ok.earn 4604930618986332160) 4604930618986332160 (by decide) w' h
  rw [earn_1.1, earn_1.2] at c1
  rw [earn_1.1, earn_2.1, earn_2.2] at c2
  have c3 := fun w' h => rest_any w.heap.size 0 ⟨1, 4602678819172646912⟩ w' h
  have c4 := fun w' h => balance_any w.heap.size 0 ⟨1, 4602678819172646912⟩ w' h
  have g := same_word (s := 4602678819172646912) (by decide)
  clear ha0
  go_enter Try.func7, Try.ntmps7
  go_wp2_with (first
    | (go_at_call 10; (with_reducible refine (c2 _ (LStep.at' s1)).mono ?_); rintro e w2 ⟨rfl, s2⟩; have hb2 := LStep.fresh hb0 (s1.trans s2) (Nat.le_refl _); have a2 := s2.at')
    | (go_at_call 10; (with_reducible refine c1.mono ?_); rintro e w1 ⟨rfl, s1⟩)
    | (go_at_call 17; (with_reducible refine (c3 _ a2).mono ?_); rintro e w3 ⟨rfl, rfl⟩)
    | (go_at_call 16; (with_reducible refine (c4 _ a2).mono ?_); rintro e w3 ⟨rfl, rfl⟩))
  go_ret
  exact ⟨rfl, hb2⟩
theorem order_self {b : Nat} (hb : b < 18446744073709551616) (h : b % 9223372036854775808 ≤ inf) : Ieee.double.order b b = some .eq := by
  rcases Nat.lt_or_eq_of_le h with hl | he
  · rw [order_num hl hb hl hb, compare_int, if_neg (by omega), if_pos rfl]
  · have : b = inf ∨ b = 9223372036854775808 + inf := by unfold inf at *; omega
    clear h he hb
    rcases this with rfl | rfl
    · decide
    · decide
/-- a float is a NaN, or not above 0, or above 0 -/
theorem cls {b : Nat} (hb : b < 18446744073709551616) :
    (FloatKind.f64.format.order b b = none ∧ FloatKind.f64.format.order b 0 = none ∧ wn b = 0) ∨ (FloatKind.f64.format.order b b = some .eq ∧ FloatKind.f64.format.order b 0 = some .lt ∧ wn b = 0) ∨
    (FloatKind.f64.format.order b b = some .eq ∧ FloatKind.f64.format.order b 0 = some .eq ∧ wn b = 0) ∨ (FloatKind.f64.format.order b b = some .eq ∧ FloatKind.f64.format.order b 0 = some .gt) := by
  show (Ieee.double.order b b = none ∧ Ieee.double.order b 0 = none ∧ _) ∨ (Ieee.double.order b b = _ ∧ Ieee.double.order b 0 = _ ∧ _) ∨ (Ieee.double.order b b = _ ∧ Ieee.double.order b 0 = _ ∧ _) ∨ (Ieee.double.order b b = _ ∧ Ieee.double.order b 0 = _)
  rcases Nat.lt_or_ge inf (b % 9223372036854775808) with hn | hn
  · exact .inl ⟨order_nan_l _ hn, order_nan_l _ hn, wn_low (by unfold w40 inf at *; omega) (by unfold w40 inf at *; omega)⟩
  · refine .inr ?_
    rw [order_self hb hn]
    by_cases h : 0 < b ∧ b < w40
    · exact .inr (.inr ⟨rfl, mid_gt h⟩)
    · by_cases h2 : w40 ≤ b ∧ b ≤ inf
      · refine .inr (.inr ⟨rfl, ?_⟩)
        have := high_gt h2
        exact (by simpa using this : FloatKind.f64.format.order b 0 = some .gt)
      · have h3 := low_gt h h2 hb
        have h4 := wn_low h h2
        change (Ieee.double.order b 0 == some .gt) = false at h3
        have hne : Ieee.double.order b 0 ≠ none := by
          rcases Nat.lt_or_eq_of_le hn with hl | he
          · rw [order_num hl hb (by decide) (by decide)]; simp
          · have : b = inf ∨ b = 9223372036854775808 + inf := by unfold inf at *; omega
            rcases this with rfl | rfl
            · rw [order_inf_l (by decide) (by decide)]; simp
            · rw [order_ninf_l (by decide) (by decide)]; simp
        rw [h4]
        match ho : Ieee.double.order b 0 with
        | none => exact absurd ho hne
        | some .lt => exact .inl ⟨rfl, rfl, rfl⟩
        | some .eq => exact .inr (.inl ⟨rfl, rfl, rfl⟩)
        | some .gt => rw [ho] at h3; cases h3
theorem whole_law (b : Nat) (hb : b < 18446744073709551616) (w : World) : Calls Try.prog 4 #[.float .f64 b] w fun e w' => e = .returned (.bool true) ∧ Below w.heap.size w w' := by
  have hA := alive_any w
  have c1 := fun w => whole_any b hb w
  have c2 := fun w => rwhole_any b hb w
  have hp := wp_lt b
  have hi : wp b < inf := Nat.lt_trans hp (by decide)
  have g1 : FloatKind.f64.format.order (wp b) (wp b) = some .eq := order_self (by unfold inf at hi; omega) (by rw [Nat.mod_eq_of_lt (by unfold inf at hi; omega)]; exact Nat.le_of_lt hi)
  have g2 := ge_none hi
  have g3 := lt_one hp
  clear hp hi
  generalize wp b = p at *
  rcases cls hb with ⟨h1, h2, h3⟩ | ⟨h1, h2, h3⟩ | ⟨h1, h2, h3⟩ | ⟨h1, h2⟩
  all_goals
    generalize wn b = n at *
    go_enter Try.func4, Try.ntmps4
    go_wp2_with (first
      | (go_at_call 7; refine hA.mono ?_; rintro e w1 ⟨rfl, hb1⟩)
      | (go_at_call 18; refine (c1 _).mono ?_; rintro e w2 ⟨rfl, rfl⟩)
      | (go_at_call 19; refine (c2 _).mono ?_; rintro e w2 ⟨rfl, rfl⟩))
    go_ret
    exact ⟨rfl, hb1⟩
end Go.Proofs.Ytbldjegeaphocaa.credit
