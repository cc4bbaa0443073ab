/- credit: CreditParts. -/
import Derived.Test.YtbldjegeaphocaaCreditAlive
namespace Go.Proofs.Ytbldjegeaphocaa.credit
open Go.RowKit under trap flt
set_option linter.unusedSimpArgs false
set_option linter.unusedVariables false

/-- the word of 1/2 to a power -/
def pw (p : Nat) : Nat := (1023 - p) * 4503599627370496
theorem half (p : Nat) (h : p < 20) : floatBits .quo .f64 (pw p) w2 = some (pw (p + 1)) := by
  have : ∀ p : Fin 20, Ieee.double.div ((1023 - p.val) * 4503599627370496) 4611686018427387904 = some ((1023 - (p.val + 1)) * 4503599627370496) := by decide +kernel
  exact this ⟨p, h⟩
theorem pw_lt (p : Nat) (h : p ≤ 20) : 0 < pw p ∧ pw p ≤ w1 := by unfold pw w1; omega
theorem pw_V (p : Nat) (h : p ≤ 20) : V (pw p) = 2 ^ (1074 - p) := by
  have e := V_of (1022 - p) 4503599627370496 (by decide) (.inr (by decide))
  rw [show (1022 - p) * 4503599627370496 + 4503599627370496 = pw p from by unfold pw; omega] at e
  rw [e, pow52, ← Nat.pow_add]; congr 1; omega
theorem U_part (p : Nat) (h : p ≤ 20) : 2 ^ p * 2 ^ (1074 - p) = U := U_split (by omega)
/-- the word of r such parts -/
noncomputable def frac (p r : Nat) : Nat := if h : r < 9007199254740992 then Classical.choose (rep r (1074 - p) h) else 0
theorem frac_V (p r : Nat) (h : r < 9007199254740992) : V (frac p r) = r * 2 ^ (1074 - p) := by unfold frac; rw [dif_pos h]; exact Classical.choose_spec (rep r (1074 - p) h)
theorem frac_zero (p : Nat) : frac p 0 = 0 := V_inj (by rw [frac_V p 0 (by decide), V_zero, Nat.zero_mul])
theorem frac_lt {p r : Nat} (hp : p ≤ 20) (h : r < 2 ^ p) : frac p r < w1 := by
  have h2 : r < 9007199254740992 := Nat.lt_of_lt_of_le h (Nat.le_trans (Nat.pow_le_pow_right (by decide) hp) (by decide))
  refine V_lt_iff.1 ?_
  rw [V_w1, frac_V p r h2, ← U_part p hp]
  exact Nat.mul_lt_mul_of_pos_right h (Nat.two_pow_pos _)
theorem frac_one {p : Nat} (hp : p ≤ 20) : frac p (2 ^ p) = w1 := by
  have h2 : 2 ^ p < 9007199254740992 := Nat.lt_of_le_of_lt (Nat.pow_le_pow_right (by decide) hp) (by decide)
  refine V_inj ?_
  rw [V_w1, frac_V p _ h2, U_part p hp]
/-- the ledger behind j such parts -/
noncomputable def parts (p j : Nat) : Lg := ⟨((j / 2 ^ p : Nat) : Int), frac p (j % 2 ^ p)⟩
theorem parts_ok (p j : Nat) (hp : p ≤ 20) (hj : j ≤ 3000) : (parts p j).Ok := by
  have h1 : j / 2 ^ p ≤ j := Nat.div_le_self _ _
  refine ⟨Int.natCast_nonneg _, ?_, frac_lt hp (Nat.mod_lt _ (Nat.two_pow_pos p))⟩
  show ((j / 2 ^ p : Nat) : Int) ≤ 1099511627776
  generalize j / 2 ^ p = q at *
  omega
theorem div_next (j m : Nat) (hm : 0 < m) : (j % m + 1 < m ∧ (j + 1) / m = j / m ∧ (j + 1) % m = j % m + 1) ∨ (j % m + 1 = m ∧ (j + 1) / m = j / m + 1 ∧ (j + 1) % m = 0) := by
  have h := Nat.div_add_mod j m
  have hl := Nat.mod_lt j hm
  rcases Nat.lt_or_eq_of_le (Nat.succ_le_of_lt hl) with h1 | h1
  · refine .inl ⟨h1, ?_, ?_⟩
    · conv => lhs; rw [← h, Nat.add_assoc, Nat.mul_add_div hm, Nat.div_eq_of_lt h1]
      rfl
    · conv => lhs; rw [← h, Nat.add_assoc, Nat.mul_add_mod, Nat.mod_eq_of_lt h1]
  · have e : j + 1 = m * (j / m + 1) := by rw [Nat.mul_add, Nat.mul_one]; omega
    refine .inr ⟨h1, ?_, ?_⟩
    · rw [e, Nat.mul_div_cancel_left _ hm]
    · rw [e, Nat.mul_mod_right]
theorem whole_one : wn w1 = 1 ∧ wp w1 = 0 := by
  have h : 0 < w1 ∧ w1 < w40 := by decide
  refine ⟨?_, V_inj ?_⟩
  · rw [← wn_mid h, V_w1, Nat.div_self U_pos]
  · rw [wp_V h, V_w1, Nat.mod_self, V_zero]
theorem fadd_is {x y z : Nat} (hx : x < inf) (hy : y < inf) (hz : z ≤ inf) (h : V z = V x + V y) : fadd x y = z := by unfold fadd; rw [add_is hx hy hz h]; rfl
theorem parts_step (p j : Nat) (hp : p < 20) (hj : j < 3000) : (parts p j).earn (pw p) = parts p (j + 1) ∧ (parts p j).earnN (pw p) = ((j + 1) / 2 ^ p : Nat) - ((j / 2 ^ p : Nat) : Int) := by
  have hok := parts_ok p j (by omega) (by omega)
  rcases Nat.eq_zero_or_pos p with rfl | h0
  · have e1 : pw 0 = w1 := by decide
    have e2 : ∀ j, parts 0 j = ⟨j, 0⟩ := fun j => by unfold parts; rw [Nat.pow_zero, Nat.div_one, Nat.mod_one, frac_zero]
    have e3 : (⟨j, 0⟩ : Lg).sum w1 = 0 := by unfold Lg.sum; rw [whole_one.2]; exact fadd_is (show (0 : Nat) < inf by decide) (by decide) (by decide) (show V 0 = V 0 + V 0 by rw [V_zero])
    rw [e1, e2, e2]
    unfold Lg.earn Lg.earnN
    rw [e3, whole_one.1, if_neg (by decide), if_neg (by decide), Nat.pow_zero, Nat.div_one, Nat.div_one]
    have e4 : dep (j : Int) ((1 : Nat) : Int) = 1 := by unfold dep; omega
    refine ⟨?_, ?_⟩
    · show (⟨(j : Int) + dep (j : Int) ((1 : Nat) : Int), 0⟩ : Lg) = _
      rw [e4]; congr 1
    · show dep (j : Int) ((1 : Nat) : Int) = _
      rw [e4]; omega
  · have hlt : pw p < w1 := by unfold pw w1; omega
    obtain ⟨s1, s2⟩ := small (pw_lt p (by omega)).1 hlt
    have h2p : 2 ^ p ≤ 1048576 := Nat.le_trans (Nat.pow_le_pow_right (by decide) (Nat.le_of_lt hp)) (by decide)
    have hm := Nat.mod_lt j (Nat.two_pow_pos p)
    have hr : j % 2 ^ p + 1 < 9007199254740992 := by omega
    have hf1 := frac_lt (p := p) (by omega) hm
    have hsl : frac p (j % 2 ^ p + 1) ≤ w1 := by
      rcases Nat.lt_or_eq_of_le (Nat.succ_le_of_lt hm) with h | h
      · exact Nat.le_of_lt (frac_lt (by omega) h)
      · have : j % 2 ^ p + 1 = 2 ^ p := h
        rw [this, frac_one (by omega)]; exact Nat.le_refl _
    have e3 : (parts p j).sum (pw p) = frac p (j % 2 ^ p + 1) := by
      unfold Lg.sum; rw [s2]
      refine fadd_is (Nat.lt_trans hf1 (by decide)) (Nat.lt_trans hlt (by decide)) (Nat.le_trans hsl (by decide)) ?_
      show _ = V (frac p (j % 2 ^ p)) + _
      rw [frac_V p _ hr, frac_V p _ (by omega), pw_V p (by omega), Nat.add_mul, Nat.one_mul]
    have hq : j / 2 ^ p ≤ j := Nat.div_le_self _ _
    unfold Lg.earn Lg.earnN
    rw [e3, s1]
    have e4 : dep (parts p j).b ((0 : Nat) : Int) = 0 := by
      have h1 := hok.b0
      have h2 := hok.b1
      unfold dep; omega
    have e5 : ((parts p j).dep ((0 : Nat) : Int)).b = ((j / 2 ^ p : Nat) : Int) := by
      show (parts p j).b + dep (parts p j).b ((0 : Nat) : Int) = _
      rw [e4, Int.add_zero]; rfl
    have e6 : dep ((j / 2 ^ p : Nat) : Int) 1 = 1 := by generalize j / 2 ^ p = q at *; unfold dep; omega
    rcases div_next j (2 ^ p) (Nat.two_pow_pos p) with ⟨h1, h2, h3⟩ | ⟨h1, h2, h3⟩
    · have hns := frac_lt (p := p) (r := j % 2 ^ p + 1) (by omega) h1
      rw [if_neg (Nat.not_le.2 hns), if_neg (Nat.not_le.2 hns), e4, e5, h2]
      refine ⟨?_, by omega⟩
      unfold parts; rw [h2, h3]
    · rw [h1, frac_one (by omega), if_pos (Nat.le_refl _), if_pos (Nat.le_refl _), e4, e5, e6, h2]
      refine ⟨?_, by generalize j / 2 ^ p = q at *; omega⟩
      have e7 : fsub w1 w1 = 0 := by unfold fsub; rw [sub_is (z := 0) (by decide) (by decide) (by decide) (by rw [V_zero, Nat.zero_add])]; rfl
      have e8 : (((parts p j).dep ((0 : Nat) : Int)).dep 1).b = ((j / 2 ^ p + 1 : Nat) : Int) := by
        show ((parts p j).dep ((0 : Nat) : Int)).b + dep ((parts p j).dep ((0 : Nat) : Int)).b 1 = _
        rw [e5, e6]; rfl
      rw [e7, e8]
      unfold parts; rw [h2, h3, frac_zero]
/-- r parts, by a float's product -/
theorem parts_mul (p r : Nat) (hp : p < 20) (h : r < 2 ^ p) : floatBits .mul .f64 (floatOfInt .f64 (r : Int)) (pw p) = some (frac p r) := by
  have h2p : 2 ^ p ≤ 1048576 := Nat.le_trans (Nat.pow_le_pow_right (by decide) (Nat.le_of_lt hp)) (by decide)
  obtain ⟨z, hz, e, hV⟩ := int_word r (by omega)
  have hf := frac_lt (p := p) (by omega) h
  have hw := (pw_lt p (by omega)).2
  rw [e]
  refine mul_is hz (Nat.lt_of_le_of_lt hw (by decide)) (Nat.le_trans (Nat.le_of_lt hf) (by decide)) ?_
  rw [hV, frac_V p r (by omega), pw_V p (by omega), Nat.mul_right_comm]
theorem shl_at (n p : Nat) : (n : Int) - ((n / 2 ^ p : Nat) : Int) * 2 ^ p = ((n % 2 ^ p : Nat) : Int) := by
  have h := Nat.div_add_mod n (2 ^ p)
  have e : ((2 ^ p : Nat) : Int) = 2 ^ p := by simp
  rw [← e, ← Int.natCast_mul, Nat.mul_comm]
  generalize 2 ^ p * (n / 2 ^ p) = t at *
  omega
theorem takes_all {g k : Int} (h0 : 0 ≤ g) (h : g ≤ k) : takes g k = g := by unfold takes; omega
/-- the state behind j parts -/
structure PartsOk (w : World) (B p j : Nat) (W : World) : Prop where
  at' : LAt B 0 (parts p j) W
  below : Below w.heap.size w W
theorem small_mod (z : Int) (m : Nat) (h0 : 0 < m) (hm : m ≤ 3000) : ∃ k : Nat, k < m ∧ wrap64 ((IntKind.u64.wrap z).tmod (m : Int)) = (k : Int) := by
  rw [IntKind.wrap_u64]
  have h1 : 0 ≤ z % 18446744073709551616 := Int.emod_nonneg _ (by decide)
  rw [Int.tmod_eq_emod_of_nonneg h1]
  generalize z % 18446744073709551616 = t at *
  have h2 := Int.emod_nonneg t (b := (m : Int)) (by omega)
  have h3 := Int.emod_lt_of_pos t (b := (m : Int)) (by omega)
  refine ⟨(t % (m : Int)).toNat, by omega, ?_⟩
  unfold wrap64
  omega
set_option maxHeartbeats 4000000 in
set_option maxRecDepth 100000 in
theorem parts_law (x y : Int) (w : World) : Calls Try.prog 6 #[.int .i64 x, .int .i64 y] w fun e w' => e = .returned (.bool true) ∧ Below w.heap.size w w' := by
  have hA := alive_any w
  obtain ⟨n, hn, hx⟩ : ∃ n : Nat, n < 3000 ∧ wrap64 ((IntKind.u64.wrap x).tmod 3000) = (n : Int) := small_mod x 3000 (by decide) (by decide)
  obtain ⟨p, hp, hy⟩ : ∃ n : Nat, n < 20 ∧ wrap64 ((IntKind.u64.wrap y).tmod 20) = (n : Int) := small_mod y 20 (by decide) (by decide)
  go_enter Try.func6, Try.ntmps6
  go_wp2_with (first
    | (go_at_call 7; refine hA.mono ?_; rintro e w1 ⟨rfl, hb1⟩))
  rw [hx, hy]
  have HL := Lib.hid (LAt.new w1 27)
  have HB := Lib.hid (hb1.alloc hb1.size (.cells #[.int .i64 0, .float .f64 0] 27))
  have HN := Lib.hid hb1.size
  clear hb1 hx hy hA
  generalize w1.alloc (.cells #[.int .i64 0, .float .f64 0] 27) = w2 at *
  generalize w1.heap.size = B at *
  go_loopw [8, 25] (fun v i wr => ∃ j : Nat, j ≤ p ∧ v = .float .f64 (pw j) ∧ i = .int .i64 j ∧ wr = w2) (fun v i _ => p - (intOf i).toNat)
  case atStart => exact ⟨0, by omega, rfl, rfl, rfl⟩
  case round =>
    obtain ⟨j, hj, rfl, rfl, rfl⟩ := hrel
    rcases Nat.lt_or_ge j p with hjl | hjl
    · have hji : (j : Int) < (p : Int) := by omega
      have hw1 : j + 1 ≤ p := by omega
      have f1 := fun (t : TypeId) (w : World) => run_float_arith (P := Try.prog) w .quo t .f64 _ _ _ (half j (by omega))
      go_wp2
      go_roundw
      case rel => exact ⟨j + 1, hw1, rfl, by simp⟩
      case measure => simp [intOf]; omega
    · obtain rfl : j = p := by omega
      have hji : ¬ (j : Int) < (j : Int) := by omega
      go_wp2
      have h0 : parts j 0 = Lg.zero := by unfold parts Lg.zero; rw [Nat.zero_div, Nat.zero_mod, frac_zero]; rfl
      have HP0 := Lib.hid (show PartsOk w B j 0 wr from ⟨by rw [h0]; exact HL.out, HB.out⟩)
      clear HB HL h0 hj hjl hji
      go_loopw [9, 31] (fun g i wr => ∃ k : Nat, k ≤ n ∧ g = .int .i64 ((k / 2 ^ j : Nat) : Int) ∧ i = .int .i64 k ∧ PartsOk w B j k wr) (fun g i _ => n - (intOf i).toNat)
      case atStart => exact ⟨0, by omega, by rw [Nat.zero_div]; rfl, rfl, HP0.out⟩
      case round =>
        clear HP0
        obtain ⟨k, hk, rfl, rfl, hP⟩ := hrel
        rcases Nat.lt_or_ge k n with hkl | hkl
        · have hki : (k : Int) < (n : Int) := by omega
          have hw1 : k + 1 ≤ n := by omega
          have c1 := earn_any B 0 _ (parts_ok j k (by omega) (by omega)) (pw j) (by have := (pw_lt j (by omega)).2; unfold credit.w1 at this; omega) wr hP.at'
          rw [(parts_step j k hp (by omega)).1, (parts_step j k hp (by omega)).2] at c1
          have HC := Lib.hid c1
          have HP := Lib.hid hP
          have hq1 : k / 2 ^ j ≤ k := Nat.div_le_self _ _
          have hq2 : (k + 1) / 2 ^ j ≤ k + 1 := Nat.div_le_self _ _
          have hq3 : k / 2 ^ j ≤ (k + 1) / 2 ^ j := Nat.div_le_div_right (by omega)
          have HE := Lib.hid (show (k + 1) / 2 ^ j = (k + 1) / 2 ^ j from rfl)
          clear c1 hP
          generalize hg0 : k / 2 ^ j = g0 at *
          generalize hg1 : (k + 1) / 2 ^ j = g1 at HC hq2 hq3
          have HG := Lib.hid hg1
          clear hg0 hg1 HE
          go_wp2_with (first
            | (go_at_call 10; (with_reducible refine HC.out.mono ?_); rintro e w3 ⟨rfl, s3⟩))
          have HQ := Lib.hid (show PartsOk w B j (k + 1) w3 from ⟨s3.at', LStep.fresh HP.out.below s3 HN.out⟩)
          clear s3
          go_roundw
          case rel => exact ⟨k + 1, hw1, by rw [HG.out]; congr 1; omega, by simp, HQ.out⟩
          case measure => simp [intOf]; omega
        · obtain rfl : k = n := by omega
          have hki : ¬ (k : Int) < (k : Int) := by omega
          have h2p : (0 : Int) < 2 ^ j := Int.pow_pos (by decide)
          have hPk := parts_ok j k (by omega) (by omega)
          have e1 : (k : Int) / 2 ^ j = ((k / 2 ^ j : Nat) : Int) := by simp
          have e2 := shl_at k j
          have e3 := parts_mul j (k % 2 ^ j) hp (Nat.mod_lt _ (Nat.two_pow_pos j))
          have e4 : (parts j k) = ⟨((k / 2 ^ j : Nat) : Int), frac j (k % 2 ^ j)⟩ := rfl
          have e5 : frac j (k % 2 ^ j) < inf := Nat.lt_trans (frac_lt (by omega) (Nat.mod_lt _ (Nat.two_pow_pos j))) (by decide)
          have e6 : k / 2 ^ j ≤ k := Nat.div_le_self _ _
          have e7 : k % 2 ^ j ≤ k := Nat.mod_le _ _
          rw [e4] at hPk
          obtain ⟨hp1, hp2⟩ := hP
          rw [e4] at hp1
          generalize frac j (k % 2 ^ j) = fr at *
          generalize k / 2 ^ j = g at *
          generalize k % 2 ^ j = r at *
          clear hk hkl e4
          have e8 : wrap64 ((g : Int) * 2 ^ j) = (k : Int) - r := by rw [Go.IntWalk.wrap64_in _ (by omega)]; omega
          have e9 : wrap64 ((k : Int) - wrap64 ((g : Int) * 2 ^ j)) = (r : Int) := by rw [e8, Go.IntWalk.wrap64_in _ (by omega)]; omega
          have f1 := fun (t : TypeId) (w : World) => run_float_arith (P := Try.prog) w .mul t .f64 _ _ _ e3
          have f2 := same_word e5
          have c1 := balance_any B 0 _ wr hp1
          have c2 := rest_any B 0 _ wr hp1
          have c3 := take_any B 0 _ hPk k wr hp1
          have e10 : takes (g : Int) (k : Int) = g := takes_all (Int.natCast_nonneg _) (Int.ofNat_le.2 e6)
          have e11 : Lg.take ⟨(g : Int), fr⟩ (k : Int) = ⟨0, fr⟩ := by show (⟨(g : Int) - takes (g : Int) (k : Int), fr⟩ : Lg) = _; rw [e10, Int.sub_self]
          rw [e11, show (Lg.mk (g : Int) fr).b = (g : Int) from rfl, e10] at c3
          clear e2 e3 e5 e8 h2p hp1 hPk e10 e11 hki
          have HC3 := Lib.hid c3
          clear c3
          go_wp2_with (first
            | (go_at_call 16; (with_reducible refine c1.mono ?_); rintro e w4 ⟨rfl, rfl⟩)
            | (go_at_call 16; (with_reducible refine (balance_any B 0 _ _ (LStep.at' s3)).mono ?_); rintro e w4 ⟨rfl, rfl⟩)
            | (go_at_call 17; (with_reducible refine c2.mono ?_); rintro e w4 ⟨rfl, rfl⟩)
            | (go_at_call 13; (with_reducible refine HC3.out.mono ?_); rintro e w3 ⟨rfl, s3⟩))
          go_ret
          exact ⟨rfl, LStep.fresh hp2 s3 HN.out⟩
end Go.Proofs.Ytbldjegeaphocaa.credit
