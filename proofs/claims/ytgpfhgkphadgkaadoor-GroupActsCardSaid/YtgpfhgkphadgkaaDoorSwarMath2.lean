/- More plain facts on words: With twice, and the bits of Equal's lanes. -/
import Derived.Test.YtgpfhgkphadgkaaDoorSwarMath
namespace Go.Proofs.YtgpfhgkphadgkaaDoor.swar
/-- lanes behind With -/
theorem ln_withL (n i b : Nat) (hb : b < 256) : ln (withL n i b) 0 = (if i = 0 then b else ln n 0) ∧ ln (withL n i b) 1 = (if i = 1 then b else ln n 1) ∧ ln (withL n i b) 2 = (if i = 2 then b else ln n 2) ∧ ln (withL n i b) 3 = (if i = 3 then b else ln n 3) ∧
    ln (withL n i b) 4 = (if i = 4 then b else ln n 4) ∧ ln (withL n i b) 5 = (if i = 5 then b else ln n 5) ∧ ln (withL n i b) 6 = (if i = 6 then b else ln n 6) ∧ ln (withL n i b) 7 = (if i = 7 then b else ln n 7) := by
  have l : ∀ (p : Prop) [Decidable p] k, (if p then b else ln n k) < 256 := fun p _ k => by split; exact hb; exact ln_lt _ _
  exact ln_pk8 (l _ _) (l _ _) (l _ _) (l _ _) (l _ _) (l _ _) (l _ _) (l _ _)
theorem withL_lt (n i b : Nat) (hb : b < 256) : withL n i b < 18446744073709551616 := by
  have l : ∀ (p : Prop) [Decidable p] k, (if p then b else ln n k) < 256 := fun p _ k => by split; exact hb; exact ln_lt _ _
  exact pk8_lt (l _ _) (l _ _) (l _ _) (l _ _) (l _ _) (l _ _) (l _ _) (l _ _)
theorem withL_def (m i c : Nat) : withL m i c = pk8 (if i = 0 then c else ln m 0) (if i = 1 then c else ln m 1) (if i = 2 then c else ln m 2) (if i = 3 then c else ln m 3) (if i = 4 then c else ln m 4) (if i = 5 then c else ln m 5) (if i = 6 then c else ln m 6) (if i = 7 then c else ln m 7) := rfl
theorem withL_same (n i b c : Nat) (hb : b < 256) : withL (withL n i b) i c = withL n i c := by
  obtain ⟨e0, e1, e2, e3, e4, e5, e6, e7⟩ := ln_withL n i b hb
  rw [withL_def (withL n i b) i c, withL_def n i c, e0, e1, e2, e3, e4, e5, e6, e7]
  congr 1 <;> split <;> simp_all
theorem withL_comm (n i j b c : Nat) (hb : b < 256) (hc : c < 256) (hij : i ≠ j) : withL (withL n i b) j c = withL (withL n j c) i b := by
  obtain ⟨e0, e1, e2, e3, e4, e5, e6, e7⟩ := ln_withL n i b hb
  obtain ⟨f0, f1, f2, f3, f4, f5, f6, f7⟩ := ln_withL n j c hc
  rw [withL_def (withL n i b) j c, withL_def (withL n j c) i b,
    e0, e1, e2, e3, e4, e5, e6, e7, f0, f1, f2, f3, f4, f5, f6, f7]
  congr 1 <;> (split <;> split <;> simp_all)
/-- the highest bit of each of Equal's lanes -/
theorem eqM_bits (n b : Nat) : eqM n b / 128 % 2 = (if ln n 0 = b then 1 else 0) ∧ eqM n b / 32768 % 2 = (if ln n 1 = b then 1 else 0) ∧ eqM n b / 8388608 % 2 = (if ln n 2 = b then 1 else 0) ∧ eqM n b / 2147483648 % 2 = (if ln n 3 = b then 1 else 0) ∧ eqM n b / 549755813888 % 2 = (if ln n 4 = b then 1 else 0) ∧ eqM n b / 140737488355328 % 2 = (if ln n 5 = b then 1 else 0) ∧ eqM n b / 36028797018963968 % 2 = (if ln n 6 = b then 1 else 0) ∧ eqM n b / 9223372036854775808 % 2 = (if ln n 7 = b then 1 else 0) := by
  have e : eqM n b = 128 * pk8 (one (ln n 0 = b)) (one (ln n 1 = b)) (one (ln n 2 = b)) (one (ln n 3 = b)) (one (ln n 4 = b)) (one (ln n 5 = b)) (one (ln n 6 = b)) (one (ln n 7 = b)) := by
    unfold eqM; simp only [one128]; unfold pk8; omega
  rw [e]
  have o : ∀ k, (if ln n k = b then 1 else 0) = one (ln n k = b) := fun k => rfl
  simp only [o]
  have l := fun k => one_le (ln n k = b)
  have l0 := l 0; have l1 := l 1; have l2 := l 2; have l3 := l 3; have l4 := l 4; have l5 := l 5; have l6 := l 6; have l7 := l 7
  clear o l e
  unfold pk8
  refine ⟨?_, ?_, ?_, ?_, ?_, ?_, ?_, ?_⟩ <;> omega
end Go.Proofs.YtgpfhgkphadgkaaDoor.swar
