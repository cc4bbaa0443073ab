/- Plain facts for CtrlApart: a right word's slots; a word with another control byte. No program is imported. -/
import Derived.Test.YtfnfdofenaegpaaDoorCtrlMath
import Derived.Test.YtfnfdofenaegpaaDoorSwarMath2
namespace Go.Proofs.YtfnfdofenaegpaaDoor.swar
theorem okB_iff (b : Nat) : okB b = true ↔ b < 128 ∨ b = 128 ∨ b = 254 := by unfold okB; simp [or_assoc]
theorem okW_at (n k : Nat) (h : okW n = true) (hk : k < 8) : okB (ln n k) = true := by
  unfold okW at h
  simp only [Bool.and_eq_true] at h
  obtain ⟨⟨⟨⟨⟨⟨⟨h0, h1⟩, h2⟩, h3⟩, h4⟩, h5⟩, h6⟩, h7⟩ := h
  have c : k = 0 ∨ k = 1 ∨ k = 2 ∨ k = 3 ∨ k = 4 ∨ k = 5 ∨ k = 6 ∨ k = 7 := by omega
  rcases c with rfl | rfl | rfl | rfl | rfl | rfl | rfl | rfl <;> assumption
theorem okW_of (n : Nat) (h : ∀ k, k < 8 → okB (ln n k) = true) : okW n = true := by
  unfold okW
  rw [h 0 (by decide), h 1 (by decide), h 2 (by decide), h 3 (by decide), h 4 (by decide), h 5 (by decide), h 6 (by decide), h 7 (by decide)]; rfl
theorem ln_withL_at (n i b k : Nat) (hb : b < 256) (hk : k < 8) : ln (withL n i b) k = if i = k then b else ln n k := by
  obtain ⟨e0, e1, e2, e3, e4, e5, e6, e7⟩ := ln_withL n i b hb
  have c : k = 0 ∨ k = 1 ∨ k = 2 ∨ k = 3 ∨ k = 4 ∨ k = 5 ∨ k = 6 ∨ k = 7 := by omega
  rcases c with rfl | rfl | rfl | rfl | rfl | rfl | rfl | rfl <;> assumption
theorem okW_with (n i b : Nat) (h : okW n = true) (hb8 : b < 256) (hb : okB b = true) : okW (withL n i b) = true :=
  okW_of _ fun k hk => by
    rw [ln_withL_at n i b k hb8 hk]
    split
    · exact hb
    · exact okW_at n k h hk
theorem withL_self (n k : Nat) (hn : n < 18446744073709551616) : withL n k (ln n k) = n := by
  conv => rhs; rw [← pk8_ln n hn]
  unfold withL
  have e : ∀ j, (if k = j then ln n k else ln n j) = ln n j := fun j => by by_cases h : k = j <;> simp [h]
  simp only [e]
theorem withL_back (n k b : Nat) (hn : n < 18446744073709551616) (hb : b < 256) : withL (withL n k b) k (ln n k) = n := by
  rw [withL_same n k b _ hb, withL_self n k hn]
theorem or_kinds (n : Nat) (h : okW n = true) : bits .or .u64 ((eqM n 128 : Nat) : Int) ((eqM n 254 : Nat) : Int) = ((hiM n : Nat) : Int) := by
  rw [eqM_mk, eqM_mk, or_int, hiM_mk]
  have e : (mkM fun k => decide (ln n k = 128) || decide (ln n k = 254)) = mkM fun k => decide (128 ≤ ln n k) := mkM_congr fun k hk => by
    have h1 := (okB_iff _).1 (okW_at n k h hk)
    rw [Bool.eq_iff_iff]; simp; omega
  rw [e]
theorem and_kinds (n : Nat) (hn : n < 18446744073709551616) : bits .and .u64 ((hiM (18446744073709551615 - n) : Nat) : Int) ((hiM n : Nat) : Int) = 0 := by
  rw [hi_not n hn, hiM_mk, and_int]
  have e : (mkM fun k => decide (ln n k < 128) && decide (128 ≤ ln n k)) = mkM fun _ => false := mkM_congr fun k _ => by
    rw [Bool.eq_iff_iff]; simp
  rw [e, mk_none]; rfl
theorem cnt_kinds (n : Nat) (hn : n < 18446744073709551616) (h : okW n = true) : cnt (eqM n 128) + cnt (eqM n 254) + cnt (hiM (18446744073709551615 - n)) = 8 := by
  rw [hi_not n hn, eqM_mk, eqM_mk, cnt_mk, cnt_mk, cnt_mk]
  have o : ∀ k, k < 8 → (decide (ln n k = 128)).toNat + (decide (ln n k = 254)).toNat + (decide (ln n k < 128)).toNat = 1 := fun k hk => by
    rcases (okB_iff _).1 (okW_at n k h hk) with h1 | h1 | h1
    · have a : ln n k ≠ 128 := by omega
      have b : ln n k ≠ 254 := by omega
      simp [h1, a, b]
    · simp [h1]
    · simp [h1]
  have o0 := o 0 (by decide); have o1 := o 1 (by decide); have o2 := o 2 (by decide); have o3 := o 3 (by decide); have o4 := o 4 (by decide); have o5 := o 5 (by decide); have o6 := o 6 (by decide); have o7 := o 7 (by decide)
  unfold cntB; dsimp only; omega
end Go.Proofs.YtfnfdofenaegpaaDoor.swar
