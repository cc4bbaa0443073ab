/- Masks of eight marks: made of a property of the lanes' numbers; joined, met, counted; what the masks of layer 2 are. No program is imported. -/
import Derived.Test.YtgpfhgkphadgkaaDoorSwarMath
namespace Go.Proofs.YtgpfhgkphadgkaaDoor.swar

/-- the mask of the lanes that are so -/
def mkM (p : Nat → Bool) : Nat := pk8 (if p 0 = true then 128 else 0) (if p 1 = true then 128 else 0) (if p 2 = true then 128 else 0) (if p 3 = true then 128 else 0) (if p 4 = true then 128 else 0) (if p 5 = true then 128 else 0) (if p 6 = true then 128 else 0) (if p 7 = true then 128 else 0)
theorem mkM_lt (p : Nat → Bool) : mkM p < 18446744073709551616 := pk8_lt (if_lt _) (if_lt _) (if_lt _) (if_lt _) (if_lt _) (if_lt _) (if_lt _) (if_lt _)
theorem mkM_congr {p q : Nat → Bool} (h : ∀ k, k < 8 → p k = q k) : mkM p = mkM q := by
  unfold mkM; rw [h 0 (by decide), h 1 (by decide), h 2 (by decide), h 3 (by decide), h 4 (by decide), h 5 (by decide), h 6 (by decide), h 7 (by decide)]
theorem eqM_mk (n b : Nat) : eqM n b = mkM fun k => decide (ln n k = b) := by unfold eqM mkM; simp only [decide_eq_true_eq]
theorem hiM_mk (n : Nat) : hiM n = mkM fun k => decide (128 ≤ ln n k) := by unfold hiM mkM; simp only [decide_eq_true_eq]
theorem or_if (p q : Bool) : (if p = true then 128 else 0) ||| (if q = true then 128 else 0) = (if (p || q) = true then 128 else 0) := by cases p <;> cases q <;> decide
theorem and_if (p q : Bool) : (if p = true then 128 else 0) &&& (if q = true then 128 else 0) = (if (p && q) = true then 128 else 0) := by cases p <;> cases q <;> decide
theorem or_mk (p q : Nat → Bool) : mkM p ||| mkM q = mkM fun k => p k || q k := by
  unfold mkM
  rw [or8 (if_lt _) (if_lt _) (if_lt _) (if_lt _) (if_lt _) (if_lt _) (if_lt _) (if_lt _) (if_lt _) (if_lt _) (if_lt _) (if_lt _) (if_lt _) (if_lt _)]
  simp only [or_if]
theorem and_mk (p q : Nat → Bool) : mkM p &&& mkM q = mkM fun k => p k && q k := by
  unfold mkM
  rw [and8 (if_lt _) (if_lt _) (if_lt _) (if_lt _) (if_lt _) (if_lt _) (if_lt _) (if_lt _) (if_lt _) (if_lt _) (if_lt _) (if_lt _) (if_lt _) (if_lt _)]
  simp only [and_if]
theorem or_int (p q : Nat → Bool) : bits .or .u64 ((mkM p : Nat) : Int) ((mkM q : Nat) : Int) = ((mkM fun k => p k || q k : Nat) : Int) := by
  rw [u64_or_nat _ _ (mkM_lt p) (mkM_lt q), or_mk]
theorem and_int (p q : Nat → Bool) : bits .and .u64 ((mkM p : Nat) : Int) ((mkM q : Nat) : Int) = ((mkM fun k => p k && q k : Nat) : Int) := by
  rw [u64_and_nat _ _ (mkM_lt p) (mkM_lt q), and_mk]
theorem mk_none : mkM (fun _ => false) = 0 := by decide
theorem ln_mk (p : Nat → Bool) (k : Nat) (hk : k < 8) : ln (mkM p) k = if p k = true then 128 else 0 := by
  have e := ln_pk8 (if_lt (p 0 = true)) (if_lt (p 1 = true)) (if_lt (p 2 = true)) (if_lt (p 3 = true)) (if_lt (p 4 = true)) (if_lt (p 5 = true)) (if_lt (p 6 = true)) (if_lt (p 7 = true))
  have h : k = 0 ∨ k = 1 ∨ k = 2 ∨ k = 3 ∨ k = 4 ∨ k = 5 ∨ k = 6 ∨ k = 7 := by omega
  obtain ⟨e0, e1, e2, e3, e4, e5, e6, e7⟩ := e
  rcases h with rfl | rfl | rfl | rfl | rfl | rfl | rfl | rfl <;> assumption
def cntB (p : Nat → Bool) : Nat := (p 0).toNat + (p 1).toNat + (p 2).toNat + (p 3).toNat + (p 4).toNat + (p 5).toNat + (p 6).toNat + (p 7).toNat
theorem cnt_mk (p : Nat → Bool) : cnt (mkM p) = cntB p := by
  unfold cnt cntB
  rw [ln_mk p 0 (by decide), ln_mk p 1 (by decide), ln_mk p 2 (by decide), ln_mk p 3 (by decide), ln_mk p 4 (by decide), ln_mk p 5 (by decide), ln_mk p 6 (by decide), ln_mk p 7 (by decide)]
  have o : ∀ b : Bool, one (128 ≤ (if b = true then 128 else 0)) = b.toNat := by intro b; cases b <;> decide
  simp only [o]
theorem cntB_all (p : Nat → Bool) : cntB p = 8 ↔ (p 0 && p 1 && p 2 && p 3 && p 4 && p 5 && p 6 && p 7) = true := by
  unfold cntB
  cases p 0 <;> cases p 1 <;> cases p 2 <;> cases p 3 <;> cases p 4 <;> cases p 5 <;> cases p 6 <;> cases p 7 <;> decide
theorem not_lt (n : Nat) : 18446744073709551615 - n < 18446744073709551616 := by omega
theorem ln_not (n k : Nat) (hn : n < 18446744073709551616) (hk : k < 8) : ln (18446744073709551615 - n) k = 255 - ln n k := by
  have l := ln_lt n
  have d : ∀ i, 255 - ln n i < 256 := fun i => by omega
  have e := not8 (l 0) (l 1) (l 2) (l 3) (l 4) (l 5) (l 6) (l 7)
  rw [pk8_ln n hn] at e
  rw [e]
  have h : k = 0 ∨ k = 1 ∨ k = 2 ∨ k = 3 ∨ k = 4 ∨ k = 5 ∨ k = 6 ∨ k = 7 := by omega
  obtain ⟨e0, e1, e2, e3, e4, e5, e6, e7⟩ := ln_pk8 (d 0) (d 1) (d 2) (d 3) (d 4) (d 5) (d 6) (d 7)
  rcases h with rfl | rfl | rfl | rfl | rfl | rfl | rfl | rfl <;> assumption
theorem hi_not (n : Nat) (hn : n < 18446744073709551616) : hiM (18446744073709551615 - n) = mkM fun k => decide (ln n k < 128) := by
  rw [hiM_mk]
  refine mkM_congr fun k hk => ?_
  rw [ln_not n k hn hk]
  have := ln_lt n k
  rw [decide_eq_decide]; omega
/-- '^' of a word, as the walk spells it -/
theorem not_int (n : Nat) (hn : n < 18446744073709551616) : bits .xor .u64 IntKind.u64.max (n : Int) = ((18446744073709551615 - n : Nat) : Int) := by
  rw [show IntKind.u64.max = ((18446744073709551615 : Nat) : Int) from rfl, u64_xor_nat _ _ (by decide) hn, xor_max _ hn]

/-- a byte that is a control byte -/
def okB (b : Nat) : Bool := decide (b < 128) || decide (b = 128) || decide (b = 254)
def okW (n : Nat) : Bool := okB (ln n 0) && okB (ln n 1) && okB (ln n 2) && okB (ln n 3) && okB (ln n 4) && okB (ln n 5) && okB (ln n 6) && okB (ln n 7)
theorem known (n : Nat) (hn : n < 18446744073709551616) :
    bits .or .u64 (bits .or .u64 ((hiM (18446744073709551615 - n) : Nat) : Int) ((eqM n 128 : Nat) : Int)) ((eqM n 254 : Nat) : Int) = ((mkM fun k => okB (ln n k) : Nat) : Int) := by
  rw [hi_not n hn, eqM_mk, eqM_mk, or_int, or_int]; rfl
theorem known_cnt (n : Nat) : (((cnt (mkM fun k => okB (ln n k)) : Nat) : Int) == 8) = okW n := by
  rw [cnt_mk, Bool.eq_iff_iff]
  have h := cntB_all fun k => okB (ln n k)
  rw [show okW n = true ↔ _ from h.symm, beq_iff_eq]; omega
/-- a byte's sign -/
def sgn (b : Nat) : Nat := if b < 128 then 35 else if b = 128 then 46 else if b = 254 then 120 else 63
/-- a byte's kind -/
def kindN (b : Nat) : Nat := if b = 128 then 1 else if b = 254 then 2 else if b < 128 then 3 else 0
theorem kind_0 (b : Nat) : kindN b = 0 ↔ okB b = false := by
  unfold kindN okB; by_cases h1 : b = 128 <;> by_cases h2 : b = 254 <;> by_cases h3 : b < 128 <;> simp [h1, h2, h3] <;> omega
end Go.Proofs.YtgpfhgkphadgkaaDoor.swar
