/- What the laws of layer 2 ask: the document's masks are the program's; the chapter's example. -/
import Derived.Test.YtfnfdofenaegpaaDoorCtrlRef2
import Derived.Test.YtfnfdofenaegpaaDoorNum
namespace Go.Proofs.YtfnfdofenaegpaaDoor.ctrl
open Go.ChangeShapes Go.WideShapes Go.ChangeAt Go.RowKit swar

theorem below_drewN {w w' : World} {q : Nat} (h : Below (w.drewN q).heap.size (w.drewN q) w') : Below w.heap.size w w' := ⟨h.os, h.tape, h.output, h.size, h.block⟩
theorem drewN_below (w : World) (q : Nat) : Below w.heap.size w (w.drewN q) := ⟨rfl, rfl, rfl, Nat.le_refl _, fun _ _ => rfl⟩
theorem mask_eq (n b : Nat) : maskN (((ln n 0 : Nat) : Int) == (b : Int)) (((ln n 1 : Nat) : Int) == (b : Int)) (((ln n 2 : Nat) : Int) == (b : Int)) (((ln n 3 : Nat) : Int) == (b : Int)) (((ln n 4 : Nat) : Int) == (b : Int)) (((ln n 5 : Nat) : Int) == (b : Int)) (((ln n 6 : Nat) : Int) == (b : Int)) (((ln n 7 : Nat) : Int) == (b : Int)) = eqM n b := by
  have e : ∀ k, (if (((ln n k : Nat) : Int) == (b : Int)) = true then 128 else 0) = (if ln n k = b then 128 else 0) := fun k => by
    by_cases h : ln n k = b
    · have h' : (((ln n k : Nat) : Int) == (b : Int)) = true := by rw [beq_iff_eq]; omega
      rw [if_pos h', if_pos h]
    · have h' : ¬ (((ln n k : Nat) : Int) == (b : Int)) = true := by rw [beq_iff_eq]; omega
      rw [if_neg h', if_neg h]
  unfold maskN eqM
  rw [e, e, e, e, e, e, e, e]
theorem mask_hi (n : Nat) : maskN (decide (128 ≤ ((ln n 0 : Nat) : Int))) (decide (128 ≤ ((ln n 1 : Nat) : Int))) (decide (128 ≤ ((ln n 2 : Nat) : Int))) (decide (128 ≤ ((ln n 3 : Nat) : Int))) (decide (128 ≤ ((ln n 4 : Nat) : Int))) (decide (128 ≤ ((ln n 5 : Nat) : Int))) (decide (128 ≤ ((ln n 6 : Nat) : Int))) (decide (128 ≤ ((ln n 7 : Nat) : Int))) = hiM n := by
  have e : ∀ k, (if decide (128 ≤ ((ln n k : Nat) : Int)) = true then 128 else 0) = (if 128 ≤ ln n k then 128 else 0) := fun k => by
    by_cases h : 128 ≤ ln n k
    · have h' : decide (128 ≤ ((ln n k : Nat) : Int)) = true := by rw [decide_eq_true_eq]; omega
      rw [if_pos h', if_pos h]
    · have h' : ¬ decide (128 ≤ ((ln n k : Nat) : Int)) = true := by rw [decide_eq_true_eq]; omega
      rw [if_neg h', if_neg h]
  unfold maskN hiM
  rw [e, e, e, e, e, e, e, e]
theorem of_1 (n : Nat) : (mkM fun k => (((kindN (ln n k) : Nat) : Int) == ((1 : Nat) : Int))) = eqM n 128 := by
  rw [eqM_mk]
  refine mkM_congr fun k _ => ?_
  unfold kindN; by_cases h1 : ln n k = 128
  · simp [h1]
  · by_cases h2 : ln n k = 254 <;> by_cases h3 : ln n k < 128 <;> simp [h1, h2, h3]
theorem of_2 (n : Nat) : (mkM fun k => (((kindN (ln n k) : Nat) : Int) == ((2 : Nat) : Int))) = eqM n 254 := by
  rw [eqM_mk]
  refine mkM_congr fun k _ => ?_
  unfold kindN; by_cases h1 : ln n k = 128
  · simp [h1]
  · by_cases h2 : ln n k = 254 <;> by_cases h3 : ln n k < 128 <;> simp [h1, h2, h3]
theorem of_3 (n : Nat) (hn : n < 18446744073709551616) : (mkM fun k => (((kindN (ln n k) : Nat) : Int) == ((3 : Nat) : Int))) = hiM (18446744073709551615 - n) := by
  rw [hi_not n hn]
  refine mkM_congr fun k _ => ?_
  unfold kindN; by_cases h1 : ln n k = 128
  · simp [h1]
  · by_cases h2 : ln n k = 254
    · simp [h2]
    · by_cases h3 : ln n k < 128 <;> simp [h1, h2, h3]
theorem fulls_of (n : Nat) (hn : n < 18446744073709551616) (w : World) :
    Calls Tryd.prog 13 #[.int .u64 n, .int .i64 3] w fun e w' => e = .returned (.int .u64 (hiM (18446744073709551615 - n) : Nat)) ∧ Below w.heap.size w w' := by
  have h := of_any n 3 hn w
  rw [of_3 n hn] at h; exact h
theorem empties_of (n : Nat) (hn : n < 18446744073709551616) (w : World) :
    Calls Tryd.prog 13 #[.int .u64 n, .int .i64 1] w fun e w' => e = .returned (.int .u64 (eqM n 128 : Nat)) ∧ Below w.heap.size w w' := by
  have h := of_any n 1 hn w
  rw [of_1 n] at h; exact h
theorem deleteds_of (n : Nat) (hn : n < 18446744073709551616) (w : World) :
    Calls Tryd.prog 13 #[.int .u64 n, .int .i64 2] w fun e w' => e = .returned (.int .u64 (eqM n 254 : Nat)) ∧ Below w.heap.size w w' := by
  have h := of_any n 2 hn w
  rw [of_2 n] at h; exact h
theorem alive_any (w : World) :
    Calls Tryd.prog 7 #[] w fun e w' => e = .returned (.bool true) ∧ Below w.heap.size w w' := by
  have e0 : withL 9259542123273814144 2 5 = 9259542123265753216 := by decide
  have e1 : textN 9259542123265753216 = ⟨#[46, 46, 35, 46, 46, 46, 46, 46]⟩ := by rfl
  have e2 : eqM 9259542123265753216 5 = 8388608 := by decide
  have e3 : okW 9259542123265753216 = true := by decide
  have c0 := fun wx => set_yes 9259542123273814144 5 2 (by decide) (by decide) (by decide) wx
  have c1 := fun wx => text_any 9259542123265753216 (by decide) wx
  have c2 := fun wx => match_full 9259542123265753216 5 (by decide) (by decide) wx
  have c3 := fun wx => right_any 9259542123265753216 (by decide) wx
  rw [e0] at c0; rw [e1] at c1; rw [e2] at c2; rw [e3] at c3
  clear e0 e1 e2 e3
  go_enter Tryd.func7, Tryd.ntmps7
  go_wp2_with (first
    | (go_at_call 26; refine (new_any _).mono ?_; rintro e w' ⟨rfl, rfl⟩)
    | (go_at_call 23; refine (c0 _).mono ?_; rintro e w' ⟨rfl, q, rfl⟩)
    | (go_at_call 20; refine (c1 _).mono ?_; rintro e w' ⟨rfl, hb1⟩)
    | (go_at_call 11; refine (c2 _).mono ?_; rintro e w' ⟨rfl, rfl⟩)
    | (go_at_call 18; refine (c3 _).mono ?_; rintro e w' ⟨rfl, rfl⟩))
  go_ret
  refine ⟨by simp, ?_⟩
  exact below_drewN hb1
end Go.Proofs.YtfnfdofenaegpaaDoor.ctrl
