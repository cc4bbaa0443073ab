/- SwarMasks: the walk. -/
import Derived.Test.YthmkmnjhbnfioaaDoorSwarList
import Derived.RangeFuncOne
import Derived.RangeFuncWrites
namespace Go.Proofs.YthmkmnjhbnfioaaDoor.swar
open Go.ChangeShapes Go.WideShapes Go.ChangeAt Go.RowKit Go.Shelf
attribute [local go_sem] Oper.semAt_some

/-- the document's masks are the program's -/
theorem mask_eq (n b : Nat) : maskN (((ln n 0 : Nat) : Int) == (b : Int)) (((ln n 1 : Nat) : Int) == (b : Int)) (((ln n 2 : Nat) : Int) == (b : Int)) (((ln n 3 : Nat) : Int) == (b : Int)) (((ln n 4 : Nat) : Int) == (b : Int)) (((ln n 5 : Nat) : Int) == (b : Int)) (((ln n 6 : Nat) : Int) == (b : Int)) (((ln n 7 : Nat) : Int) == (b : Int)) = eqM n b := by
  have e : ∀ k, (if (((ln n k : Nat) : Int) == (b : Int)) = true then 128 else 0) = (if ln n k = b then 128 else 0) := fun k => by
    by_cases h : ln n k = b
    · have h' : (((ln n k : Nat) : Int) == (b : Int)) = true := by rw [beq_iff_eq]; omega
      rw [if_pos h', if_pos h]
    · have h' : ¬ (((ln n k : Nat) : Int) == (b : Int)) = true := by rw [beq_iff_eq]; omega
      rw [if_neg h', if_neg h]
  unfold maskN eqM
  rw [e, e, e, e, e, e, e, e]
theorem mask_hi (n : Nat) : maskN (decide (128 ≤ ((ln n 0 : Nat) : Int))) (decide (128 ≤ ((ln n 1 : Nat) : Int))) (decide (128 ≤ ((ln n 2 : Nat) : Int))) (decide (128 ≤ ((ln n 3 : Nat) : Int))) (decide (128 ≤ ((ln n 4 : Nat) : Int))) (decide (128 ≤ ((ln n 5 : Nat) : Int))) (decide (128 ≤ ((ln n 6 : Nat) : Int))) (decide (128 ≤ ((ln n 7 : Nat) : Int))) = hiM n := by
  have e : ∀ k, (if decide (128 ≤ ((ln n k : Nat) : Int)) = true then 128 else 0) = (if 128 ≤ ln n k then 128 else 0) := fun k => by
    by_cases h : 128 ≤ ln n k
    · have h' : decide (128 ≤ ((ln n k : Nat) : Int)) = true := by rw [decide_eq_true_eq]; omega
      rw [if_pos h', if_pos h]
    · have h' : ¬ decide (128 ≤ ((ln n k : Nat) : Int)) = true := by rw [decide_eq_true_eq]; omega
      rw [if_neg h', if_neg h]
  unfold maskN hiM
  rw [e, e, e, e, e, e, e, e]
theorem lst_tl (n : Nat) : lst (decide (128 ≤ ((ln n 0 : Nat) : Int))) (decide (128 ≤ ((ln n 1 : Nat) : Int))) (decide (128 ≤ ((ln n 2 : Nat) : Int))) (decide (128 ≤ ((ln n 3 : Nat) : Int))) (decide (128 ≤ ((ln n 4 : Nat) : Int))) (decide (128 ≤ ((ln n 5 : Nat) : Int))) (decide (128 ≤ ((ln n 6 : Nat) : Int))) (decide (128 ≤ ((ln n 7 : Nat) : Int))) 8 = tl n := by
  unfold lst tl
  rw [show List.range 8 = [0, 1, 2, 3, 4, 5, 6, 7] from by decide]
  have e : ∀ k, decide (128 ≤ ((ln n k : Nat) : Int)) = decide (128 ≤ ln n k) := fun k => by
    by_cases h : 128 ≤ ln n k
    · rw [decide_eq_true h, decide_eq_true (by omega)]
    · rw [decide_eq_false h, decide_eq_false (by omega)]
  apply List.filter_congr
  intro x hx
  have h8 : x < 8 := by simp at hx; omega
  rw [e, e, e, e, e, e, e, e]
  rcases cases8 h8 with rfl | rfl | rfl | rfl | rfl | rfl | rfl | rfl <;> rfl
theorem first_tl (n k : Nat) (r : List Nat) (h : tl n = k :: r) : firstI n = (k : Int) ∧ k < 8 := by
  have hu := up_tl n
  rw [h] at hu
  obtain ⟨_, hk, hr⟩ := hu
  have hin : ∀ i, i < 8 → (i ∈ tl n ↔ 128 ≤ ln n i) := fun i hi => by
    unfold tl
    simp only [List.mem_filter, decide_eq_true_eq]
    constructor
    · exact fun h => h.2
    · intro h'; refine ⟨?_, h'⟩
      rcases cases8 hi with rfl | rfl | rfl | rfl | rfl | rfl | rfl | rfl <;> simp
  have hlow : ∀ j (l : List Nat), Up j l → ∀ i ∈ l, j ≤ i := by
    intro j l
    induction l generalizing j with
    | nil => intro _ i hi; cases hi
    | cons a l ih =>
      rintro ⟨h1, h2, h3⟩ i hi
      rcases List.mem_cons.1 hi with rfl | hi
      · exact h1
      · have := ih _ h3 i hi; omega
  have hkin : 128 ≤ ln n k := (hin k hk).1 (by rw [h]; simp)
  have hno : ∀ i, i < k → ¬ 128 ≤ ln n i := fun i hi h' => by
    have hm := (hin i (by omega)).2 h'
    rw [h] at hm
    rcases List.mem_cons.1 hm with rfl | hm
    · omega
    · have := hlow _ _ hr i hm; omega
  refine ⟨?_, hk⟩
  unfold firstI
  rcases cases8 hk with rfl | rfl | rfl | rfl | rfl | rfl | rfl | rfl
  · rw [if_pos hkin]; rfl
  · rw [if_neg (hno 0 (by decide)), if_pos hkin]; rfl
  · rw [if_neg (hno 0 (by decide)), if_neg (hno 1 (by decide)), if_pos hkin]; rfl
  · rw [if_neg (hno 0 (by decide)), if_neg (hno 1 (by decide)), if_neg (hno 2 (by decide)), if_pos hkin]; rfl
  · rw [if_neg (hno 0 (by decide)), if_neg (hno 1 (by decide)), if_neg (hno 2 (by decide)), if_neg (hno 3 (by decide)), if_pos hkin]; rfl
  · rw [if_neg (hno 0 (by decide)), if_neg (hno 1 (by decide)), if_neg (hno 2 (by decide)), if_neg (hno 3 (by decide)), if_neg (hno 4 (by decide)), if_pos hkin]; rfl
  · rw [if_neg (hno 0 (by decide)), if_neg (hno 1 (by decide)), if_neg (hno 2 (by decide)), if_neg (hno 3 (by decide)), if_neg (hno 4 (by decide)), if_neg (hno 5 (by decide)), if_pos hkin]; rfl
  · rw [if_neg (hno 0 (by decide)), if_neg (hno 1 (by decide)), if_neg (hno 2 (by decide)), if_neg (hno 3 (by decide)), if_neg (hno 4 (by decide)), if_neg (hno 5 (by decide)), if_neg (hno 6 (by decide)), if_pos hkin]; rfl
theorem first_nil (n : Nat) (h : tl n = []) : firstI n = -1 := by
  have e := hiM_msk n
  rw [h] at e
  exact (hiM_zero n).1 e

/-- two slices of one list -/
theorem same_ints (l : List Nat) (hl : l.length ≤ 8) (g1 c1 g2 c2 : Nat) (w : World)
    (h1 : ∀ j, j < l.length → w.cell? ⟨g1, j, none⟩ = some (.int .i64 (l[j]?.getD 0 : Nat))) (h2 : ∀ j, j < l.length → w.cell? ⟨g2, j, none⟩ = some (.int .i64 (l[j]?.getD 0 : Nat))) :
    Calls Tryd.prog 23 #[.slice (some ⟨g1, 0, none⟩) l.length c1, .slice (some ⟨g2, 0, none⟩) l.length c2] w fun e w' => e = .returned (.bool true) ∧ w = w' := by
  have H1 := Lib.hid h1
  have H2 := Lib.hid h2
  clear h1 h2
  generalize hL : l.length = len at *
  have HL := Lib.hid hL
  clear hL
  go_enter Tryd.func23, Tryd.ntmps23
  go_wp2
  go_loop [14] (fun i => ∃ k : Nat, k ≤ len ∧ i = .int .i64 k) (fun i => len - (intOf i).toNat)
  case atStart => exact ⟨0, by omega, rfl⟩
  case round =>
    obtain ⟨k, hk, rfl⟩ := hrel
    by_cases hlt : k < len
    · have a1 := H1.out k hlt
      have a2 := H2.out k hlt
      go_wp2
      go_round
      case rel => exact ⟨k + 1, by omega, by go_num⟩
      case measure => simp [intOf]; omega
    · go_wp2
      go_ret
      exact ⟨rfl, rfl⟩
end Go.Proofs.YthmkmnjhbnfioaaDoor.swar
