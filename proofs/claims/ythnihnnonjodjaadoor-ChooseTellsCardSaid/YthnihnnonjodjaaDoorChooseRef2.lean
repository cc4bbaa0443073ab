/- The document's own for layer 14: Double, Groups. -/
import Derived.Test.YthnihnnonjodjaaDoorChooseRef
namespace Go.Proofs.YthnihnnonjodjaaDoor.choose
open Go.ChangeShapes Go.WideShapes Go.ChangeAt Go.RowKit errs under
set_option linter.unusedSimpArgs false
set_option linter.unusedVariables false

theorem rdouble_any (l t g a b : Int) (w : World) :
    Calls Tryd.prog 12 #[.int .i64 l, .int .i64 t, .int .i64 g, .int .i64 a, .int .i64 b] w fun e w' => e = .returned (.bool (db l t g a b)) ∧ w = w' := by
  have hN := rwhich_any l t g a b w
  unfold db
  cases h : nd l t g a b with
  | false =>
    rw [wh_none h] at hN
    rw [Bool.false_and]
    go_enter Tryd.func12, Tryd.ntmps12
    go_wp2_with (go_at_call 10; refine hN.mono ?_; rintro e w' ⟨rfl, rfl⟩)
    all_goals (go_ret; exact ⟨rfl, rfl⟩)
  | true =>
    have hk : (wh l t g a b == 0) = false := by
      rcases wh_cases l t g a b with ⟨_, hn⟩ | ⟨_, ⟨hk, _⟩ | ⟨hk, _⟩ | ⟨hk, _⟩⟩
      · rw [h] at hn; cases hn
      all_goals (rw [hk]; rfl)
    generalize wh l t g a b = k at hN hk
    have hle := rt_le (nd_yes h).2.2.2.2.1
    have e1 : wrap64 (2 * g) = 2 * g := IntWalk.wrap64_in _ (by omega)
    rw [Bool.true_and]
    by_cases h1 : 2 * g < l
    · by_cases h2 : 8 ≤ g
      · by_cases h3 : a = b
        · subst h3
          go_enter Tryd.func12, Tryd.ntmps12
          go_wp2_with (go_at_call 10; refine hN.mono ?_; rintro e w' ⟨rfl, rfl⟩)
          all_goals (go_ret; exact ⟨by first | (simp [h1, h2]; done) | simp_all, rfl⟩)
        · have h3' : (a == b) = false := beq_eq_false_iff_ne.2 h3
          rw [decide_eq_false (by omega)]
          clear h3
          go_enter Tryd.func12, Tryd.ntmps12
          go_wp2_with (go_at_call 10; refine hN.mono ?_; rintro e w' ⟨rfl, rfl⟩)
          all_goals (go_ret; exact ⟨rfl, rfl⟩)
      · rw [decide_eq_false (by omega)]
        go_enter Tryd.func12, Tryd.ntmps12
        go_wp2_with (go_at_call 10; refine hN.mono ?_; rintro e w' ⟨rfl, rfl⟩)
        all_goals (go_ret; exact ⟨rfl, rfl⟩)
    · rw [decide_eq_false (by omega)]
      go_enter Tryd.func12, Tryd.ntmps12
      go_wp2_with (go_at_call 10; refine hN.mono ?_; rintro e w' ⟨rfl, rfl⟩)
      all_goals (go_ret; exact ⟨rfl, rfl⟩)

theorem two_below (w : World) (o p : Obj) : Below w.heap.size w ((w.alloc o).alloc p).drew := probe.below_step (((Below.refl _ _).alloc (Nat.le_refl _) _).alloc (by simp) _) (under.drew_below _)
theorem rgroups_yes (k g : Int) (w : World) (hk : 1 ≤ k ∧ k ≤ 3) (hr : rt g = true) (hg : ¬ (k = 2 ∧ g = 64)) :
    Calls Tryd.prog 8 #[.int .i64 k, .int .i64 g] w fun e w' => e = .returned (.tuple #[.int .i64 (if k = 2 then 2 * g else g), .int .i64 (if k = 3 then 2 else 1), .int .i64 0]) ∧ Below w.heap.size w w' := by
  have hle := rt_le hr
  have hR := fun wx => rright_any g wx
  rw [hr] at hR
  have e2 : wrap64 (2 * g) = 2 * g := IntWalk.wrap64_in _ (by omega)
  have h : k = 1 ∨ k = 2 ∨ k = 3 := by omega
  clear hk
  rcases h with rfl | rfl | rfl
  · clear hg
    go_enter Tryd.func8, Tryd.ntmps8
    go_wp2_with (go_at_call 17; refine (hR _).mono ?_; rintro e w' ⟨rfl, rfl⟩)
    go_region
    all_goals
      go_wp2
      go_ret3
      exact ⟨rfl, two_below _ _ _⟩
  · have h64 : (g == 64) = false := beq_eq_false_iff_ne.2 fun e => hg ⟨rfl, e⟩
    clear hg
    go_enter Tryd.func8, Tryd.ntmps8
    go_wp2_with (go_at_call 17; refine (hR _).mono ?_; rintro e w' ⟨rfl, rfl⟩)
    go_region
    all_goals
      go_wp2
      go_ret3
      exact ⟨rfl, two_below _ _ _⟩
  · clear hg
    go_enter Tryd.func8, Tryd.ntmps8
    go_wp2_with (go_at_call 17; refine (hR _).mono ?_; rintro e w' ⟨rfl, rfl⟩)
    go_region
    all_goals
      go_wp2
      go_ret3
      exact ⟨rfl, two_below _ _ _⟩

theorem rgroups_kind (k g : Int) (w : World) (hk : ¬ (1 ≤ k ∧ k ≤ 3)) :
    Calls Tryd.prog 8 #[.int .i64 k, .int .i64 g] w fun e w' => e = .returned (.tuple #[.int .i64 0, .int .i64 0, .int .i64 14]) ∧ Below w.heap.size w w' := by
  by_cases h1 : k < 1
  · clear hk
    go_enter Tryd.func8, Tryd.ntmps8
    go_wp2
    all_goals (go_ret3; exact ⟨rfl, Below.refl _ _⟩)
  · have h2 : k > 3 := by omega
    clear hk
    go_enter Tryd.func8, Tryd.ntmps8
    go_wp2
    all_goals (go_ret3; exact ⟨rfl, Below.refl _ _⟩)
theorem rgroups_range (k g : Int) (w : World) (hk : 1 ≤ k ∧ k ≤ 3) (hg : ¬ (rt g = true ∧ ¬ (k = 2 ∧ g = 64))) :
    Calls Tryd.prog 8 #[.int .i64 k, .int .i64 g] w fun e w' => e = .returned (.tuple #[.int .i64 0, .int .i64 0, .int .i64 1]) ∧ Below w.heap.size w w' := by
  have hR := fun wx => rright_any g wx
  cases hr : rt g with
  | false =>
    clear hg
    rw [hr] at hR
    have h : k = 1 ∨ k = 2 ∨ k = 3 := by omega
    clear hk
    rcases h with rfl | rfl | rfl
    all_goals
      go_enter Tryd.func8, Tryd.ntmps8
      go_wp2_with (go_at_call 17; refine (hR _).mono ?_; rintro e w' ⟨rfl, rfl⟩)
      all_goals (go_ret3; exact ⟨rfl, Below.refl _ _⟩)
  | true =>
    have h : k = 2 ∧ g = 64 := by
      apply Classical.byContradiction; intro h; exact hg ⟨hr, h⟩
    obtain ⟨rfl, rfl⟩ := h
    clear hg hk
    rw [hr] at hR
    go_enter Tryd.func8, Tryd.ntmps8
    go_wp2_with (go_at_call 17; refine (hR _).mono ?_; rintro e w' ⟨rfl, rfl⟩)
    all_goals (go_ret3; exact ⟨rfl, Below.refl _ _⟩)
theorem rgroups_any (k g : Int) (w : World) :
    Calls Tryd.prog 8 #[.int .i64 k, .int .i64 g] w fun e w' => e = .returned (.tuple #[.int .i64 (ge k g), .int .i64 (gm k g), .int .i64 (gx k g : Nat)]) ∧ Below w.heap.size w w' := by
  by_cases hk : 1 ≤ k ∧ k ≤ 3
  · by_cases hg : rt g = true ∧ ¬ (k = 2 ∧ g = 64)
    · have e1 : ge k g = if k = 2 then 2 * g else g := by unfold ge; rw [if_pos ⟨hk, hg⟩]
      have e2 : gm k g = if k = 3 then 2 else 1 := by unfold gm; rw [if_pos ⟨hk, hg⟩]
      have e3 : gx k g = 0 := by unfold gx; rw [if_pos hk, if_pos hg]
      rw [e1, e2, e3]
      exact rgroups_yes k g w hk hg.1 hg.2
    · have e1 : ge k g = 0 := by unfold ge; rw [if_neg (fun h => hg h.2)]
      have e2 : gm k g = 0 := by unfold gm; rw [if_neg (fun h => hg h.2)]
      have e3 : gx k g = 1 := by unfold gx; rw [if_pos hk, if_neg hg]
      rw [e1, e2, e3]
      exact rgroups_range k g w hk hg
  · have e1 : ge k g = 0 := by unfold ge; rw [if_neg (fun h => hk h.1)]
    have e2 : gm k g = 0 := by unfold gm; rw [if_neg (fun h => hk h.1)]
    have e3 : gx k g = 14 := by unfold gx; rw [if_neg hk]
    rw [e1, e2, e3]
    exact rgroups_kind k g w hk
end Go.Proofs.YthnihnnonjodjaaDoor.choose
