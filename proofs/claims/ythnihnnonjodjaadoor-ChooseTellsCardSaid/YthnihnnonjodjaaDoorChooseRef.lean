/- The document's own for layer 14: Which, Double, Groups. -/
import Derived.Test.YthnihnnonjodjaaDoorChooseGroups
import Derived.Test.YthnihnnonjodjaaDoorKit
namespace Go.Proofs.YthnihnnonjodjaaDoor.choose
open Go.ChangeShapes Go.WideShapes Go.ChangeAt Go.RowKit errs under
set_option linter.unusedSimpArgs false
set_option linter.unusedVariables false

theorem rright_any (g : Int) (w : World) :
    Calls Tryd.prog 17 #[.int .i64 g] w fun e w' => e = .returned (.bool (rt g)) ∧ w = w' := by
  cases h : rt g with
  | true => obtain ⟨n, rfl, hn⟩ := rt_yes h; exact probe.rright_yes n hn w
  | false => exact probe.rright_no g (rt_no h) w

theorem sum_few {l t g : Int} (h1 : 0 ≤ l) (h2 : 0 ≤ t) (hg : 1 ≤ g ∧ g ≤ 64) : decide (mn2 l 1000 + mn2 t 1000 < 4 * g) = decide (l + t < 4 * g) := by
  apply decide_eq_decide.2; unfold mn2; split <;> split <;> omega
theorem mn2_le {l : Int} (h : 0 ≤ l) : 0 ≤ mn2 l 1000 ∧ mn2 l 1000 ≤ 1000 := by unfold mn2; split <;> omega

set_option maxHeartbeats 2000000 in
theorem rwhich_any (l t g a b : Int) (w : World) :
    Calls Tryd.prog 10 #[.int .i64 l, .int .i64 t, .int .i64 g, .int .i64 a, .int .i64 b] w fun e w' => e = .returned (.int .i64 (wh l t g a b)) ∧ w = w' := by
  have hR := rright_any g w
  by_cases h0 : 0 ≤ l ∧ 0 ≤ t ∧ 0 ≤ a ∧ 0 ≤ b
  · obtain ⟨h1, h2, h3, h4⟩ := h0
    have d1 : decide (l < 0) = false := decide_eq_false (by omega)
    have d2 : decide (t < 0) = false := decide_eq_false (by omega)
    have d3 : decide (a < 0) = false := decide_eq_false (by omega)
    have d4 : decide (b < 0) = false := decide_eq_false (by omega)
    cases hr : rt g with
    | false =>
      rw [wh_none (nd_groups hr)]
      rw [hr] at hR
      go_enter Tryd.func10, Tryd.ntmps10
      go_wp2_with (go_at_call 17; refine hR.mono ?_; rintro e w' ⟨rfl, rfl⟩)
      all_goals (go_ret; exact ⟨rfl, rfl⟩)
    | true =>
      rw [hr] at hR
      have hle := rt_le hr
      have hm1 := fun (ts : Array TypeId) (ty : TypeId) (W : World) => run_mn2 (P := Tryd.prog) (w := W) ts ty .i64 l 1000
      have hm2 := fun (ts : Array TypeId) (ty : TypeId) (W : World) => run_mn2 (P := Tryd.prog) (w := W) ts ty .i64 t 1000
      have hs := sum_few h1 h2 hle
      have b1 := mn2_le h1
      have b2 := mn2_le h2
      have hnd : nd l t g a b = !(decide (l + t < 4 * g)) := by
        rw [nd_is h1 h2 h3 h4 hr, ← decide_not]; exact decide_eq_decide.2 (by omega)
      generalize mn2 l 1000 = x at *
      generalize mn2 t 1000 = y at *
      have e0 : wrap64 (x + y) = x + y := IntWalk.wrap64_in _ (by omega)
      have e1 : wrap64 (4 * g) = 4 * g := IntWalk.wrap64_in _ (by omega)
      have e2 : wrap64 (2 * g) = 2 * g := IntWalk.wrap64_in _ (by omega)
      cases hn : nd l t g a b with
      | false =>
        rw [wh_none hn]
        rw [hn] at hnd
        have hq : decide (x + y < 4 * g) = true := by rw [hs]; simpa using hnd.symm
        clear hs hnd
        go_enter Tryd.func10, Tryd.ntmps10
        go_wp2_with (go_at_call 17; refine hR.mono ?_; rintro e w' ⟨rfl, rfl⟩)
        all_goals (go_ret; exact ⟨rfl, rfl⟩)
      | true =>
        rw [hn] at hnd
        have hq : decide (x + y < 4 * g) = false := by rw [hs]; simpa using hnd.symm
        clear hs hnd
        by_cases k1 : l ≤ 2 * g
        · rw [wh_few hn k1]
          go_enter Tryd.func10, Tryd.ntmps10
          go_wp2_with (go_at_call 17; refine hR.mono ?_; rintro e w' ⟨rfl, rfl⟩)
          all_goals (go_ret; exact ⟨rfl, rfl⟩)
        · by_cases k2 : 8 ≤ g ∧ a < b
          · rw [wh_split hn (by omega) k2.1 k2.2]
            obtain ⟨k3, k4⟩ := k2
            go_enter Tryd.func10, Tryd.ntmps10
            go_wp2_with (go_at_call 17; refine hR.mono ?_; rintro e w' ⟨rfl, rfl⟩)
            all_goals (go_ret; exact ⟨rfl, rfl⟩)
          · by_cases k3 : g < 64
            · rw [wh_grow hn (by omega) k2 k3]
              by_cases k4 : 8 ≤ g
              · have k5 : ¬ a < b := fun k5 => k2 ⟨k4, k5⟩
                clear k2
                go_enter Tryd.func10, Tryd.ntmps10
                go_wp2_with (go_at_call 17; refine hR.mono ?_; rintro e w' ⟨rfl, rfl⟩)
                all_goals (go_ret; exact ⟨rfl, rfl⟩)
              · clear k2
                go_enter Tryd.func10, Tryd.ntmps10
                go_wp2_with (go_at_call 17; refine hR.mono ?_; rintro e w' ⟨rfl, rfl⟩)
                all_goals (go_ret; exact ⟨rfl, rfl⟩)
            · rw [wh_last hn (by omega) k2 (by omega)]
              have k4 : 8 ≤ g := by omega
              have k5 : ¬ a < b := fun k5 => k2 ⟨k4, k5⟩
              clear k2
              go_enter Tryd.func10, Tryd.ntmps10
              go_wp2_with (go_at_call 17; refine hR.mono ?_; rintro e w' ⟨rfl, rfl⟩)
              all_goals (go_ret; exact ⟨rfl, rfl⟩)
  · rw [wh_none (nd_neg h0)]
    clear hR
    have h : l < 0 ∨ (¬ l < 0 ∧ t < 0) ∨ (¬ l < 0 ∧ ¬ t < 0 ∧ a < 0) ∨ (¬ l < 0 ∧ ¬ t < 0 ∧ ¬ a < 0 ∧ b < 0) := by omega
    clear h0
    rcases h with h | ⟨h0, h⟩ | ⟨h0, h1, h⟩ | ⟨h0, h1, h2, h⟩
    all_goals
      go_enter Tryd.func10, Tryd.ntmps10
      go_wp2
      all_goals (go_ret; exact ⟨rfl, rfl⟩)
end Go.Proofs.YthnihnnonjodjaaDoor.choose
