/- choose's own functions: needs, Which, Double, Groups, Units, Word. -/
import Derived.Test.YthnihnnonjodjaaDoorChooseMath
import Derived.Test.YthnihnnonjodjaaDoorProbeDoc
import Derived.Test.YthnihnnonjodjaaDoorErrors
namespace Go.Proofs.YthnihnnonjodjaaDoor.choose
open Go.ChangeShapes Go.WideShapes Go.ChangeAt Go.RowKit errs
set_option linter.unusedSimpArgs false
set_option linter.unusedVariables false

/-- an int of 64 bits -/
abbrev I (x : Int) : Prop := -9223372036854775808 ≤ x ∧ x ≤ 9223372036854775807

theorem right_any (g : Int) (w : World) :
    Calls Tryd.prog 16 #[.int .i64 g] w fun e w' => e = .returned (.bool (rt g)) ∧ w = w' := by
  cases h : rt g with
  | true => obtain ⟨n, rfl, hn⟩ := rt_yes h; exact probe.right_yes n hn w
  | false => exact probe.right_no g (rt_no h) w

theorem needs_any (l t g a b : Int) (hl : I l) (w : World) :
    Calls Tryd.prog 18 #[.int .i64 l, .int .i64 t, .int .i64 g, .int .i64 a, .int .i64 b] w fun e w' => e = .returned (.bool (nd l t g a b)) ∧ w = w' := by
  have hmin := fun (ts : Array TypeId) (ty : TypeId) (W : World) => run_min4 (P := Tryd.prog) (w := W) ts ty .i64 l t a b
  have hlt := mn4_lt l t a b
  generalize mn4 l t a b = m at hmin hlt
  by_cases h : l < 0 ∨ t < 0 ∨ a < 0 ∨ b < 0
  · rw [decide_eq_true h] at hlt
    rw [nd_neg (by omega)]
    go_enter Tryd.func18, Tryd.ntmps18
    go_wp2_with (go_at_call 16; refine (right_any _ _).mono ?_; rintro e w' ⟨rfl, rfl⟩)
    all_goals (go_ret; exact ⟨rfl, rfl⟩)
  · rw [decide_eq_false h] at hlt
    have hR := right_any g w
    cases hr : rt g with
    | false =>
      rw [nd_groups hr]
      rw [hr] at hR
      go_enter Tryd.func18, Tryd.ntmps18
      go_wp2_with (go_at_call 16; refine hR.mono ?_; rintro e w' ⟨rfl, rfl⟩)
      all_goals (go_ret; exact ⟨rfl, rfl⟩)
    | true =>
      rw [hr] at hR
      have hle := rt_le hr
      rw [nd_is (by omega) (by omega) (by omega) (by omega) hr]
      have e1 : wrap64 (4 * g) = 4 * g := IntWalk.wrap64_in _ (by omega)
      have e2 : wrap64 (4 * g - l) = 4 * g - l := IntWalk.wrap64_in _ (by omega)
      go_enter Tryd.func18, Tryd.ntmps18
      go_wp2_with (go_at_call 16; refine hR.mono ?_; rintro e w' ⟨rfl, rfl⟩)
      all_goals (go_ret; exact ⟨by simp [e1, e2], rfl⟩)

theorem which_any (l t g a b : Int) (hl : I l) (w : World) :
    Calls Tryd.prog 9 #[.int .i64 l, .int .i64 t, .int .i64 g, .int .i64 a, .int .i64 b] w fun e w' => e = .returned (.int .i64 (wh l t g a b)) ∧ w = w' := by
  have hN := needs_any l t g a b hl w
  cases h : nd l t g a b with
  | false =>
    rw [h] at hN
    rw [wh_none h]
    go_enter Tryd.func9, Tryd.ntmps9
    go_wp2_with (go_at_call 18; refine hN.mono ?_; rintro e w' ⟨rfl, rfl⟩)
    all_goals (go_ret; exact ⟨rfl, rfl⟩)
  | true =>
    rw [h] at hN
    have hle := rt_le (nd_yes h).2.2.2.2.1
    have e1 : wrap64 (2 * g) = 2 * g := IntWalk.wrap64_in _ (by omega)
    by_cases h1 : l ≤ 2 * g
    · rw [wh_few h h1]
      go_enter Tryd.func9, Tryd.ntmps9
      go_wp2_with (go_at_call 18; refine hN.mono ?_; rintro e w' ⟨rfl, rfl⟩)
      all_goals (go_ret; exact ⟨rfl, rfl⟩)
    · by_cases h2 : 8 ≤ g ∧ a < b
      · rw [wh_split h (by omega) h2.1 h2.2]
        obtain ⟨h3, h4⟩ := h2
        go_enter Tryd.func9, Tryd.ntmps9
        go_wp2_with (go_at_call 18; refine hN.mono ?_; rintro e w' ⟨rfl, rfl⟩)
        all_goals (go_ret; exact ⟨rfl, rfl⟩)
      · by_cases h3 : g < 64
        · rw [wh_grow h (by omega) h2 h3]
          by_cases h4 : 8 ≤ g
          · have h5 : ¬ a < b := fun h5 => h2 ⟨h4, h5⟩
            clear h2
            go_enter Tryd.func9, Tryd.ntmps9
            go_wp2_with (go_at_call 18; refine hN.mono ?_; rintro e w' ⟨rfl, rfl⟩)
            all_goals (go_ret; exact ⟨rfl, rfl⟩)
          · clear h2
            go_enter Tryd.func9, Tryd.ntmps9
            go_wp2_with (go_at_call 18; refine hN.mono ?_; rintro e w' ⟨rfl, rfl⟩)
            all_goals (go_ret; exact ⟨rfl, rfl⟩)
        · rw [wh_last h (by omega) h2 (by omega)]
          have h4 : 8 ≤ g := by omega
          have h5 : ¬ a < b := fun h5 => h2 ⟨h4, h5⟩
          clear h2
          go_enter Tryd.func9, Tryd.ntmps9
          go_wp2_with (go_at_call 18; refine hN.mono ?_; rintro e w' ⟨rfl, rfl⟩)
          all_goals (go_ret; exact ⟨rfl, rfl⟩)

theorem double_any (l t g a b : Int) (hl : I l) (w : World) :
    Calls Tryd.prog 11 #[.int .i64 l, .int .i64 t, .int .i64 g, .int .i64 a, .int .i64 b] w fun e w' => e = .returned (.bool (db l t g a b)) ∧ w = w' := by
  have hN := needs_any l t g a b hl w
  unfold db
  cases h : nd l t g a b with
  | false =>
    rw [h] at hN
    rw [Bool.false_and]
    go_enter Tryd.func11, Tryd.ntmps11
    go_wp2_with (go_at_call 18; refine hN.mono ?_; rintro e w' ⟨rfl, rfl⟩)
    all_goals (go_ret; exact ⟨rfl, rfl⟩)
  | true =>
    rw [h] at hN
    have hle := rt_le (nd_yes h).2.2.2.2.1
    have e1 : wrap64 (2 * g) = 2 * g := IntWalk.wrap64_in _ (by omega)
    rw [Bool.true_and]
    by_cases h1 : 2 * g < l
    · by_cases h2 : 8 ≤ g
      · by_cases h3 : a = b
        · subst h3
          go_enter Tryd.func11, Tryd.ntmps11
          go_wp2_with (go_at_call 18; refine hN.mono ?_; rintro e w' ⟨rfl, rfl⟩)
          all_goals (go_ret; exact ⟨by simp [h1, h2], rfl⟩)
        · have h3' : (a == b) = false := beq_eq_false_iff_ne.2 h3
          rw [decide_eq_false (by omega)]
          clear h3
          go_enter Tryd.func11, Tryd.ntmps11
          go_wp2_with (go_at_call 18; refine hN.mono ?_; rintro e w' ⟨rfl, rfl⟩)
          all_goals (go_ret; exact ⟨rfl, rfl⟩)
      · rw [decide_eq_false (by omega)]
        go_enter Tryd.func11, Tryd.ntmps11
        go_wp2_with (go_at_call 18; refine hN.mono ?_; rintro e w' ⟨rfl, rfl⟩)
        all_goals (go_ret; exact ⟨rfl, rfl⟩)
    · rw [decide_eq_false (by omega)]
      go_enter Tryd.func11, Tryd.ntmps11
      go_wp2_with (go_at_call 18; refine hN.mono ?_; rintro e w' ⟨rfl, rfl⟩)
      all_goals (go_ret; exact ⟨rfl, rfl⟩)
end Go.Proofs.YthnihnnonjodjaaDoor.choose
