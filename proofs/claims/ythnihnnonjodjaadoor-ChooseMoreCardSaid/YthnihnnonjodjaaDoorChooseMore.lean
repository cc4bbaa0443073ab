/- ChooseMore: the walk. -/
import Derived.Test.YthnihnnonjodjaaDoorChooseRoom
namespace Go.Proofs.YthnihnnonjodjaaDoor.choose
open Go.ChangeShapes Go.WideShapes Go.ChangeAt Go.RowKit errs under
set_option linter.unusedSimpArgs false
set_option linter.unusedVariables false

/-- a number's rest by 500 -/
theorem rest500 (z : Int) : ∃ k : Nat, k < 500 ∧ IntKind.i64.wrap ((IntKind.u64.wrap z).tmod 500) = (k : Int) := by
  have h : IntKind.u64.wrap z = z % 18446744073709551616 := by simp [IntKind.wrap, IntKind.signed, IntKind.bits]
  rw [h]
  obtain ⟨n, hn⟩ := Int.eq_ofNat_of_zero_le (Int.emod_nonneg z (show (18446744073709551616 : Int) ≠ 0 by decide))
  rw [hn, show ((n : Int).tmod 500) = ((n % 500 : Nat) : Int) from (Int.ofNat_tmod n 500).symm]
  have := Nat.mod_lt n (show 0 < 500 by decide)
  exact ⟨n % 500, this, wr_in (by omega) (by omega)⟩

/-- the law's second argument as a value, and both as blocks -/
abbrev two (x y : Int) : Value := .agg #[.int .i64 x, .int .i64 y]
abbrev box7 (w : World) (l t g a b x y : Int) : World := (box5 w l t g a b).alloc (.cells #[.int .i64 x, .int .i64 y] 39)
theorem box7_below (w : World) (l t g a b x y : Int) : Below w.heap.size w (box7 w l t g a b x y) := (box_below w l t g a b).alloc (by simp) _
theorem box7_cells (w : World) (l t g a b x y : Int) : B5 w.heap.size l t g a b (box7 w l t g a b x y) := (B5.new w l t g a b).below ((Below.refl _ _).alloc (Nat.le_refl _) _)
theorem box7_two (w : World) (l t g a b x y : Int) : (box7 w l t g a b x y).cell? ⟨w.heap.size + 1, 0, none⟩ = some (.int .i64 x) ∧ (box7 w l t g a b x y).cell? ⟨w.heap.size + 1, 1, none⟩ = some (.int .i64 y) := by
  have e : (box5 w l t g a b).heap.size = w.heap.size + 1 := by simp
  rw [← e]
  exact ⟨by rw [World.cell?_alloc_new]; rfl, by rw [World.cell?_alloc_new]; rfl⟩

theorem nd_more {l t g a b : Int} (h : nd l t g a b = true) {p q : Nat} : nd (l + p) (t + q) g a b = true := by
  obtain ⟨h1, h2, h3, h4, h5, h6⟩ := nd_yes h
  rw [nd_is (by omega) (by omega) h3 h4 h5, decide_eq_true_eq]; omega
theorem wh_ne {l t g a b : Int} (h : nd l t g a b = true) : (wh l t g a b == 0) = false := by
  rcases wh_cases l t g a b with ⟨_, hn⟩ | ⟨_, ⟨hk, _⟩ | ⟨hk, _⟩ | ⟨hk, _⟩⟩
  · rw [h] at hn; cases hn
  all_goals (rw [hk]; rfl)
theorem db_yes {l t g a b : Int} (h : db l t g a b = true) : nd l t g a b = true ∧ 2 * g < l ∧ 8 ≤ g ∧ a = b := by
  simp only [db, Bool.and_eq_true, decide_eq_true_eq] at h
  exact ⟨h.1, h.2.1, h.2.2.1, h.2.2.2.1⟩

/-! ### the walks -/

set_option maxRecDepth 100000 in
set_option maxHeartbeats 8000000 in
theorem more_out (l t g a b x y : Int) (w : World) (hW : WordsOk w) (h : l < 0 ∨ (¬ l < 0 ∧ t < 0) ∨ (¬ l < 0 ∧ ¬ t < 0 ∧ l > 600) ∨ (¬ l < 0 ∧ ¬ t < 0 ∧ ¬ l > 600 ∧ t > 600)) :
    Calls Tryd.prog 5 #[num5 l t g a b, two x y] w fun e w' => e = .returned (.bool true) ∧ Below w.heap.size w w' := by
  have hb0 := box7_below w l t g a b x y
  have hA := alive_any _ (hW.below hb0)
  have hC0 := box7_cells w l t g a b x y
  obtain ⟨x0, x1⟩ := box7_two w l t g a b x y
  clear hW
  obtain ⟨c0, c1, c2, c3, c4⟩ := hC0
  rcases h with h | ⟨h0, h⟩ | ⟨h0, h1, h⟩ | ⟨h0, h1, h2, h⟩
  all_goals
    go_enter Tryd.func5, Tryd.ntmps5
    go_wp2_with (go_at_call 6; refine hA.mono ?_; rintro e w1 ⟨rfl, rfl⟩)
    go_ret
    exact ⟨rfl, hb0⟩

set_option maxRecDepth 100000 in
set_option maxHeartbeats 8000000 in
theorem more_none (l t g a b x y : Int) (w : World) (hW : WordsOk w) (h0 : ¬ l < 0) (h1 : ¬ t < 0) (h2 : ¬ l > 600) (h3 : ¬ t > 600) (hn : nd l t g a b = false) :
    Calls Tryd.prog 5 #[num5 l t g a b, two x y] w fun e w' => e = .returned (.bool true) ∧ Below w.heap.size w w' := by
  have hb0 := box7_below w l t g a b x y
  have hA := alive_any _ (hW.below hb0)
  have hC0 := box7_cells w l t g a b x y
  obtain ⟨x0, x1⟩ := box7_two w l t g a b x y
  clear hW
  have hN := fun wx => which_any l t g a b (by constructor <;> omega) wx
  have hD := fun wx => double_any l t g a b (by constructor <;> omega) wx
  rw [wh_none hn] at hN
  rw [show db l t g a b = false by unfold db; rw [hn, Bool.false_and]] at hD
  obtain ⟨c0, c1, c2, c3, c4⟩ := hC0
  obtain ⟨p, hp, ep⟩ := rest500 x
  obtain ⟨q, hq, eq⟩ := rest500 y
  have v1 : wrap64 (l + p) = l + p := IntWalk.wrap64_in _ (by omega)
  have v2 : wrap64 (t + q) = t + q := IntWalk.wrap64_in _ (by omega)
  go_enter Tryd.func5, Tryd.ntmps5
  go_wp2_with (go_at_call 6; refine hA.mono ?_; rintro e w1 ⟨rfl, rfl⟩)
  go_quiet (fail)
  go_wp2_with (first
    | (go_at_call 9; (with_reducible refine (hN _).mono ?_); rintro e w3 ⟨rfl, rfl⟩)
    | (go_at_call 9; (with_reducible refine (hN2 _).mono ?_); rintro e w3 ⟨rfl, rfl⟩)
    | (go_at_call 9; (with_reducible refine (hN3 _).mono ?_); rintro e w3 ⟨rfl, rfl⟩)
    | (go_at_call 11; (with_reducible refine (hD _).mono ?_); rintro e w3 ⟨rfl, rfl⟩))
  all_goals (go_ret; exact ⟨by first | rfl | (simp [*]; done) | (simp; omega), probe.below_step hb0 (probe.drewN_below _ _)⟩)

set_option maxRecDepth 100000 in
set_option maxHeartbeats 8000000 in
theorem more_job1 (l t g a b x y : Int) (w : World) (hW : WordsOk w) (h0 : ¬ l < 0) (h1 : ¬ t < 0) (h2 : ¬ l > 600) (h3 : ¬ t > 600) (hn : nd l t g a b = true) (hk : wh l t g a b = 1) (hd : db l t g a b = false)  :
    Calls Tryd.prog 5 #[num5 l t g a b, two x y] w fun e w' => e = .returned (.bool true) ∧ Below w.heap.size w w' := by
  have hb0 := box7_below w l t g a b x y
  have hA := alive_any _ (hW.below hb0)
  have hC0 := box7_cells w l t g a b x y
  obtain ⟨x0, x1⟩ := box7_two w l t g a b x y
  clear hW
  have hN := fun wx => which_any l t g a b (by constructor <;> omega) wx
  have hD := fun wx => double_any l t g a b (by constructor <;> omega) wx
  rw [hk] at hN
  rw [hd] at hD
  have hle := rt_le (nd_yes hn).2.2.2.2.1
  clear hk hd
  obtain ⟨c0, c1, c2, c3, c4⟩ := hC0
  obtain ⟨p, hp, ep⟩ := rest500 x
  obtain ⟨q, hq, eq⟩ := rest500 y
  have v1 : wrap64 (l + p) = l + p := IntWalk.wrap64_in _ (by omega)
  have v2 : wrap64 (t + q) = t + q := IntWalk.wrap64_in _ (by omega)
  have hN2 := fun wx => which_any (l + p) (t + q) g a b (by constructor <;> omega) wx
  have k2 := wh_ne (nd_more hn (p := p) (q := q))
  generalize wh (l + p) (t + q) g a b = K2 at hN2 k2
  clear hn
  go_enter Tryd.func5, Tryd.ntmps5
  go_wp2_with (go_at_call 6; refine hA.mono ?_; rintro e w1 ⟨rfl, rfl⟩)
  go_quiet (fail)
  go_wp2_with (first
    | (go_at_call 9; (with_reducible refine (hN _).mono ?_); rintro e w3 ⟨rfl, rfl⟩)
    | (go_at_call 9; (with_reducible refine (hN2 _).mono ?_); rintro e w3 ⟨rfl, rfl⟩)
    | (go_at_call 9; (with_reducible refine (hN3 _).mono ?_); rintro e w3 ⟨rfl, rfl⟩)
    | (go_at_call 11; (with_reducible refine (hD _).mono ?_); rintro e w3 ⟨rfl, rfl⟩))
  all_goals (go_ret; exact ⟨by first | rfl | (simp [*]; done) | (simp; omega), probe.below_step hb0 (probe.drewN_below _ _)⟩)

set_option maxRecDepth 100000 in
set_option maxHeartbeats 8000000 in
theorem more_job3 (l t g a b x y : Int) (w : World) (hW : WordsOk w) (h0 : ¬ l < 0) (h1 : ¬ t < 0) (h2 : ¬ l > 600) (h3 : ¬ t > 600) (hn : nd l t g a b = true) (hk : wh l t g a b = 3) (hd : db l t g a b = false)  :
    Calls Tryd.prog 5 #[num5 l t g a b, two x y] w fun e w' => e = .returned (.bool true) ∧ Below w.heap.size w w' := by
  have hb0 := box7_below w l t g a b x y
  have hA := alive_any _ (hW.below hb0)
  have hC0 := box7_cells w l t g a b x y
  obtain ⟨x0, x1⟩ := box7_two w l t g a b x y
  clear hW
  have hN := fun wx => which_any l t g a b (by constructor <;> omega) wx
  have hD := fun wx => double_any l t g a b (by constructor <;> omega) wx
  rw [hk] at hN
  rw [hd] at hD
  have hle := rt_le (nd_yes hn).2.2.2.2.1
  clear hk hd
  obtain ⟨c0, c1, c2, c3, c4⟩ := hC0
  obtain ⟨p, hp, ep⟩ := rest500 x
  obtain ⟨q, hq, eq⟩ := rest500 y
  have v1 : wrap64 (l + p) = l + p := IntWalk.wrap64_in _ (by omega)
  have v2 : wrap64 (t + q) = t + q := IntWalk.wrap64_in _ (by omega)
  have hN2 := fun wx => which_any (l + p) (t + q) g a b (by constructor <;> omega) wx
  have k2 := wh_ne (nd_more hn (p := p) (q := q))
  generalize wh (l + p) (t + q) g a b = K2 at hN2 k2
  clear hn
  go_enter Tryd.func5, Tryd.ntmps5
  go_wp2_with (go_at_call 6; refine hA.mono ?_; rintro e w1 ⟨rfl, rfl⟩)
  go_quiet (fail)
  go_wp2_with (first
    | (go_at_call 9; (with_reducible refine (hN _).mono ?_); rintro e w3 ⟨rfl, rfl⟩)
    | (go_at_call 9; (with_reducible refine (hN2 _).mono ?_); rintro e w3 ⟨rfl, rfl⟩)
    | (go_at_call 9; (with_reducible refine (hN3 _).mono ?_); rintro e w3 ⟨rfl, rfl⟩)
    | (go_at_call 11; (with_reducible refine (hD _).mono ?_); rintro e w3 ⟨rfl, rfl⟩))
  all_goals (go_ret; exact ⟨by first | rfl | (simp [*]; done) | (simp; omega), probe.below_step hb0 (probe.drewN_below _ _)⟩)

set_option maxRecDepth 100000 in
set_option maxHeartbeats 8000000 in
theorem more_job1d (l t g a b x y : Int) (w : World) (hW : WordsOk w) (h0 : ¬ l < 0) (h1 : ¬ t < 0) (h2 : ¬ l > 600) (h3 : ¬ t > 600) (hn : nd l t g a b = true) (hk : wh l t g a b = 1) (hd : db l t g a b = true)  :
    Calls Tryd.prog 5 #[num5 l t g a b, two x y] w fun e w' => e = .returned (.bool true) ∧ Below w.heap.size w w' := by
  have hb0 := box7_below w l t g a b x y
  have hA := alive_any _ (hW.below hb0)
  have hC0 := box7_cells w l t g a b x y
  obtain ⟨x0, x1⟩ := box7_two w l t g a b x y
  clear hW
  have hN := fun wx => which_any l t g a b (by constructor <;> omega) wx
  have hD := fun wx => double_any l t g a b (by constructor <;> omega) wx
  rw [hk] at hN
  rw [hd] at hD
  have hle := rt_le (nd_yes hn).2.2.2.2.1
  obtain ⟨_, s1, s2, s3⟩ := db_yes hd
  subst s3
  have u1 : wrap64 (2 * g) = 2 * g := IntWalk.wrap64_in _ (by omega)
  clear hk hd
  obtain ⟨c0, c1, c2, c3, c4⟩ := hC0
  obtain ⟨p, hp, ep⟩ := rest500 x
  obtain ⟨q, hq, eq⟩ := rest500 y
  have v1 : wrap64 (l + p) = l + p := IntWalk.wrap64_in _ (by omega)
  have v2 : wrap64 (t + q) = t + q := IntWalk.wrap64_in _ (by omega)
  have hN2 := fun wx => which_any (l + p) (t + q) g a a (by constructor <;> omega) wx
  have k2 := wh_ne (nd_more hn (p := p) (q := q))
  generalize wh (l + p) (t + q) g a a = K2 at hN2 k2
  clear hn
  go_enter Tryd.func5, Tryd.ntmps5
  go_wp2_with (go_at_call 6; refine hA.mono ?_; rintro e w1 ⟨rfl, rfl⟩)
  go_quiet (fail)
  go_wp2_with (first
    | (go_at_call 9; (with_reducible refine (hN _).mono ?_); rintro e w3 ⟨rfl, rfl⟩)
    | (go_at_call 9; (with_reducible refine (hN2 _).mono ?_); rintro e w3 ⟨rfl, rfl⟩)
    | (go_at_call 9; (with_reducible refine (hN3 _).mono ?_); rintro e w3 ⟨rfl, rfl⟩)
    | (go_at_call 11; (with_reducible refine (hD _).mono ?_); rintro e w3 ⟨rfl, rfl⟩))
  all_goals (go_ret; exact ⟨by first | rfl | (simp [*]; done) | (simp; omega), probe.below_step hb0 (probe.drewN_below _ _)⟩)

set_option maxRecDepth 100000 in
set_option maxHeartbeats 8000000 in
theorem more_job2m (l t g a b x y : Int) (w : World) (hW : WordsOk w) (h0 : ¬ l < 0) (h1 : ¬ t < 0) (h2 : ¬ l > 600) (h3 : ¬ t > 600) (hn : nd l t g a b = true) (hk : wh l t g a b = 2) (hd : db l t g a b = false) (hm : 8 * g ≤ l + t) :
    Calls Tryd.prog 5 #[num5 l t g a b, two x y] w fun e w' => e = .returned (.bool true) ∧ Below w.heap.size w w' := by
  have hb0 := box7_below w l t g a b x y
  have hA := alive_any _ (hW.below hb0)
  have hC0 := box7_cells w l t g a b x y
  obtain ⟨x0, x1⟩ := box7_two w l t g a b x y
  clear hW
  have hN := fun wx => which_any l t g a b (by constructor <;> omega) wx
  have hD := fun wx => double_any l t g a b (by constructor <;> omega) wx
  rw [hk] at hN
  rw [hd] at hD
  have hle := rt_le (nd_yes hn).2.2.2.2.1
  have u2 : wrap64 (l + t) = l + t := IntWalk.wrap64_in _ (by omega)
  have u3 : wrap64 (8 * g) = 8 * g := IntWalk.wrap64_in _ (by omega)
  have u4 : wrap64 (2 * g) = 2 * g := IntWalk.wrap64_in _ (by omega)
  clear hk hd
  obtain ⟨c0, c1, c2, c3, c4⟩ := hC0
  obtain ⟨p, hp, ep⟩ := rest500 x
  obtain ⟨q, hq, eq⟩ := rest500 y
  have v1 : wrap64 (l + p) = l + p := IntWalk.wrap64_in _ (by omega)
  have v2 : wrap64 (t + q) = t + q := IntWalk.wrap64_in _ (by omega)
  have hN2 := fun wx => which_any (l + p) (t + q) g a b (by constructor <;> omega) wx
  have k2 := wh_ne (nd_more hn (p := p) (q := q))
  generalize wh (l + p) (t + q) g a b = K2 at hN2 k2
  clear hn
  go_enter Tryd.func5, Tryd.ntmps5
  go_wp2_with (go_at_call 6; refine hA.mono ?_; rintro e w1 ⟨rfl, rfl⟩)
  go_quiet (fail)
  go_wp2_with (first
    | (go_at_call 9; (with_reducible refine (hN _).mono ?_); rintro e w3 ⟨rfl, rfl⟩)
    | (go_at_call 9; (with_reducible refine (hN2 _).mono ?_); rintro e w3 ⟨rfl, rfl⟩)
    | (go_at_call 9; (with_reducible refine (hN3 _).mono ?_); rintro e w3 ⟨rfl, rfl⟩)
    | (go_at_call 11; (with_reducible refine (hD _).mono ?_); rintro e w3 ⟨rfl, rfl⟩))
  all_goals (go_ret; exact ⟨by first | rfl | (simp [*]; done) | (simp; omega), probe.below_step hb0 (probe.drewN_below _ _)⟩)

set_option maxRecDepth 100000 in
set_option maxHeartbeats 8000000 in
theorem more_job2f (l t g a b x y : Int) (w : World) (hW : WordsOk w) (h0 : ¬ l < 0) (h1 : ¬ t < 0) (h2 : ¬ l > 600) (h3 : ¬ t > 600) (hn : nd l t g a b = true) (hk : wh l t g a b = 2) (hd : db l t g a b = false) (hm : l + t < 8 * g) :
    Calls Tryd.prog 5 #[num5 l t g a b, two x y] w fun e w' => e = .returned (.bool true) ∧ Below w.heap.size w w' := by
  have hb0 := box7_below w l t g a b x y
  have hA := alive_any _ (hW.below hb0)
  have hC0 := box7_cells w l t g a b x y
  obtain ⟨x0, x1⟩ := box7_two w l t g a b x y
  clear hW
  have hN := fun wx => which_any l t g a b (by constructor <;> omega) wx
  have hD := fun wx => double_any l t g a b (by constructor <;> omega) wx
  rw [hk] at hN
  rw [hd] at hD
  have hle := rt_le (nd_yes hn).2.2.2.2.1
  have u2 : wrap64 (l + t) = l + t := IntWalk.wrap64_in _ (by omega)
  have u3 : wrap64 (8 * g) = 8 * g := IntWalk.wrap64_in _ (by omega)
  have u4 : wrap64 (2 * g) = 2 * g := IntWalk.wrap64_in _ (by omega)
  have hN3 := fun wx => which_any l 0 (2 * g) a b (by constructor <;> omega) wx
  rw [wh_none (nd_few (by omega))] at hN3
  clear hk hd
  obtain ⟨c0, c1, c2, c3, c4⟩ := hC0
  obtain ⟨p, hp, ep⟩ := rest500 x
  obtain ⟨q, hq, eq⟩ := rest500 y
  have v1 : wrap64 (l + p) = l + p := IntWalk.wrap64_in _ (by omega)
  have v2 : wrap64 (t + q) = t + q := IntWalk.wrap64_in _ (by omega)
  have hN2 := fun wx => which_any (l + p) (t + q) g a b (by constructor <;> omega) wx
  have k2 := wh_ne (nd_more hn (p := p) (q := q))
  generalize wh (l + p) (t + q) g a b = K2 at hN2 k2
  clear hn
  go_enter Tryd.func5, Tryd.ntmps5
  go_wp2_with (go_at_call 6; refine hA.mono ?_; rintro e w1 ⟨rfl, rfl⟩)
  go_quiet (fail)
  go_wp2_with (first
    | (go_at_call 9; (with_reducible refine (hN _).mono ?_); rintro e w3 ⟨rfl, rfl⟩)
    | (go_at_call 9; (with_reducible refine (hN2 _).mono ?_); rintro e w3 ⟨rfl, rfl⟩)
    | (go_at_call 9; (with_reducible refine (hN3 _).mono ?_); rintro e w3 ⟨rfl, rfl⟩)
    | (go_at_call 11; (with_reducible refine (hD _).mono ?_); rintro e w3 ⟨rfl, rfl⟩))
  all_goals (go_ret; exact ⟨by first | rfl | (simp [*]; done) | (simp; omega), probe.below_step hb0 (probe.drewN_below _ _)⟩)

set_option maxRecDepth 100000 in
set_option maxHeartbeats 8000000 in
theorem more_job2dm (l t g a b x y : Int) (w : World) (hW : WordsOk w) (h0 : ¬ l < 0) (h1 : ¬ t < 0) (h2 : ¬ l > 600) (h3 : ¬ t > 600) (hn : nd l t g a b = true) (hk : wh l t g a b = 2) (hd : db l t g a b = true) (hm : 8 * g ≤ l + t) :
    Calls Tryd.prog 5 #[num5 l t g a b, two x y] w fun e w' => e = .returned (.bool true) ∧ Below w.heap.size w w' := by
  have hb0 := box7_below w l t g a b x y
  have hA := alive_any _ (hW.below hb0)
  have hC0 := box7_cells w l t g a b x y
  obtain ⟨x0, x1⟩ := box7_two w l t g a b x y
  clear hW
  have hN := fun wx => which_any l t g a b (by constructor <;> omega) wx
  have hD := fun wx => double_any l t g a b (by constructor <;> omega) wx
  rw [hk] at hN
  rw [hd] at hD
  have hle := rt_le (nd_yes hn).2.2.2.2.1
  obtain ⟨_, s1, s2, s3⟩ := db_yes hd
  subst s3
  have u1 : wrap64 (2 * g) = 2 * g := IntWalk.wrap64_in _ (by omega)
  have u2 : wrap64 (l + t) = l + t := IntWalk.wrap64_in _ (by omega)
  have u3 : wrap64 (8 * g) = 8 * g := IntWalk.wrap64_in _ (by omega)
  have u4 : wrap64 (2 * g) = 2 * g := IntWalk.wrap64_in _ (by omega)
  clear hk hd
  obtain ⟨c0, c1, c2, c3, c4⟩ := hC0
  obtain ⟨p, hp, ep⟩ := rest500 x
  obtain ⟨q, hq, eq⟩ := rest500 y
  have v1 : wrap64 (l + p) = l + p := IntWalk.wrap64_in _ (by omega)
  have v2 : wrap64 (t + q) = t + q := IntWalk.wrap64_in _ (by omega)
  have hN2 := fun wx => which_any (l + p) (t + q) g a a (by constructor <;> omega) wx
  have k2 := wh_ne (nd_more hn (p := p) (q := q))
  generalize wh (l + p) (t + q) g a a = K2 at hN2 k2
  clear hn
  go_enter Tryd.func5, Tryd.ntmps5
  go_wp2_with (go_at_call 6; refine hA.mono ?_; rintro e w1 ⟨rfl, rfl⟩)
  go_quiet (fail)
  go_wp2_with (first
    | (go_at_call 9; (with_reducible refine (hN _).mono ?_); rintro e w3 ⟨rfl, rfl⟩)
    | (go_at_call 9; (with_reducible refine (hN2 _).mono ?_); rintro e w3 ⟨rfl, rfl⟩)
    | (go_at_call 9; (with_reducible refine (hN3 _).mono ?_); rintro e w3 ⟨rfl, rfl⟩)
    | (go_at_call 11; (with_reducible refine (hD _).mono ?_); rintro e w3 ⟨rfl, rfl⟩))
  all_goals (go_ret; exact ⟨by first | rfl | (simp [*]; done) | (simp; omega), probe.below_step hb0 (probe.drewN_below _ _)⟩)

set_option maxRecDepth 100000 in
set_option maxHeartbeats 8000000 in
theorem more_job2df (l t g a b x y : Int) (w : World) (hW : WordsOk w) (h0 : ¬ l < 0) (h1 : ¬ t < 0) (h2 : ¬ l > 600) (h3 : ¬ t > 600) (hn : nd l t g a b = true) (hk : wh l t g a b = 2) (hd : db l t g a b = true) (hm : l + t < 8 * g) :
    Calls Tryd.prog 5 #[num5 l t g a b, two x y] w fun e w' => e = .returned (.bool true) ∧ Below w.heap.size w w' := by
  have hb0 := box7_below w l t g a b x y
  have hA := alive_any _ (hW.below hb0)
  have hC0 := box7_cells w l t g a b x y
  obtain ⟨x0, x1⟩ := box7_two w l t g a b x y
  clear hW
  have hN := fun wx => which_any l t g a b (by constructor <;> omega) wx
  have hD := fun wx => double_any l t g a b (by constructor <;> omega) wx
  rw [hk] at hN
  rw [hd] at hD
  have hle := rt_le (nd_yes hn).2.2.2.2.1
  obtain ⟨_, s1, s2, s3⟩ := db_yes hd
  subst s3
  have u1 : wrap64 (2 * g) = 2 * g := IntWalk.wrap64_in _ (by omega)
  have u2 : wrap64 (l + t) = l + t := IntWalk.wrap64_in _ (by omega)
  have u3 : wrap64 (8 * g) = 8 * g := IntWalk.wrap64_in _ (by omega)
  have u4 : wrap64 (2 * g) = 2 * g := IntWalk.wrap64_in _ (by omega)
  have hN3 := fun wx => which_any l 0 (2 * g) a a (by constructor <;> omega) wx
  rw [wh_none (nd_few (by omega))] at hN3
  clear hk hd
  obtain ⟨c0, c1, c2, c3, c4⟩ := hC0
  obtain ⟨p, hp, ep⟩ := rest500 x
  obtain ⟨q, hq, eq⟩ := rest500 y
  have v1 : wrap64 (l + p) = l + p := IntWalk.wrap64_in _ (by omega)
  have v2 : wrap64 (t + q) = t + q := IntWalk.wrap64_in _ (by omega)
  have hN2 := fun wx => which_any (l + p) (t + q) g a a (by constructor <;> omega) wx
  have k2 := wh_ne (nd_more hn (p := p) (q := q))
  generalize wh (l + p) (t + q) g a a = K2 at hN2 k2
  clear hn
  go_enter Tryd.func5, Tryd.ntmps5
  go_wp2_with (go_at_call 6; refine hA.mono ?_; rintro e w1 ⟨rfl, rfl⟩)
  go_quiet (fail)
  go_wp2_with (first
    | (go_at_call 9; (with_reducible refine (hN _).mono ?_); rintro e w3 ⟨rfl, rfl⟩)
    | (go_at_call 9; (with_reducible refine (hN2 _).mono ?_); rintro e w3 ⟨rfl, rfl⟩)
    | (go_at_call 9; (with_reducible refine (hN3 _).mono ?_); rintro e w3 ⟨rfl, rfl⟩)
    | (go_at_call 11; (with_reducible refine (hD _).mono ?_); rintro e w3 ⟨rfl, rfl⟩))
  all_goals (go_ret; exact ⟨by first | rfl | (simp [*]; done) | (simp; omega), probe.below_step hb0 (probe.drewN_below _ _)⟩)

/-- ChooseMore: the law returns true -/
theorem more_any (l t g a b x y : Int) (w : World) (hW : WordsOk w) :
    Calls Tryd.prog 5 #[num5 l t g a b, two x y] w fun e w' => e = .returned (.bool true) ∧ Below w.heap.size w w' := by
  by_cases h0 : l < 0
  · exact more_out l t g a b x y w hW (.inl h0)
  by_cases h1 : t < 0
  · exact more_out l t g a b x y w hW (.inr (.inl ⟨h0, h1⟩))
  by_cases h2 : l > 600
  · exact more_out l t g a b x y w hW (.inr (.inr (.inl ⟨h0, h1, h2⟩)))
  by_cases h3 : t > 600
  · exact more_out l t g a b x y w hW (.inr (.inr (.inr ⟨h0, h1, h2, h3⟩)))
  rcases wh_cases l t g a b with ⟨_, hn⟩ | ⟨hn, ⟨hk, hx⟩ | ⟨hk, hx1, hx⟩ | ⟨hk, hx1, hx2, hx⟩⟩
  · exact more_none l t g a b x y w hW h0 h1 h2 h3 hn
  · cases hd : db l t g a b with
    | false => exact more_job1 l t g a b x y w hW h0 h1 h2 h3 hn hk hd
    | true => exact more_job1d l t g a b x y w hW h0 h1 h2 h3 hn hk hd
  · cases hd : db l t g a b with
    | false =>
      by_cases hm : 8 * g ≤ l + t
      · exact more_job2m l t g a b x y w hW h0 h1 h2 h3 hn hk hd hm
      · exact more_job2f l t g a b x y w hW h0 h1 h2 h3 hn hk hd (by omega)
    | true =>
      by_cases hm : 8 * g ≤ l + t
      · exact more_job2dm l t g a b x y w hW h0 h1 h2 h3 hn hk hd hm
      · exact more_job2df l t g a b x y w hW h0 h1 h2 h3 hn hk hd (by omega)
  · have hd : db l t g a b = false := by
      cases hd : db l t g a b with
      | false => rfl
      | true => exact absurd (db_yes hd).2.2.2 (by omega)
    exact more_job3 l t g a b x y w hW h0 h1 h2 h3 hn hk hd
end Go.Proofs.YthnihnnonjodjaaDoor.choose
