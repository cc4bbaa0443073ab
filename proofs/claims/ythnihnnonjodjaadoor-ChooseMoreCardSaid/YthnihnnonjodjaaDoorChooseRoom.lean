/- ChooseRoom: the walk. -/
import Derived.Test.YthnihnnonjodjaaDoorChooseGroups
import Derived.Test.YthnihnnonjodjaaDoorKit
namespace Go.Proofs.YthnihnnonjodjaaDoor.choose
open Go.ChangeShapes Go.WideShapes Go.ChangeAt Go.RowKit errs under
set_option linter.unusedSimpArgs false
set_option linter.unusedVariables false

/-- the law's numbers as a value, and as a block -/
abbrev num5 (l t g a b : Int) : Value := .agg #[.int .i64 l, .int .i64 t, .int .i64 g, .int .i64 a, .int .i64 b]
abbrev box5 (w : World) (l t g a b : Int) : World := w.alloc (.cells #[.int .i64 l, .int .i64 t, .int .i64 g, .int .i64 a, .int .i64 b] 23)
theorem box_below (w : World) (l t g a b : Int) : Below w.heap.size w (box5 w l t g a b) := (Below.refl _ _).alloc (Nat.le_refl _) _

/-- the five cells of the box -/
structure B5 (B : Nat) (l t g a b : Int) (w : World) : Prop where
  c0 : w.cell? ⟨B, 0, none⟩ = some (.int .i64 l)
  c1 : w.cell? ⟨B, 1, none⟩ = some (.int .i64 t)
  c2 : w.cell? ⟨B, 2, none⟩ = some (.int .i64 g)
  c3 : w.cell? ⟨B, 3, none⟩ = some (.int .i64 a)
  c4 : w.cell? ⟨B, 4, none⟩ = some (.int .i64 b)
theorem B5.new (w : World) (l t g a b : Int) : B5 w.heap.size l t g a b (box5 w l t g a b) := by
  constructor <;> (rw [World.cell?_alloc_new]; rfl)
theorem B5.below {B : Nat} {l t g a b : Int} {w w' : World} (h : B5 B l t g a b w) (hb : Below w.heap.size w w') : B5 B l t g a b w' := by
  have hlt := World.block_lt_of_cell? w _ h.c0
  exact ⟨(hb.cell (p := ⟨_, 0, none⟩) hlt).trans h.c0, (hb.cell (p := ⟨_, 1, none⟩) hlt).trans h.c1, (hb.cell (p := ⟨_, 2, none⟩) hlt).trans h.c2, (hb.cell (p := ⟨_, 3, none⟩) hlt).trans h.c3, (hb.cell (p := ⟨_, 4, none⟩) hlt).trans h.c4⟩

set_option maxRecDepth 100000 in
set_option maxHeartbeats 4000000 in
/-- the law of numbers of which it says nothing -/
theorem room_out (l t g a b : Int) (w : World) (hW : WordsOk w) (h : l < 0 ∨ (¬ l < 0 ∧ t < 0) ∨ (¬ l < 0 ∧ ¬ t < 0 ∧ l > 1000) ∨ (¬ l < 0 ∧ ¬ t < 0 ∧ ¬ l > 1000 ∧ t > 1000) ∨ (¬ l < 0 ∧ ¬ t < 0 ∧ ¬ l > 1000 ∧ ¬ t > 1000 ∧ a < 0) ∨ (¬ l < 0 ∧ ¬ t < 0 ∧ ¬ l > 1000 ∧ ¬ t > 1000 ∧ ¬ a < 0 ∧ b < 0)) :
    Calls Tryd.prog 4 #[num5 l t g a b] w fun e w' => e = .returned (.bool true) ∧ Below w.heap.size w w' := by
  have hb0 := box_below w l t g a b
  have hA := alive_any _ (hW.below hb0)
  obtain ⟨c0, c1, c2, c3, c4⟩ := B5.new w l t g a b
  clear hW
  rcases h with h | ⟨h0, h⟩ | ⟨h0, h1, h⟩ | ⟨h0, h1, h2, h⟩ | ⟨h0, h1, h2, h3, h⟩ | ⟨h0, h1, h2, h3, h4, h⟩
  all_goals
    go_enter Tryd.func4, Tryd.ntmps4
    go_wp2_with (go_at_call 6; refine hA.mono ?_; rintro e w1 ⟨rfl, rfl⟩)
    go_ret
    exact ⟨rfl, hb0⟩

set_option maxRecDepth 100000 in
set_option maxHeartbeats 4000000 in
/-- the law where a table may not have so many groups -/
theorem room_groups (l t g a b : Int) (e : String → Addr) (w : World) (hW : WordsOk w) (hE : KR e w) (hF : FreshOk w) (hr : rt g = false) (h0 : ¬ l < 0) (h1 : ¬ t < 0) (h2 : ¬ l > 1000) (h3 : ¬ t > 1000) (h4 : ¬ a < 0) (h5 : ¬ b < 0) :
    Calls Tryd.prog 4 #[num5 l t g a b] w fun e w' => e = .returned (.bool true) ∧ Below w.heap.size w w' := by
  have hb0 := box_below w l t g a b
  have hA := alive_any _ (hW.below hb0)
  have hC0 := B5.new w l t g a b
  have hE0 := hE.below hb0
  have hF0 := hF.below hb0
  have hN := fun wx => which_any l t g a b (by constructor <;> omega) wx
  rw [wh_none (nd_groups hr)] at hN
  clear hW hE hF
  have hn1 : ¬ (rt g = true ∧ ¬ ((1 : Int) = 2 ∧ g = 64)) := fun h => by rw [hr] at h; cases h.1
  obtain ⟨c0, c1, c2, c3, c4⟩ := hC0
  go_enter Tryd.func4, Tryd.ntmps4
  go_wp2_with (first
    | (go_at_call 6; refine hA.mono ?_; rintro e w1 ⟨rfl, rfl⟩)
    | (go_at_call 9; refine (hN _).mono ?_; rintro e w1 ⟨rfl, rfl⟩)
    | (go_at_call 7; (with_reducible refine (groups_kind 0 g e _ hE0 (by decide)).mono ?_); rintro e w1 ⟨rfl, hb1⟩; obtain ⟨d0, d1, d2, d3, d4⟩ := (B5.mk c0 c1 c2 c3 c4).below hb1)
    | (go_at_call 7; (with_reducible refine (groups_range 1 g e _ (hE0.below hb1) (hF0.below hb1) (by decide) hn1).mono ?_); rintro e w2 ⟨rfl, hb2⟩))
  go_ret
  exact ⟨rfl, probe.below_step hb0 (probe.below_step hb1 hb2)⟩

theorem nd_none {l t g a b : Int} (h : nd l t g a b = false) (h0 : ¬ l < 0) (h1 : ¬ t < 0) (h4 : ¬ a < 0) (h5 : ¬ b < 0) (hr : rt g = true) : l + t < 4 * g := by
  rw [nd_is (by omega) (by omega) (by omega) (by omega) hr, decide_eq_false_iff_not] at h
  omega

set_option maxRecDepth 100000 in
set_option maxHeartbeats 4000000 in
/-- the law of a table that needs no job -/
theorem room_none (l t g a b : Int) (e : String → Addr) (w : World) (hW : WordsOk w) (hE : KR e w) (hF : FreshOk w) (hr : rt g = true) (hn : nd l t g a b = false) (h0 : ¬ l < 0) (h1 : ¬ t < 0) (h2 : ¬ l > 1000) (h3 : ¬ t > 1000) (h4 : ¬ a < 0) (h5 : ¬ b < 0) :
    Calls Tryd.prog 4 #[num5 l t g a b] w fun e w' => e = .returned (.bool true) ∧ Below w.heap.size w w' := by
  have hb0 := box_below w l t g a b
  have hA := alive_any _ (hW.below hb0)
  have hC0 := B5.new w l t g a b
  have hE0 := hE.below hb0
  have hF0 := hF.below hb0
  have hN := fun wx => which_any l t g a b (by constructor <;> omega) wx
  rw [wh_none hn] at hN
  have hs := nd_none hn h0 h1 h4 h5 hr
  have hle := rt_le hr
  clear hW hE hF
  have e1 : wrap64 (7 * g) = 7 * g := IntWalk.wrap64_in _ (by omega)
  have e2 : wrap64 (7 * g - l) = 7 * g - l := IntWalk.wrap64_in _ (by omega)
  have e3 : wrap64 (7 * g - l - t) = 7 * g - l - t := IntWalk.wrap64_in _ (by omega)
  have e4 : wrap64 (3 * g) = 3 * g := IntWalk.wrap64_in _ (by omega)
  have hx : 7 * g - l - t > 3 * g := by omega
  have hG1 := fun wx hFx => groups_yes 1 g wx hFx (by decide) hr (by rintro ⟨h, _⟩; cases h)
  rw [if_neg (by decide), if_neg (by decide)] at hG1
  obtain ⟨c0, c1, c2, c3, c4⟩ := hC0
  go_enter Tryd.func4, Tryd.ntmps4
  go_wp2_with (first
    | (go_at_call 6; refine hA.mono ?_; rintro e w1 ⟨rfl, rfl⟩)
    | (go_at_call 9; refine (hN _).mono ?_; rintro e w1 ⟨rfl, rfl⟩)
    | (go_at_call 7; (with_reducible refine (groups_kind 0 g e _ hE0 (by decide)).mono ?_); rintro e w1 ⟨rfl, hb1⟩; obtain ⟨d0, d1, d2, d3, d4⟩ := (B5.mk c0 c1 c2 c3 c4).below hb1)
    | (go_at_call 7; (with_reducible refine (hG1 _ (hF0.below hb1)).mono ?_); rintro e w2 ⟨rfl, hb2⟩; obtain ⟨d0, d1, d2, d3, d4⟩ := (B5.mk d0 d1 d2 d3 d4).below hb2))
  go_ret
  exact ⟨by simp [hx, e1, e2, e3, e4], probe.below_step hb0 (probe.below_step hb1 hb2)⟩

/-! ### with a job -/
theorem wr_in {x : Int} (h1 : -9223372036854775808 ≤ x) (h2 : x ≤ 9223372036854775807) : IntKind.i64.wrap x = x := by
  simp only [IntKind.wrap, IntKind.signed, IntKind.bits]; simp; omega
theorem un_yes (k g : Int) (hk : 1 ≤ k ∧ k ≤ 3) (hr : rt g = true) (hg : ¬ (k = 2 ∧ g = 64)) : un k g = (if k = 2 then 2 * g else g) * (if k = 3 then 2 else 1) + g := by
  have e1 : ge k g = if k = 2 then 2 * g else g := by unfold ge; rw [if_pos ⟨hk, hr, hg⟩]
  have e2 : gm k g = if k = 3 then 2 else 1 := by unfold gm; rw [if_pos ⟨hk, hr, hg⟩]
  have e3 : gx k g = 0 := by unfold gx; rw [if_pos hk, if_pos ⟨hr, hg⟩]
  unfold un
  rw [e1, e2, e3, if_pos rfl]

set_option maxRecDepth 100000 in
set_option maxHeartbeats 4000000 in
/-- the law of a table that needs the job 1 -/
theorem room_job1 (l t g a b : Int) (e : String → Addr) (w : World) (hW : WordsOk w) (hE : KR e w) (hF : FreshOk w) (hr : rt g = true) (hn : nd l t g a b = true) (hk : wh l t g a b = 1) (hx : l ≤ 2 * g ∨ 64 ≤ g) (h2 : ¬ l > 1000) (h3 : ¬ t > 1000) :
    Calls Tryd.prog 4 #[num5 l t g a b] w fun e w' => e = .returned (.bool true) ∧ Below w.heap.size w w' := by
  have hb0 := box_below w l t g a b
  have hA := alive_any _ (hW.below hb0)
  have hC0 := B5.new w l t g a b
  have hE0 := hE.below hb0
  have hF0 := hF.below hb0
  obtain ⟨h0, h1, h4, h5, _, hs⟩ := nd_yes hn
  have hN := fun wx => which_any l t g a b (by constructor <;> omega) wx
  rw [hk] at hN
  have hle := rt_le hr
  clear hW hE hF
  have e1 : wrap64 (7 * g) = 7 * g := IntWalk.wrap64_in _ (by omega)
  have e2 : wrap64 (7 * g - l) = 7 * g - l := IntWalk.wrap64_in _ (by omega)
  have e3 : wrap64 (7 * g - l - t) = 7 * g - l - t := IntWalk.wrap64_in _ (by omega)
  have e4 : wrap64 (3 * g) = 3 * g := IntWalk.wrap64_in _ (by omega)
  have hy : decide (3 * g < 7 * g - l - t) = false := decide_eq_false (by omega)
  have hG1 := fun wx hFx => groups_yes 1 g wx hFx (by decide) hr (by rintro ⟨h, _⟩; cases h)
  rw [if_neg (by decide), if_neg (by decide)] at hG1
  have hGk := fun wx hFx => groups_yes 1 g wx hFx (by decide) hr (by rintro ⟨h, _⟩; cases h)
  rw [if_neg (by decide), if_neg (by decide)] at hGk
  have hU := fun wx hEx hFx => units_any 1 g e wx hEx hFx
  rw [un_yes 1 g (by decide) hr (by rintro ⟨h, _⟩; cases h), if_neg (by decide), if_neg (by decide)] at hU
  obtain ⟨c0, c1, c2, c3, c4⟩ := hC0
  go_enter Tryd.func4, Tryd.ntmps4
  go_wp2_with (first
    | (go_at_call 6; refine hA.mono ?_; rintro e w1 ⟨rfl, rfl⟩)
    | (go_at_call 9; refine (hN _).mono ?_; rintro e w1 ⟨rfl, rfl⟩)
    | (go_at_call 7; (with_reducible refine (hGk _ hF0).mono ?_); rintro e w1 ⟨rfl, hb1⟩; obtain ⟨d0, d1, d2, d3, d4⟩ := (B5.mk c0 c1 c2 c3 c4).below hb1)
    | (go_at_call 7; (with_reducible refine (hG1 _ (hF0.below hb1)).mono ?_); rintro e w2 ⟨rfl, hb2⟩; obtain ⟨d0, d1, d2, d3, d4⟩ := (B5.mk d0 d1 d2 d3 d4).below hb2))
  have hE2 := (hE0.below hb1).below hb2
  have hF2 := (hF0.below hb1).below hb2
  have hU2 := fun n : Under w2 => hU n.W (hE2.below n.below) (hF2.below n.below)
  have hB := probe.below_step hb0 (probe.below_step hb1 hb2)
  have f0 := Under.cell d0
  have f2 := Under.cell d2
  have f3 := Under.cell d3
  have f4 := Under.cell d4
  have v1 : IntKind.i64.wrap (3 * g) = 3 * g := wr_in (by omega) (by omega)
  have v2 : IntKind.i64.wrap (g) = g := wr_in (by omega) (by omega)
  have v3 : IntKind.i64.wrap (g + g) = g + g := wr_in (by omega) (by omega)
  rw [show g * 1 + g = g + g by omega] at hU2
  clear hU hE0 hF0 hE2 hF2 hb1 hb2 hb0 hA hN hGk hG1 d0 d1 d2 d3 d4
  refine wp_region_under (by kernel_rfl) (by kernel_rfl) ?_
  repeat (quiet_step ((go_at_call 14; (with_reducible refine under_call (hU2 _)))))
  refine wpQuiet_nil ?_
  intro w5 hw5
  obtain ⟨m, rfl⟩ := hw5
  go_wp2
  all_goals (go_ret; exact ⟨by first | rfl | (simp [hx]; done) | (simp; omega) | (simp [hx]; omega), probe.below_step hB m.below⟩)

set_option maxRecDepth 100000 in
set_option maxHeartbeats 4000000 in
/-- the law of a table that needs the job 2 -/
theorem room_job2 (l t g a b : Int) (e : String → Addr) (w : World) (hW : WordsOk w) (hE : KR e w) (hF : FreshOk w) (hr : rt g = true) (hn : nd l t g a b = true) (hk : wh l t g a b = 2) (hx1 : 2 * g < l) (hx : g < 64) (h2 : ¬ l > 1000) (h3 : ¬ t > 1000) :
    Calls Tryd.prog 4 #[num5 l t g a b] w fun e w' => e = .returned (.bool true) ∧ Below w.heap.size w w' := by
  have hb0 := box_below w l t g a b
  have hA := alive_any _ (hW.below hb0)
  have hC0 := B5.new w l t g a b
  have hE0 := hE.below hb0
  have hF0 := hF.below hb0
  obtain ⟨h0, h1, h4, h5, _, hs⟩ := nd_yes hn
  have hN := fun wx => which_any l t g a b (by constructor <;> omega) wx
  rw [hk] at hN
  have hle := rt_le hr
  clear hW hE hF
  have e1 : wrap64 (7 * g) = 7 * g := IntWalk.wrap64_in _ (by omega)
  have e2 : wrap64 (7 * g - l) = 7 * g - l := IntWalk.wrap64_in _ (by omega)
  have e3 : wrap64 (7 * g - l - t) = 7 * g - l - t := IntWalk.wrap64_in _ (by omega)
  have e4 : wrap64 (3 * g) = 3 * g := IntWalk.wrap64_in _ (by omega)
  have hy : decide (3 * g < 7 * g - l - t) = false := decide_eq_false (by omega)
  have hG1 := fun wx hFx => groups_yes 1 g wx hFx (by decide) hr (by rintro ⟨h, _⟩; cases h)
  rw [if_neg (by decide), if_neg (by decide)] at hG1
  have hGk := fun wx hFx => groups_yes 2 g wx hFx (by decide) hr (by rintro ⟨_, h⟩; omega)
  rw [if_pos rfl, if_neg (by decide)] at hGk
  have hU := fun wx hEx hFx => units_any 2 g e wx hEx hFx
  rw [un_yes 2 g (by decide) hr (by rintro ⟨_, h⟩; omega), if_pos rfl, if_neg (by decide)] at hU
  obtain ⟨c0, c1, c2, c3, c4⟩ := hC0
  go_enter Tryd.func4, Tryd.ntmps4
  go_wp2_with (first
    | (go_at_call 6; refine hA.mono ?_; rintro e w1 ⟨rfl, rfl⟩)
    | (go_at_call 9; refine (hN _).mono ?_; rintro e w1 ⟨rfl, rfl⟩)
    | (go_at_call 7; (with_reducible refine (hGk _ hF0).mono ?_); rintro e w1 ⟨rfl, hb1⟩; obtain ⟨d0, d1, d2, d3, d4⟩ := (B5.mk c0 c1 c2 c3 c4).below hb1)
    | (go_at_call 7; (with_reducible refine (hG1 _ (hF0.below hb1)).mono ?_); rintro e w2 ⟨rfl, hb2⟩; obtain ⟨d0, d1, d2, d3, d4⟩ := (B5.mk d0 d1 d2 d3 d4).below hb2))
  have hE2 := (hE0.below hb1).below hb2
  have hF2 := (hF0.below hb1).below hb2
  have hU2 := fun n : Under w2 => hU n.W (hE2.below n.below) (hF2.below n.below)
  have hB := probe.below_step hb0 (probe.below_step hb1 hb2)
  have f0 := Under.cell d0
  have f2 := Under.cell d2
  have f3 := Under.cell d3
  have f4 := Under.cell d4
  have v1 : IntKind.i64.wrap (3 * g) = 3 * g := wr_in (by omega) (by omega)
  have v2 : IntKind.i64.wrap (2 * g) = 2 * g := wr_in (by omega) (by omega)
  have v3 : IntKind.i64.wrap (2 * g + g) = 2 * g + g := wr_in (by omega) (by omega)
  rw [show (2 * g) * 1 + g = 2 * g + g by omega] at hU2
  clear hU hE0 hF0 hE2 hF2 hb1 hb2 hb0 hA hN hGk hG1 d0 d1 d2 d3 d4
  refine wp_region_under (by kernel_rfl) (by kernel_rfl) ?_
  repeat (quiet_step ((go_at_call 14; (with_reducible refine under_call (hU2 _)))))
  refine wpQuiet_nil ?_
  intro w5 hw5
  obtain ⟨m, rfl⟩ := hw5
  go_wp2
  all_goals (go_ret; exact ⟨by first | rfl | (simp [hx]; done) | (simp; omega) | (simp [hx]; omega), probe.below_step hB m.below⟩)

set_option maxRecDepth 100000 in
set_option maxHeartbeats 4000000 in
/-- the law of a table that needs the job 3 -/
theorem room_job3 (l t g a b : Int) (e : String → Addr) (w : World) (hW : WordsOk w) (hE : KR e w) (hF : FreshOk w) (hr : rt g = true) (hn : nd l t g a b = true) (hk : wh l t g a b = 3) (hx1 : 2 * g < l) (hx2 : 8 ≤ g) (hx : a < b) (h2 : ¬ l > 1000) (h3 : ¬ t > 1000) :
    Calls Tryd.prog 4 #[num5 l t g a b] w fun e w' => e = .returned (.bool true) ∧ Below w.heap.size w w' := by
  have hb0 := box_below w l t g a b
  have hA := alive_any _ (hW.below hb0)
  have hC0 := B5.new w l t g a b
  have hE0 := hE.below hb0
  have hF0 := hF.below hb0
  obtain ⟨h0, h1, h4, h5, _, hs⟩ := nd_yes hn
  have hN := fun wx => which_any l t g a b (by constructor <;> omega) wx
  rw [hk] at hN
  have hle := rt_le hr
  clear hW hE hF
  have e1 : wrap64 (7 * g) = 7 * g := IntWalk.wrap64_in _ (by omega)
  have e2 : wrap64 (7 * g - l) = 7 * g - l := IntWalk.wrap64_in _ (by omega)
  have e3 : wrap64 (7 * g - l - t) = 7 * g - l - t := IntWalk.wrap64_in _ (by omega)
  have e4 : wrap64 (3 * g) = 3 * g := IntWalk.wrap64_in _ (by omega)
  have hy : decide (3 * g < 7 * g - l - t) = false := decide_eq_false (by omega)
  have hG1 := fun wx hFx => groups_yes 1 g wx hFx (by decide) hr (by rintro ⟨h, _⟩; cases h)
  rw [if_neg (by decide), if_neg (by decide)] at hG1
  have hGk := fun wx hFx => groups_yes 3 g wx hFx (by decide) hr (by rintro ⟨h, _⟩; cases h)
  rw [if_neg (by decide), if_pos rfl] at hGk
  have hU := fun wx hEx hFx => units_any 3 g e wx hEx hFx
  rw [un_yes 3 g (by decide) hr (by rintro ⟨h, _⟩; cases h), if_neg (by decide), if_pos rfl] at hU
  obtain ⟨c0, c1, c2, c3, c4⟩ := hC0
  go_enter Tryd.func4, Tryd.ntmps4
  go_wp2_with (first
    | (go_at_call 6; refine hA.mono ?_; rintro e w1 ⟨rfl, rfl⟩)
    | (go_at_call 9; refine (hN _).mono ?_; rintro e w1 ⟨rfl, rfl⟩)
    | (go_at_call 7; (with_reducible refine (hGk _ hF0).mono ?_); rintro e w1 ⟨rfl, hb1⟩; obtain ⟨d0, d1, d2, d3, d4⟩ := (B5.mk c0 c1 c2 c3 c4).below hb1)
    | (go_at_call 7; (with_reducible refine (hG1 _ (hF0.below hb1)).mono ?_); rintro e w2 ⟨rfl, hb2⟩; obtain ⟨d0, d1, d2, d3, d4⟩ := (B5.mk d0 d1 d2 d3 d4).below hb2))
  have hE2 := (hE0.below hb1).below hb2
  have hF2 := (hF0.below hb1).below hb2
  have hU2 := fun n : Under w2 => hU n.W (hE2.below n.below) (hF2.below n.below)
  have hB := probe.below_step hb0 (probe.below_step hb1 hb2)
  have f0 := Under.cell d0
  have f2 := Under.cell d2
  have f3 := Under.cell d3
  have f4 := Under.cell d4
  have v1 : IntKind.i64.wrap (3 * g) = 3 * g := wr_in (by omega) (by omega)
  have v2 : IntKind.i64.wrap (g * 2) = g * 2 := wr_in (by omega) (by omega)
  have v3 : IntKind.i64.wrap (g * 2 + g) = g * 2 + g := wr_in (by omega) (by omega)
  rw [show g * 2 + g = g * 2 + g by omega] at hU2
  clear hU hE0 hF0 hE2 hF2 hb1 hb2 hb0 hA hN hGk hG1 d0 d1 d2 d3 d4
  refine wp_region_under (by kernel_rfl) (by kernel_rfl) ?_
  repeat (quiet_step ((go_at_call 14; (with_reducible refine under_call (hU2 _)))))
  refine wpQuiet_nil ?_
  intro w5 hw5
  obtain ⟨m, rfl⟩ := hw5
  go_wp2
  all_goals (go_ret; exact ⟨by first | rfl | (simp [hx]; done) | (simp; omega) | (simp [hx]; omega), probe.below_step hB m.below⟩)

/-- ChooseRoom: the law returns true -/
theorem room_any (l t g a b : Int) (e : String → Addr) (w : World) (hW : WordsOk w) (hE : KR e w) (hF : FreshOk w) :
    Calls Tryd.prog 4 #[num5 l t g a b] w fun e w' => e = .returned (.bool true) ∧ Below w.heap.size w w' := by
  by_cases h0 : l < 0
  · exact room_out l t g a b w hW (.inl h0)
  by_cases h1 : t < 0
  · exact room_out l t g a b w hW (.inr (.inl ⟨h0, h1⟩))
  by_cases h2 : l > 1000
  · exact room_out l t g a b w hW (.inr (.inr (.inl ⟨h0, h1, h2⟩)))
  by_cases h3 : t > 1000
  · exact room_out l t g a b w hW (.inr (.inr (.inr (.inl ⟨h0, h1, h2, h3⟩))))
  by_cases h4 : a < 0
  · exact room_out l t g a b w hW (.inr (.inr (.inr (.inr (.inl ⟨h0, h1, h2, h3, h4⟩)))))
  by_cases h5 : b < 0
  · exact room_out l t g a b w hW (.inr (.inr (.inr (.inr (.inr ⟨h0, h1, h2, h3, h4, h5⟩)))))
  cases hr : rt g with
  | false => exact room_groups l t g a b e w hW hE hF hr h0 h1 h2 h3 h4 h5
  | true =>
    rcases wh_cases l t g a b with ⟨_, hn⟩ | ⟨hn, ⟨hk, hx⟩ | ⟨hk, hx1, hx⟩ | ⟨hk, hx1, hx2, hx⟩⟩
    · exact room_none l t g a b e w hW hE hF hr hn h0 h1 h2 h3 h4 h5
    · exact room_job1 l t g a b e w hW hE hF hr hn hk hx h2 h3
    · exact room_job2 l t g a b e w hW hE hF hr hn hk hx1 hx h2 h3
    · exact room_job3 l t g a b e w hW hE hF hr hn hk hx1 hx2 hx h2 h3
end Go.Proofs.YthnihnnonjodjaaDoor.choose
