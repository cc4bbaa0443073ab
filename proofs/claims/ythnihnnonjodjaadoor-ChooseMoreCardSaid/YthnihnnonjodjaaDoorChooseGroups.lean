/- choose's functions that read the package's variables: Groups, Units, Word; and the law's alive. -/
import Derived.Test.YthnihnnonjodjaaDoorChoose
namespace Go.Proofs.YthnihnnonjodjaaDoor.choose
open Go.ChangeShapes Go.WideShapes Go.ChangeAt Go.RowKit errs
set_option linter.unusedSimpArgs false
set_option linter.unusedVariables false
attribute [local go_sem] Oper.semAt_some

/-- the kinds' words -/
def wd (k : Int) : ByteArray := if k = 0 then ⟨#[110, 111, 110, 101]⟩ else if k = 1 then ⟨#[115, 119, 101, 101, 112]⟩ else if k = 2 then ⟨#[103, 114, 111, 119]⟩ else if k = 3 then ⟨#[115, 112, 108, 105, 116]⟩ else ⟨#[]⟩

/-- the package's variable words -/
structure WordsOk (w : World) : Prop where
  c0 : w.cell? ⟨3, 0, none⟩ = some (.string ⟨#[110, 111, 110, 101]⟩)
  c1 : w.cell? ⟨3, 1, none⟩ = some (.string ⟨#[115, 119, 101, 101, 112]⟩)
  c2 : w.cell? ⟨3, 2, none⟩ = some (.string ⟨#[103, 114, 111, 119]⟩)
  c3 : w.cell? ⟨3, 3, none⟩ = some (.string ⟨#[115, 112, 108, 105, 116]⟩)
theorem WordsOk.below {w w' : World} (h : WordsOk w) (hb : Below w.heap.size w w') : WordsOk w' := by
  have hlt := World.block_lt_of_cell? w _ h.c0
  exact ⟨(hb.cell (p := ⟨_, 0, none⟩) hlt).trans h.c0, (hb.cell (p := ⟨_, 1, none⟩) hlt).trans h.c1, (hb.cell (p := ⟨_, 2, none⟩) hlt).trans h.c2, (hb.cell (p := ⟨_, 3, none⟩) hlt).trans h.c3⟩

theorem word_any (k : Int) (w : World) (hW : WordsOk w) :
    Calls Tryd.prog 15 #[.int .i64 k] w fun e w' => e = .returned (.string (wd k)) ∧ w = w' := by
  have c0 := hW.c0
  have c1 := hW.c1
  have c2 := hW.c2
  have c3 := hW.c3
  clear hW
  by_cases h0 : k < 0
  · have e : wd k = ⟨#[]⟩ := by simp only [wd]; rw [if_neg (by omega), if_neg (by omega), if_neg (by omega), if_neg (by omega)]
    rw [e]
    go_enter Tryd.func15, Tryd.ntmps15
    go_wp2
    all_goals (go_ret; exact ⟨rfl, rfl⟩)
  · by_cases h3 : k > 3
    · have e : wd k = ⟨#[]⟩ := by simp only [wd]; rw [if_neg (by omega), if_neg (by omega), if_neg (by omega), if_neg (by omega)]
      rw [e]
      go_enter Tryd.func15, Tryd.ntmps15
      go_wp2
      all_goals (go_ret; exact ⟨rfl, rfl⟩)
    · have h : k = 0 ∨ k = 1 ∨ k = 2 ∨ k = 3 := by omega
      rcases h with rfl | rfl | rfl | rfl
      all_goals
        go_enter Tryd.func15, Tryd.ntmps15
        go_wp2
        all_goals (go_ret; exact ⟨rfl, rfl⟩)

/-- the package's variable fresh -/
structure FreshOk (w : World) : Prop where
  c2 : w.cell? ⟨1, 2, none⟩ = some (.int .i64 1)
  c3 : w.cell? ⟨1, 3, none⟩ = some (.int .i64 1)
  c4 : w.cell? ⟨1, 4, none⟩ = some (.int .i64 2)
  c5 : w.cell? ⟨1, 5, none⟩ = some (.int .i64 1)
  c6 : w.cell? ⟨1, 6, none⟩ = some (.int .i64 1)
  c7 : w.cell? ⟨1, 7, none⟩ = some (.int .i64 2)
theorem FreshOk.below {w w' : World} (h : FreshOk w) (hb : Below w.heap.size w w') : FreshOk w' := by
  have hlt := World.block_lt_of_cell? w _ h.c2
  exact ⟨(hb.cell (p := ⟨_, 2, none⟩) hlt).trans h.c2, (hb.cell (p := ⟨_, 3, none⟩) hlt).trans h.c3, (hb.cell (p := ⟨_, 4, none⟩) hlt).trans h.c4, (hb.cell (p := ⟨_, 5, none⟩) hlt).trans h.c5, (hb.cell (p := ⟨_, 6, none⟩) hlt).trans h.c6, (hb.cell (p := ⟨_, 7, none⟩) hlt).trans h.c7⟩

/-- an error by its number, nil: 0 -/
def ev (a : String → Addr) (n : Nat) : Value := if n = 0 then .nilIface else errV (a (nm (n - 1)))

/-- the two errors that Groups answers lie in their variables -/
structure KR (a : String → Addr) (w : World) : Prop where
  k : w.cell? ⟨0, 0, none⟩ = some (errV (a "ambler/api.ErrKind"))
  r : w.cell? ⟨2, 0, none⟩ = some (errV (a "ambler/api.ErrRange"))
theorem KR.below {a : String → Addr} {w w' : World} (h : KR a w) (hb : Below w.heap.size w w') : KR a w' :=
  ⟨(hb.cell (p := ⟨_, 0, none⟩) (World.block_lt_of_cell? w _ h.k)).trans h.k, (hb.cell (p := ⟨_, 0, none⟩) (World.block_lt_of_cell? w _ h.r)).trans h.r⟩

theorem groups_kind (k g : Int) (a : String → Addr) (w : World) (hE : KR a w) (hk : ¬ (1 ≤ k ∧ k ≤ 3)) :
    Calls Tryd.prog 7 #[.int .i64 k, .int .i64 g] w fun e w' => e = .returned (.tuple #[.int .i64 0, .int .i64 0, errV (a "ambler/api.ErrKind")]) ∧ Below w.heap.size w w' := by
  have c := hE.k
  clear hE
  by_cases h1 : k < 1
  · clear hk
    go_enter Tryd.func7, Tryd.ntmps7
    go_wp2
    go_quiet (fail)
    go_wp2
    all_goals (go_ret3; exact ⟨rfl, probe.drewN_below _ _⟩)
  · have h2 : k > 3 := by omega
    clear hk
    go_enter Tryd.func7, Tryd.ntmps7
    go_wp2
    go_quiet (fail)
    go_wp2
    all_goals (go_ret3; exact ⟨rfl, probe.drewN_below _ _⟩)

theorem groups_range (k g : Int) (a : String → Addr) (w : World) (hE : KR a w) (hF : FreshOk w) (hk : 1 ≤ k ∧ k ≤ 3) (hg : ¬ (rt g = true ∧ ¬ (k = 2 ∧ g = 64))) :
    Calls Tryd.prog 7 #[.int .i64 k, .int .i64 g] w fun e w' => e = .returned (.tuple #[.int .i64 0, .int .i64 0, errV (a "ambler/api.ErrRange")]) ∧ Below w.heap.size w w' := by
  have c := hE.r
  have hlt := World.block_lt_of_cell? w _ c
  obtain ⟨c2, c3, c4, c5, c6, c7⟩ := hF
  clear hE
  cases hr : rt g with
  | false =>
    clear hg
    have hR := fun wx => right_any g wx
    rw [hr] at hR
    have h : k = 1 ∨ k = 2 ∨ k = 3 := by omega
    clear hk
    rcases h with rfl | rfl | rfl
    all_goals
      go_enter Tryd.func7, Tryd.ntmps7
      go_wp2_with (go_at_call 16; refine (hR _).mono ?_; rintro e w' ⟨rfl, rfl⟩)
      go_quiet (fail)
      go_wp2
      go_ret3
      exact ⟨rfl, probe.below_step ((Below.refl _ _).alloc (Nat.le_refl _) _) (probe.drewN_below _ _)⟩
  | true =>
    have h : k = 2 ∧ g = 64 := by
      apply Classical.byContradiction; intro h; exact hg ⟨hr, h⟩
    obtain ⟨rfl, rfl⟩ := h
    clear hg hk
    have hR := fun wx => right_any 64 wx
    have hR2 := fun wx => right_any 128 wx
    rw [hr] at hR
    rw [show rt 128 = false from rfl] at hR2
    go_enter Tryd.func7, Tryd.ntmps7
    go_wp2_with (first
      | (go_at_call 16; (with_reducible refine (hR _).mono ?_); rintro e w' ⟨rfl, rfl⟩)
      | (go_at_call 16; (with_reducible refine (hR2 _).mono ?_); rintro e w' ⟨rfl, rfl⟩))
    go_quiet (fail)
    go_wp2
    go_ret3
    exact ⟨rfl, probe.below_step ((Below.refl _ _).alloc (Nat.le_refl _) _) (probe.drewN_below _ _)⟩

theorem rt_two {g : Int} (h : rt g = true) (h1 : g ≠ 64) : rt (2 * g) = true := by
  have := rt_cases h
  simp only [rt, decide_eq_true_eq]
  omega
theorem groups_yes (k g : Int) (w : World) (hF : FreshOk w) (hk : 1 ≤ k ∧ k ≤ 3) (hr : rt g = true) (hg : ¬ (k = 2 ∧ g = 64)) :
    Calls Tryd.prog 7 #[.int .i64 k, .int .i64 g] w fun e w' => e = .returned (.tuple #[.int .i64 (if k = 2 then 2 * g else g), .int .i64 (if k = 3 then 2 else 1), .nilIface]) ∧ Below w.heap.size w w' := by
  have hlt := World.block_lt_of_cell? w _ hF.c2
  obtain ⟨c2, c3, c4, c5, c6, c7⟩ := hF
  have hle := rt_le hr
  have hR := fun wx => right_any g wx
  rw [hr] at hR
  have e1 : wrap64 (1 * g) = g := by rw [Int.one_mul]; exact IntWalk.wrap64_in _ (by omega)
  have e2 : wrap64 (2 * g) = 2 * g := IntWalk.wrap64_in _ (by omega)
  have h : k = 1 ∨ k = 2 ∨ k = 3 := by omega
  clear hk
  rcases h with rfl | rfl | rfl
  · clear hg
    go_enter Tryd.func7, Tryd.ntmps7
    go_wp2_with (go_at_call 16; refine (hR _).mono ?_; rintro e w' ⟨rfl, rfl⟩)
    go_quiet (fail)
    go_wp2
    go_ret3
    exact ⟨rfl, probe.below_step ((Below.refl _ _).alloc (Nat.le_refl _) _) (probe.drewN_below _ _)⟩
  · have hR2 := fun wx => right_any (2 * g) wx
    rw [rt_two hr (fun e => hg ⟨rfl, e⟩)] at hR2
    clear hg
    go_enter Tryd.func7, Tryd.ntmps7
    go_wp2_with (first
      | (go_at_call 16; (with_reducible refine (hR _).mono ?_); rintro e w' ⟨rfl, rfl⟩)
      | (go_at_call 16; (with_reducible refine (hR2 _).mono ?_); rintro e w' ⟨rfl, rfl⟩))
    go_quiet (fail)
    go_wp2
    go_ret3
    exact ⟨rfl, probe.below_step ((Below.refl _ _).alloc (Nat.le_refl _) _) (probe.drewN_below _ _)⟩
  · clear hg
    go_enter Tryd.func7, Tryd.ntmps7
    go_wp2_with (go_at_call 16; refine (hR _).mono ?_; rintro e w' ⟨rfl, rfl⟩)
    go_quiet (fail)
    go_wp2
    go_ret3
    exact ⟨rfl, probe.below_step ((Below.refl _ _).alloc (Nat.le_refl _) _) (probe.drewN_below _ _)⟩

theorem ev_kind (a : String → Addr) : ev a 14 = errV (a "ambler/api.ErrKind") := rfl
theorem ev_range (a : String → Addr) : ev a 1 = errV (a "ambler/api.ErrRange") := rfl
theorem ev_none (a : String → Addr) : ev a 0 = .nilIface := rfl
theorem groups_any (k g : Int) (a : String → Addr) (w : World) (hE : KR a w) (hF : FreshOk w) :
    Calls Tryd.prog 7 #[.int .i64 k, .int .i64 g] w fun e w' => e = .returned (.tuple #[.int .i64 (ge k g), .int .i64 (gm k g), ev a (gx k g)]) ∧ Below w.heap.size w w' := by
  by_cases hk : 1 ≤ k ∧ k ≤ 3
  · by_cases hg : rt g = true ∧ ¬ (k = 2 ∧ g = 64)
    · have e1 : ge k g = if k = 2 then 2 * g else g := by unfold ge; rw [if_pos ⟨hk, hg⟩]
      have e2 : gm k g = if k = 3 then 2 else 1 := by unfold gm; rw [if_pos ⟨hk, hg⟩]
      have e3 : gx k g = 0 := by unfold gx; rw [if_pos hk, if_pos hg]
      rw [e1, e2, e3, ev_none]
      exact groups_yes k g w hF hk hg.1 hg.2
    · have e1 : ge k g = 0 := by unfold ge; rw [if_neg (fun h => hg h.2)]
      have e2 : gm k g = 0 := by unfold gm; rw [if_neg (fun h => hg h.2)]
      have e3 : gx k g = 1 := by unfold gx; rw [if_pos hk, if_neg hg]
      rw [e1, e2, e3, ev_range]
      exact groups_range k g a w hE hF hk hg
  · have e1 : ge k g = 0 := by unfold ge; rw [if_neg (fun h => hk h.1)]
    have e2 : gm k g = 0 := by unfold gm; rw [if_neg (fun h => hk h.1)]
    have e3 : gx k g = 14 := by unfold gx; rw [if_neg hk]
    rw [e1, e2, e3, ev_kind]
    exact groups_kind k g a w hE hk

theorem gx_cases (k g : Int) : gx k g = 0 ∨ gx k g = 1 ∨ gx k g = 14 := by
  unfold gx; split
  · split
    · exact .inl rfl
    · exact .inr (.inl rfl)
  · exact .inr (.inr rfl)
theorem gx_le {k g : Int} (h : gx k g = 0) : 0 ≤ ge k g ∧ ge k g ≤ 64 ∧ 1 ≤ gm k g ∧ gm k g ≤ 2 ∧ 1 ≤ g ∧ g ≤ 64 := by
  unfold gx at h
  by_cases hk : 1 ≤ k ∧ k ≤ 3
  · rw [if_pos hk] at h
    by_cases hg : rt g = true ∧ ¬ (k = 2 ∧ g = 64)
    · have e1 : ge k g = if k = 2 then 2 * g else g := by unfold ge; rw [if_pos ⟨hk, hg⟩]
      have e2 : gm k g = if k = 3 then 2 else 1 := by unfold gm; rw [if_pos ⟨hk, hg⟩]
      have := rt_cases hg.1
      rw [e1, e2]
      obtain ⟨_, hg2⟩ := hg
      split <;> split <;> omega
    · rw [if_neg hg] at h; cases h
  · rw [if_neg hk] at h; cases h
theorem units_any (k g : Int) (a : String → Addr) (w : World) (hE : KR a w) (hF : FreshOk w) :
    Calls Tryd.prog 14 #[.int .i64 k, .int .i64 g] w fun e w' => e = .returned (.int .i64 (un k g)) ∧ Below w.heap.size w w' := by
  have hG := groups_any k g a w hE hF
  have hle := fun h => gx_le (k := k) (g := g) h
  unfold un
  generalize ge k g = E at *
  generalize gm k g = M at *
  rcases gx_cases k g with h | h | h
  · rw [h] at hG
    rw [if_pos h]
    have hl := hle h
    clear hle h hE hF
    obtain ⟨h1, h2, h3, h4, h5, h6⟩ := hl
    have hM : M = 1 ∨ M = 2 := by omega
    have e1 : wrap64 (E * M) = E * M := IntWalk.wrap64_in _ (by rcases hM with rfl | rfl <;> omega)
    have e2 : wrap64 (E * M + g) = E * M + g := IntWalk.wrap64_in _ (by rcases hM with rfl | rfl <;> omega)
    rw [ev_none] at hG
    go_enter Tryd.func14, Tryd.ntmps14
    go_wp2_with (go_at_call 7; refine hG.mono ?_; rintro e w' ⟨rfl, hb⟩)
    all_goals (go_ret; exact ⟨by simp [e1, e2], hb⟩)
  · rw [h] at hG
    rw [if_neg (by omega)]
    clear hle h hE hF
    rw [ev_range] at hG
    go_enter Tryd.func14, Tryd.ntmps14
    go_wp2_with (go_at_call 7; refine hG.mono ?_; rintro e w' ⟨rfl, hb⟩)
    all_goals (go_ret; exact ⟨rfl, hb⟩)
  · rw [h] at hG
    rw [if_neg (by omega)]
    clear hle h hE hF
    rw [ev_kind] at hG
    go_enter Tryd.func14, Tryd.ntmps14
    go_wp2_with (go_at_call 7; refine hG.mono ?_; rintro e w' ⟨rfl, hb⟩)
    all_goals (go_ret; exact ⟨rfl, hb⟩)

/-- the chapter's example -/
theorem alive_any (w : World) (hW : WordsOk w) :
    Calls Tryd.prog 6 #[] w fun e w' => e = .returned (.bool true) ∧ w = w' := by
  have h1 := which_any 4 0 1 0 0 (by decide) w
  have h2 := which_any 2 2 1 0 0 (by decide) w
  have h3 := word_any 3 w hW
  rw [show wh 4 0 1 0 0 = 2 from rfl] at h1
  rw [show wh 2 2 1 0 0 = 1 from rfl] at h2
  rw [show wd 3 = ⟨#[115, 112, 108, 105, 116]⟩ from rfl] at h3
  clear hW
  go_enter Tryd.func6, Tryd.ntmps6
  go_wp2_with (first
    | (go_at_call 9; (with_reducible refine h1.mono ?_); rintro e w' ⟨rfl, rfl⟩)
    | (go_at_call 9; (with_reducible refine h2.mono ?_); rintro e w' ⟨rfl, rfl⟩)
    | (go_at_call 15; (with_reducible refine h3.mono ?_); rintro e w' ⟨rfl, rfl⟩))
  all_goals (go_ret; exact ⟨rfl, rfl⟩)
end Go.Proofs.YthnihnnonjodjaaDoor.choose
