/- meter: the document's meter, held against what a meter holds. -/
import Derived.Test.YtfabhnbiijnohaaDoorMeterSums
namespace Go.Proofs.YtfabhnbiijnohaaDoor.meter
open Go.RowKit errs under trap tail
set_option linter.unusedSimpArgs false
set_option linter.unusedVariables false

/-- the document's limit of a meter -/
def Mt.rlim (m : Mt) : Int := if m.on then m.lim else -1
/-- the document's meter in block R: it has the counts of m -/
structure RAt (R : Nat) (m : Mt) (w : World) : Prop where
  pa : w.cell? ⟨R, 0, none⟩ = some (.int .i64 m.pa)
  va : w.cell? ⟨R, 1, none⟩ = some (.int .i64 m.va)
  ua : w.cell? ⟨R, 2, none⟩ = some (.int .i64 m.ua)
  pl : w.cell? ⟨R, 3, none⟩ = some (.int .i64 m.pl)
  vl : w.cell? ⟨R, 4, none⟩ = some (.int .i64 m.vl)
  ul : w.cell? ⟨R, 5, none⟩ = some (.int .i64 m.ul)
  lim : w.cell? ⟨R, 6, none⟩ = some (.int .i64 m.rlim)
  fz : ∀ i, w.frozen? ⟨R, i, none⟩ = false
theorem RAt.lt {R : Nat} {m : Mt} {w : World} (h : RAt R m w) : R < w.heap.size := World.block_lt_of_cell? w _ h.pa
theorem RAt.of_block {R : Nat} {m : Mt} {w w' : World} (h : RAt R m w) (he : w'.heap[R]? = w.heap[R]?) : RAt R m w' := by
  have c : ∀ i v, w.cell? ⟨R, i, none⟩ = some v → w'.cell? ⟨R, i, none⟩ = some v := fun i v hc => (World.cell?_of_block (w := w) he).trans hc
  exact ⟨c _ _ h.pa, c _ _ h.va, c _ _ h.ua, c _ _ h.pl, c _ _ h.vl, c _ _ h.ul, c _ _ h.lim, fun i => (World.frozen?_of_block (w := w) he).trans (h.fz i)⟩
theorem RAt.below {R : Nat} {m : Mt} {w w' : World} (h : RAt R m w) (hb : Below w.heap.size w w') : RAt R m w' := h.of_block (hb.block R h.lt)
theorem RAt.past {R : Nat} {m : Mt} {w w' : World} {d : List Nat} (h : RAt R m w) (hb : Past d w w') (hd : R ∉ d) : RAt R m w' := h.of_block (hb.block R h.lt hd)
/-- all counts set anew -/
theorem RAt.set {R : Nat} {m m' : Mt} {w : World} (h : RAt R m w) (hl : m'.rlim = m.rlim) : RAt R m' ((((((w.setCell ⟨R, 0, none⟩ (.int .i64 m'.pa)).setCell ⟨R, 1, none⟩ (.int .i64 m'.va)).setCell ⟨R, 2, none⟩ (.int .i64 m'.ua)).setCell ⟨R, 3, none⟩ (.int .i64 m'.pl)).setCell ⟨R, 4, none⟩ (.int .i64 m'.vl)).setCell ⟨R, 5, none⟩ (.int .i64 m'.ul)) := by
  obtain ⟨h0, h1, h2, h3, h4, h5, h6, hf⟩ := h
  constructor <;> simp [World.cell?_setCell_same', World.cell?_setCell_other, h0, h1, h2, h3, h4, h5, h6, hf, hl]
theorem past_set6 {R : Nat} {x w : World} (h : Past [R] x w) (u0 u1 u2 u3 u4 u5 : Value) : Past [R] x ((((((w.setCell ⟨R, 0, none⟩ u0).setCell ⟨R, 1, none⟩ u1).setCell ⟨R, 2, none⟩ u2).setCell ⟨R, 3, none⟩ u3).setCell ⟨R, 4, none⟩ u4).setCell ⟨R, 5, none⟩ u5) :=
  (((((h.store (p := ⟨R, 0, none⟩) (.inl (by simp)) _).store (p := ⟨R, 1, none⟩) (.inl (by simp)) _).store (p := ⟨R, 2, none⟩) (.inl (by simp)) _).store (p := ⟨R, 3, none⟩) (.inl (by simp)) _).store (p := ⟨R, 4, none⟩) (.inl (by simp)) _).store (p := ⟨R, 5, none⟩) (.inl (by simp)) _
/-- a step of the document's meter -/
structure RStep (R : Nat) (m : Mt) (w w' : World) : Prop where
  past : Past [R] w w'
  at' : RAt R m w'

/-- nothing is added of a number below 1 -/
theorem radd_none (R : Nat) (m : Mt) (k n : Int) (hn : n < 1) (w : World) (h : RAt R m w) : Calls Tryd.prog 8 #[.pointer (some ⟨R, 0, none⟩), .int .i64 k, .int .i64 n] w fun e w' => e = .returned (.bool true) ∧ RStep R m w w' := by
  have d : decide (n < 1) = true := decide_eq_true hn
  go_enter Tryd.func8, Tryd.ntmps8
  go_wp2
  go_ret
  exact ⟨rfl, Past.refl _ _, h⟩
set_option maxRecDepth 100000 in
theorem radd_0 (R : Nat) (m : Mt) (hm : m.Ok) (n : Int) (hn : ¬ n < 1) (w : World) (h : RAt R m w) : Calls Tryd.prog 8 #[.pointer (some ⟨R, 0, none⟩), .int .i64 0, .int .i64 n] w fun e w' => e = .returned (.bool true) ∧ RStep R (m.probes n) w w' := by
  have d : decide (n < 1) = false := decide_eq_false hn
  have p1 := fun wx => rplus_any m.pa m.va m.ua n 0 0 wx
  have p2 := fun wx => rplus_any m.pl m.vl m.ul n 0 0 wx
  rw [sm_zero hm.va0 hm.va1, sm_zero hm.ua0 hm.ua1] at p1
  rw [sm_zero hm.vl0 hm.vl1, sm_zero hm.ul0 hm.ul1] at p2
  have P1 := Lib.hid p1
  have P2 := Lib.hid p2
  clear p1 p2
  have H := Lib.hid h
  clear h hn
  have n1 : 1 ≤ n := by simpa using d
  go_enter Tryd.func8, Tryd.ntmps8
  go_wp2
  go_quiet (fail)
  have hq : RAt R m (w.drewN nq) := H.out.of_block rfl
  have hp : Past [R] w (w.drewN nq) := ⟨rfl, rfl, rfl, Nat.le_refl _, fun _ _ _ => rfl⟩
  generalize w.drewN nq = wq at hq hp
  have hb := new_block wq (.cells #[.int .i64 n, .int .i64 0, .int .i64 0] 31)
  have hr := hq.below hb
  have hpr := hp.trans (Past.of hb)
  have H1 := Lib.hid hr
  have H2 := Lib.hid hpr
  clear H hq hp hb hr hpr
  go_wp2
  generalize hwb : wq.alloc (.cells #[.int .i64 n, .int .i64 0, .int .i64 0] 31) = wb at H1 H2
  have x0 : wb.cell? ⟨wq.heap.size, 0, none⟩ = some (.int .i64 n) := by rw [← hwb]; simp
  have x1 : wb.cell? ⟨wq.heap.size, 1, none⟩ = some (.int .i64 0) := by rw [← hwb]; simp
  have x2 : wb.cell? ⟨wq.heap.size, 2, none⟩ = some (.int .i64 0) := by rw [← hwb]; simp
  clear hwb
  obtain ⟨h0, h1, h2, h3, h4, h5, h6, hf⟩ := H1.out
  have x0 := Under.cell x0
  have x1 := Under.cell x1
  have x2 := Under.cell x2
  have h0 := Under.cell h0
  have h1 := Under.cell h1
  have h2 := Under.cell h2
  have h3 := Under.cell h3
  have h4 := Under.cell h4
  have h5 := Under.cell h5
  refine wp_region_any (by kernel_rfl) ?_
  refine wpAny_take (i := 1) (v := .pointer (some ⟨R, 0, none⟩)) rfl (by kernel_rfl) (by kernel_rfl) (by kernel_rfl) (fun _ _ _ h => h) (Or.inl ⟨by rfl, fun wx => by go_simp⟩) ?_
  refine wpAny_head (C := fun w' => ∃ k : Under wb, w' = k.W) (g := 6) [true, false, true, true, true, true, true, true, true, true, true, true, true, true] (by kernel_rfl) ⟨⟨_, under.drew_below wb⟩, rfl⟩ ?_
  simp only [sel, setAll]
  repeat (quiet_step ((first
    | (go_at_call 15; (with_reducible refine under_call (P1.out _)))
    | (go_at_call 15; (with_reducible refine under_call (P2.out _))))))
  refine wpQuiet_nil ?_
  intro w4 hw4
  obtain ⟨k, rfl⟩ := hw4
  refine wpAny_rest 14 rfl (by kernel_rfl) ?_
  simp only [List.drop_succ_cons, List.drop_zero]
  have hk := k.below
  have hR := H1.out.below hk
  have hP := past_set6 (H2.out.trans (Past.of hk)) (.int .i64 (m.probes n).pa) (.int .i64 (m.probes n).va) (.int .i64 (m.probes n).ua) (.int .i64 (m.probes n).pl) (.int .i64 (m.probes n).vl) (.int .i64 (m.probes n).ul)
  have hS := hR.set (m' := m.probes n) rfl
  clear hf h0 h1 h2 h3 h4 h5 h6 x0 x1 x2 P1 P2 H1 H2 hm
  generalize k.W = wk at hk hR hP hS ⊢
  obtain ⟨g0, g1, g2, g3, g4, g5, g6, gf⟩ := hR
  go_wp2
  go_ret
  exact ⟨rfl, hP, hS⟩
set_option maxRecDepth 100000 in
theorem radd_1 (R : Nat) (m : Mt) (hm : m.Ok) (n : Int) (hn : ¬ n < 1) (w : World) (h : RAt R m w) : Calls Tryd.prog 8 #[.pointer (some ⟨R, 0, none⟩), .int .i64 1, .int .i64 n] w fun e w' => e = .returned (.bool true) ∧ RStep R (m.visits n) w w' := by
  have d : decide (n < 1) = false := decide_eq_false hn
  have p1 := fun wx => rplus_any m.pa m.va m.ua 0 n 0 wx
  have p2 := fun wx => rplus_any m.pl m.vl m.ul 0 n 0 wx
  rw [sm_zero hm.pa0 hm.pa1, sm_zero hm.ua0 hm.ua1] at p1
  rw [sm_zero hm.pl0 hm.pl1, sm_zero hm.ul0 hm.ul1] at p2
  have P1 := Lib.hid p1
  have P2 := Lib.hid p2
  clear p1 p2
  have H := Lib.hid h
  clear h hn
  have n1 : 1 ≤ n := by simpa using d
  go_enter Tryd.func8, Tryd.ntmps8
  go_wp2
  go_quiet (fail)
  have hq : RAt R m (w.drewN nq) := H.out.of_block rfl
  have hp : Past [R] w (w.drewN nq) := ⟨rfl, rfl, rfl, Nat.le_refl _, fun _ _ _ => rfl⟩
  generalize w.drewN nq = wq at hq hp
  have hb := new_block wq (.cells #[.int .i64 0, .int .i64 n, .int .i64 0] 31)
  have hr := hq.below hb
  have hpr := hp.trans (Past.of hb)
  have H1 := Lib.hid hr
  have H2 := Lib.hid hpr
  clear H hq hp hb hr hpr
  go_wp2
  generalize hwb : wq.alloc (.cells #[.int .i64 0, .int .i64 n, .int .i64 0] 31) = wb at H1 H2
  have x0 : wb.cell? ⟨wq.heap.size, 0, none⟩ = some (.int .i64 0) := by rw [← hwb]; simp
  have x1 : wb.cell? ⟨wq.heap.size, 1, none⟩ = some (.int .i64 n) := by rw [← hwb]; simp
  have x2 : wb.cell? ⟨wq.heap.size, 2, none⟩ = some (.int .i64 0) := by rw [← hwb]; simp
  clear hwb
  obtain ⟨h0, h1, h2, h3, h4, h5, h6, hf⟩ := H1.out
  have x0 := Under.cell x0
  have x1 := Under.cell x1
  have x2 := Under.cell x2
  have h0 := Under.cell h0
  have h1 := Under.cell h1
  have h2 := Under.cell h2
  have h3 := Under.cell h3
  have h4 := Under.cell h4
  have h5 := Under.cell h5
  refine wp_region_any (by kernel_rfl) ?_
  refine wpAny_take (i := 1) (v := .pointer (some ⟨R, 0, none⟩)) rfl (by kernel_rfl) (by kernel_rfl) (by kernel_rfl) (fun _ _ _ h => h) (Or.inl ⟨by rfl, fun wx => by go_simp⟩) ?_
  refine wpAny_head (C := fun w' => ∃ k : Under wb, w' = k.W) (g := 6) [true, false, true, true, true, true, true, true, true, true, true, true, true, true] (by kernel_rfl) ⟨⟨_, under.drew_below wb⟩, rfl⟩ ?_
  simp only [sel, setAll]
  repeat (quiet_step ((first
    | (go_at_call 15; (with_reducible refine under_call (P1.out _)))
    | (go_at_call 15; (with_reducible refine under_call (P2.out _))))))
  refine wpQuiet_nil ?_
  intro w4 hw4
  obtain ⟨k, rfl⟩ := hw4
  refine wpAny_rest 14 rfl (by kernel_rfl) ?_
  simp only [List.drop_succ_cons, List.drop_zero]
  have hk := k.below
  have hR := H1.out.below hk
  have hP := past_set6 (H2.out.trans (Past.of hk)) (.int .i64 (m.visits n).pa) (.int .i64 (m.visits n).va) (.int .i64 (m.visits n).ua) (.int .i64 (m.visits n).pl) (.int .i64 (m.visits n).vl) (.int .i64 (m.visits n).ul)
  have hS := hR.set (m' := m.visits n) rfl
  clear hf h0 h1 h2 h3 h4 h5 h6 x0 x1 x2 P1 P2 H1 H2 hm
  generalize k.W = wk at hk hR hP hS ⊢
  obtain ⟨g0, g1, g2, g3, g4, g5, g6, gf⟩ := hR
  go_wp2
  go_ret
  exact ⟨rfl, hP, hS⟩
set_option maxRecDepth 100000 in
theorem radd_2_off (R : Nat) (m : Mt) (hm : m.Ok) (n : Int) (hn : ¬ n < 1) (hon : m.on = false) (w : World) (h : RAt R m w) : Calls Tryd.prog 8 #[.pointer (some ⟨R, 0, none⟩), .int .i64 2, .int .i64 n] w fun e w' => e = .returned (.bool true) ∧ RStep R (m.units n) w w' := by
  have d : decide (n < 1) = false := decide_eq_false hn
  have p1 := fun wx => rplus_any m.pa m.va m.ua 0 0 n wx
  have p2 := fun wx => rplus_any m.pl m.vl m.ul 0 0 n wx
  rw [sm_zero hm.pa0 hm.pa1, sm_zero hm.va0 hm.va1] at p1
  rw [sm_zero hm.pl0 hm.pl1, sm_zero hm.vl0 hm.vl1] at p2
  have P1 := Lib.hid p1
  have P2 := Lib.hid p2
  clear p1 p2
  have H := Lib.hid h
  have l6 := h.lim
  have l5 := h.ul
  unfold Mt.rlim at l6
  rw [hon] at l6
  simp only [Bool.false_eq_true, if_false] at l6
  clear hon
  clear h hn
  have n1 : 1 ≤ n := by simpa using d
  go_enter Tryd.func8, Tryd.ntmps8
  go_wp2
  go_quiet (fail)
  have hq : RAt R m (w.drewN nq) := H.out.of_block rfl
  have hp : Past [R] w (w.drewN nq) := ⟨rfl, rfl, rfl, Nat.le_refl _, fun _ _ _ => rfl⟩
  generalize w.drewN nq = wq at hq hp
  have hb := new_block wq (.cells #[.int .i64 0, .int .i64 0, .int .i64 n] 31)
  have hr := hq.below hb
  have hpr := hp.trans (Past.of hb)
  have H1 := Lib.hid hr
  have H2 := Lib.hid hpr
  clear H hq hp hb hr hpr
  go_wp2
  generalize hwb : wq.alloc (.cells #[.int .i64 0, .int .i64 0, .int .i64 n] 31) = wb at H1 H2
  have x0 : wb.cell? ⟨wq.heap.size, 0, none⟩ = some (.int .i64 0) := by rw [← hwb]; simp
  have x1 : wb.cell? ⟨wq.heap.size, 1, none⟩ = some (.int .i64 0) := by rw [← hwb]; simp
  have x2 : wb.cell? ⟨wq.heap.size, 2, none⟩ = some (.int .i64 n) := by rw [← hwb]; simp
  clear hwb
  obtain ⟨h0, h1, h2, h3, h4, h5, h6, hf⟩ := H1.out
  have x0 := Under.cell x0
  have x1 := Under.cell x1
  have x2 := Under.cell x2
  have h0 := Under.cell h0
  have h1 := Under.cell h1
  have h2 := Under.cell h2
  have h3 := Under.cell h3
  have h4 := Under.cell h4
  have h5 := Under.cell h5
  refine wp_region_any (by kernel_rfl) ?_
  refine wpAny_take (i := 1) (v := .pointer (some ⟨R, 0, none⟩)) rfl (by kernel_rfl) (by kernel_rfl) (by kernel_rfl) (fun _ _ _ h => h) (Or.inl ⟨by rfl, fun wx => by go_simp⟩) ?_
  refine wpAny_head (C := fun w' => ∃ k : Under wb, w' = k.W) (g := 6) [true, false, true, true, true, true, true, true, true, true, true, true, true, true] (by kernel_rfl) ⟨⟨_, under.drew_below wb⟩, rfl⟩ ?_
  simp only [sel, setAll]
  repeat (quiet_step ((first
    | (go_at_call 15; (with_reducible refine under_call (P1.out _)))
    | (go_at_call 15; (with_reducible refine under_call (P2.out _))))))
  refine wpQuiet_nil ?_
  intro w4 hw4
  obtain ⟨k, rfl⟩ := hw4
  refine wpAny_rest 14 rfl (by kernel_rfl) ?_
  simp only [List.drop_succ_cons, List.drop_zero]
  have hk := k.below
  have hR := H1.out.below hk
  have hP := past_set6 (H2.out.trans (Past.of hk)) (.int .i64 (m.units n).pa) (.int .i64 (m.units n).va) (.int .i64 (m.units n).ua) (.int .i64 (m.units n).pl) (.int .i64 (m.units n).vl) (.int .i64 (m.units n).ul)
  have hS := hR.set (m' := m.units n) rfl
  clear hf h0 h1 h2 h3 h4 h5 h6 x0 x1 x2 P1 P2 H1 H2 hm
  generalize k.W = wk at hk hR hP hS ⊢
  obtain ⟨g0, g1, g2, g3, g4, g5, g6, gf⟩ := hR
  go_wp2
  go_ret
  exact ⟨rfl, hP, hS⟩
set_option maxRecDepth 100000 in
theorem radd_2_on (R : Nat) (m : Mt) (hm : m.Ok) (n : Int) (hn : ¬ n < 1) (hon : m.on = true) (hle : ¬ m.lim - m.ul < n) (w : World) (h : RAt R m w) : Calls Tryd.prog 8 #[.pointer (some ⟨R, 0, none⟩), .int .i64 2, .int .i64 n] w fun e w' => e = .returned (.bool true) ∧ RStep R (m.units n) w w' := by
  have d : decide (n < 1) = false := decide_eq_false hn
  have p1 := fun wx => rplus_any m.pa m.va m.ua 0 0 n wx
  have p2 := fun wx => rplus_any m.pl m.vl m.ul 0 0 n wx
  rw [sm_zero hm.pa0 hm.pa1, sm_zero hm.va0 hm.va1] at p1
  rw [sm_zero hm.pl0 hm.pl1, sm_zero hm.vl0 hm.vl1] at p2
  have P1 := Lib.hid p1
  have P2 := Lib.hid p2
  clear p1 p2
  have H := Lib.hid h
  have l6 := h.lim
  have l5 := h.ul
  unfold Mt.rlim at l6
  rw [hon] at l6
  simp only [if_true] at l6
  have b1 := hm.ul0
  have b2 := hm.ul1
  have b3 := hm.lim1
  have b4 := hm.on0 hon
  have e0 : decide (0 ≤ m.lim) = true := decide_eq_true b4
  have e1 : decide (m.lim < m.ul) = false := decide_eq_false (by omega)
  have e2 : IntKind.i64.wrap (m.lim - m.ul) = m.lim - m.ul := IntWalk.i64_in _ (by omega)
  have e3 : decide (m.lim - m.ul < n) = false := decide_eq_false hle
  clear hle
  clear hon b1 b2 b3 b4
  clear h hn
  have n1 : 1 ≤ n := by simpa using d
  go_enter Tryd.func8, Tryd.ntmps8
  go_wp2
  go_quiet (fail)
  have hq : RAt R m (w.drewN nq) := H.out.of_block rfl
  have hp : Past [R] w (w.drewN nq) := ⟨rfl, rfl, rfl, Nat.le_refl _, fun _ _ _ => rfl⟩
  generalize w.drewN nq = wq at hq hp
  have hb := new_block wq (.cells #[.int .i64 0, .int .i64 0, .int .i64 n] 31)
  have hr := hq.below hb
  have hpr := hp.trans (Past.of hb)
  have H1 := Lib.hid hr
  have H2 := Lib.hid hpr
  clear H hq hp hb hr hpr
  go_wp2
  generalize hwb : wq.alloc (.cells #[.int .i64 0, .int .i64 0, .int .i64 n] 31) = wb at H1 H2
  have x0 : wb.cell? ⟨wq.heap.size, 0, none⟩ = some (.int .i64 0) := by rw [← hwb]; simp
  have x1 : wb.cell? ⟨wq.heap.size, 1, none⟩ = some (.int .i64 0) := by rw [← hwb]; simp
  have x2 : wb.cell? ⟨wq.heap.size, 2, none⟩ = some (.int .i64 n) := by rw [← hwb]; simp
  clear hwb
  obtain ⟨h0, h1, h2, h3, h4, h5, h6, hf⟩ := H1.out
  have x0 := Under.cell x0
  have x1 := Under.cell x1
  have x2 := Under.cell x2
  have h0 := Under.cell h0
  have h1 := Under.cell h1
  have h2 := Under.cell h2
  have h3 := Under.cell h3
  have h4 := Under.cell h4
  have h5 := Under.cell h5
  refine wp_region_any (by kernel_rfl) ?_
  refine wpAny_take (i := 1) (v := .pointer (some ⟨R, 0, none⟩)) rfl (by kernel_rfl) (by kernel_rfl) (by kernel_rfl) (fun _ _ _ h => h) (Or.inl ⟨by rfl, fun wx => by go_simp⟩) ?_
  refine wpAny_head (C := fun w' => ∃ k : Under wb, w' = k.W) (g := 6) [true, false, true, true, true, true, true, true, true, true, true, true, true, true] (by kernel_rfl) ⟨⟨_, under.drew_below wb⟩, rfl⟩ ?_
  simp only [sel, setAll]
  repeat (quiet_step ((first
    | (go_at_call 15; (with_reducible refine under_call (P1.out _)))
    | (go_at_call 15; (with_reducible refine under_call (P2.out _))))))
  refine wpQuiet_nil ?_
  intro w4 hw4
  obtain ⟨k, rfl⟩ := hw4
  refine wpAny_rest 14 rfl (by kernel_rfl) ?_
  simp only [List.drop_succ_cons, List.drop_zero]
  have hk := k.below
  have hR := H1.out.below hk
  have hP := past_set6 (H2.out.trans (Past.of hk)) (.int .i64 (m.units n).pa) (.int .i64 (m.units n).va) (.int .i64 (m.units n).ua) (.int .i64 (m.units n).pl) (.int .i64 (m.units n).vl) (.int .i64 (m.units n).ul)
  have hS := hR.set (m' := m.units n) rfl
  clear hf h0 h1 h2 h3 h4 h5 h6 x0 x1 x2 P1 P2 H1 H2 hm
  generalize k.W = wk at hk hR hP hS ⊢
  obtain ⟨g0, g1, g2, g3, g4, g5, g6, gf⟩ := hR
  go_wp2
  go_ret
  exact ⟨rfl, hP, hS⟩
set_option maxRecDepth 100000 in
theorem radd_2_past_lt (R : Nat) (m : Mt) (hm : m.Ok) (n : Int) (hn : ¬ n < 1) (hon : m.on = true) (hle : m.lim - m.ul < n) (hx : m.lim < m.ul) (w : World) (h : RAt R m w) : Calls Tryd.prog 8 #[.pointer (some ⟨R, 0, none⟩), .int .i64 2, .int .i64 n] w fun e w' => e = .returned (.bool false) ∧ RStep R m w w' := by
  have d : decide (n < 1) = false := decide_eq_false hn
  have H := Lib.hid h
  have l6 := h.lim
  have l5 := h.ul
  unfold Mt.rlim at l6
  rw [hon] at l6
  simp only [if_true] at l6
  have b1 := hm.ul0
  have b2 := hm.ul1
  have b3 := hm.lim1
  have b4 := hm.on0 hon
  have e0 : decide (0 ≤ m.lim) = true := decide_eq_true b4
  have e1 : decide (m.lim < m.ul) = true := decide_eq_true hx
  have e2 : IntKind.i64.wrap (m.lim - m.ul) = m.lim - m.ul := IntWalk.i64_in _ (by omega)
  clear hle hx
  clear hon b1 b2 b3 b4
  clear h hn
  go_enter Tryd.func8, Tryd.ntmps8
  go_wp2
  go_quiet (fail)
  have hq : RAt R m (w.drewN nq) := H.out.of_block rfl
  have hp : Past [R] w (w.drewN nq) := ⟨rfl, rfl, rfl, Nat.le_refl _, fun _ _ _ => rfl⟩
  go_wp2
  go_ret
  exact ⟨rfl, hp, hq⟩
set_option maxRecDepth 100000 in
theorem radd_2_past_le (R : Nat) (m : Mt) (hm : m.Ok) (n : Int) (hn : ¬ n < 1) (hon : m.on = true) (hle : m.lim - m.ul < n) (hx : ¬ m.lim < m.ul) (w : World) (h : RAt R m w) : Calls Tryd.prog 8 #[.pointer (some ⟨R, 0, none⟩), .int .i64 2, .int .i64 n] w fun e w' => e = .returned (.bool false) ∧ RStep R m w w' := by
  have d : decide (n < 1) = false := decide_eq_false hn
  have H := Lib.hid h
  have l6 := h.lim
  have l5 := h.ul
  unfold Mt.rlim at l6
  rw [hon] at l6
  simp only [if_true] at l6
  have b1 := hm.ul0
  have b2 := hm.ul1
  have b3 := hm.lim1
  have b4 := hm.on0 hon
  have e0 : decide (0 ≤ m.lim) = true := decide_eq_true b4
  have e1 : decide (m.lim < m.ul) = false := decide_eq_false hx
  have e2 : IntKind.i64.wrap (m.lim - m.ul) = m.lim - m.ul := IntWalk.i64_in _ (by omega)
  have e3 : decide (m.lim - m.ul < n) = true := decide_eq_true hle
  clear hle hx
  clear hon b1 b2 b3 b4
  clear h hn
  go_enter Tryd.func8, Tryd.ntmps8
  go_wp2
  go_quiet (fail)
  have hq : RAt R m (w.drewN nq) := H.out.of_block rfl
  have hp : Past [R] w (w.drewN nq) := ⟨rfl, rfl, rfl, Nat.le_refl _, fun _ _ _ => rfl⟩
  go_wp2
  go_ret
  exact ⟨rfl, hp, hq⟩
/-- so many units: false if the limit is passed -/
theorem radd_2 (R : Nat) (m : Mt) (hm : m.Ok) (n : Int) (w : World) (h : RAt R m w) : Calls Tryd.prog 8 #[.pointer (some ⟨R, 0, none⟩), .int .i64 2, .int .i64 n] w fun e w' => e = .returned (.bool (decide (m.unitE n = 0))) ∧ RStep R (m.unit n) w w' := by
  unfold Mt.unitE Mt.unit
  by_cases hn : n < 1
  · rw [if_pos hn, if_pos hn]; exact radd_none R m 2 n hn w h
  · rw [if_neg hn, if_neg hn]
    unfold Mt.past
    cases hon : m.on
    · exact radd_2_off R m hm n hn hon w h
    · by_cases hle : m.lim - m.ul < n
      · have e : (true && decide (m.lim - m.ul < n)) = true := by rw [decide_eq_true hle]; rfl
        rw [e, if_pos rfl, if_pos rfl]
        by_cases hx : m.lim < m.ul
        · exact radd_2_past_lt R m hm n hn hon hle hx w h
        · exact radd_2_past_le R m hm n hn hon hle hx w h
      · have e : (true && decide (m.lim - m.ul < n)) = false := by rw [decide_eq_false hle]; rfl
        rw [e, if_neg (by decide), if_neg (by decide)]
        exact radd_2_on R m hm n hn hon hle w h
theorem Mt.Ok.probes_none {m : Mt} (h : m.Ok) : m.probes 0 = m := by unfold Mt.probes; rw [sm_zero h.pa0 h.pa1, sm_zero h.pl0 h.pl1]
theorem Mt.Ok.visits_none {m : Mt} (h : m.Ok) : m.visits 0 = m := by unfold Mt.visits; rw [sm_zero h.va0 h.va1, sm_zero h.vl0 h.vl1]
theorem radd_probes (R : Nat) (m : Mt) (hm : m.Ok) (n : Int) (h0 : 0 ≤ n) (w : World) (h : RAt R m w) : Calls Tryd.prog 8 #[.pointer (some ⟨R, 0, none⟩), .int .i64 0, .int .i64 n] w fun e w' => e = .returned (.bool true) ∧ RStep R (m.probes n) w w' := by
  by_cases hn : n < 1
  · obtain rfl : n = 0 := by omega
    rw [hm.probes_none]; exact radd_none R m 0 0 hn w h
  · exact radd_0 R m hm n hn w h
theorem radd_visits (R : Nat) (m : Mt) (hm : m.Ok) (n : Int) (h0 : 0 ≤ n) (w : World) (h : RAt R m w) : Calls Tryd.prog 8 #[.pointer (some ⟨R, 0, none⟩), .int .i64 1, .int .i64 n] w fun e w' => e = .returned (.bool true) ∧ RStep R (m.visits n) w w' := by
  by_cases hn : n < 1
  · obtain rfl : n = 0 := by omega
    rw [hm.visits_none]; exact radd_none R m 1 0 hn w h
  · exact radd_1 R m hm n hn w h
end Go.Proofs.YtfabhnbiijnohaaDoor.meter
