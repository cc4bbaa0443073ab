/- ProbeOnce: the walk. -/
import Derived.Test.YtnfjpiilhchmgaaProbeOrder
import Derived.Deep.WholeRow
import Derived.Laws.CopyOwn
import Derived.LoopTactic
namespace Go.Proofs.Ytnfjpiilhchmgaa.probe
open Go.ChangeShapes Go.WideShapes Go.ChangeAt Go.RowKit Go.Shelf
attribute [local go_sem] Oper.semAt_some

/-- which places have been come to -/
def marks (pre : List Nat) : Array Value := ((List.range 64).map fun j => Value.bool (decide (j ∈ pre))).toArray
theorem marks_size (pre : List Nat) : (marks pre).size = 64 := by simp [marks]
theorem marks_at (pre : List Nat) (j : Nat) (hj : j < 64) : (marks pre)[j]? = some (.bool (decide (j ∈ pre))) := by simp [marks, hj]
theorem marks_one (pre : List Nat) : (marks pre).all (·.oneCell') = true := by simp [marks, Value.oneCell']
theorem marks_snoc (pre : List Nat) (x : Nat) (hx : x < 64) : (marks pre).setIfInBounds x (.bool true) = marks (pre ++ [x]) := by
  apply Array.ext_getElem?
  intro i
  by_cases hi : i < 64
  · rw [marks_at _ i hi]
    by_cases h : x = i
    · subst h; simp [marks_size, hx]
    · rw [Array.getElem?_setIfInBounds_ne h, marks_at _ i hi]; simp [Ne.symm h]
  · rw [Array.getElem?_eq_none (by simp [marks_size]; omega), Array.getElem?_eq_none (by rw [marks_size]; omega)]
theorem info64b (cs : Array Value) (h : cs.size = 64) : (Try.prog.info? 24).map (·.size) = some cs.size := by rw [h]; kernel_rfl

theorem once_boxes {w w1 : World} {g most : Int} (hb1 : Below (((w.alloc (.cells #[.int .i64 g] 3)).alloc (.cells #[.int .i64 most] 3)).alloc (.cells #[.bool false] 4)).heap.size (((w.alloc (.cells #[.int .i64 g] 3)).alloc (.cells #[.int .i64 most] 3)).alloc (.cells #[.bool false] 4)) w1) :
    w1.cell? ⟨w.heap.size, 0, none⟩ = some (.int .i64 g) ∧ w1.cell? ⟨w.heap.size + 1, 0, none⟩ = some (.int .i64 most) ∧ w1.cell? ⟨w.heap.size + 1 + 1, 0, none⟩ = some (.bool false) ∧ w1.frozen? ⟨w.heap.size + 1 + 1, 0, none⟩ = false ∧ w.heap.size < w1.heap.size ∧ w.heap.size + 1 < w1.heap.size ∧ w.heap.size + 1 + 1 < w1.heap.size ∧ Below w.heap.size w w1 := by
  have h := hb1.size
  have e1 : (w.alloc (.cells #[.int .i64 g] 3)).heap.size = w.heap.size + 1 := World.size_alloc _ _
  have e2 : ((w.alloc (.cells #[.int .i64 g] 3)).alloc (.cells #[.int .i64 most] 3)).heap.size = w.heap.size + 1 + 1 := by rw [World.size_alloc, e1]
  have e3 : (((w.alloc (.cells #[.int .i64 g] 3)).alloc (.cells #[.int .i64 most] 3)).alloc (.cells #[.bool false] 4)).heap.size = w.heap.size + 1 + 1 + 1 := by rw [World.size_alloc, e2]
  rw [e3] at h
  refine ⟨(hb1.cell (p := ⟨w.heap.size, 0, none⟩) (by rw [e3]; simp only; omega)).trans ((cell_old (by omega)).trans ((cell_old (by omega)).trans (cell_new rfl))), (hb1.cell (p := ⟨w.heap.size + 1, 0, none⟩) (by rw [e3]; simp only; omega)).trans ((cell_old (by omega)).trans (cell_new e1.symm)), (hb1.cell (p := ⟨w.heap.size + 1 + 1, 0, none⟩) (by rw [e3]; simp only; omega)).trans (cell_new e2.symm), (hb1.frozen (p := ⟨w.heap.size + 1 + 1, 0, none⟩) (by rw [e3]; simp only; omega)).trans (frozen_new e2.symm), by omega, by omega, by omega, ?_⟩
  exact below_step ((((Below.refl _ w).alloc (Nat.le_refl _) _).alloc (by omega) _).alloc (by omega) _) hb1

/-- what is in memory between two rounds -/
structure OnceOk (w w1 : World) (g most : Int) (pre : List Nat) (W : World) : Prop where
  below : Below w.heap.size w W
  cg : W.cell? ⟨w.heap.size, 0, none⟩ = some (.int .i64 g)
  cm : W.cell? ⟨w.heap.size + 1, 0, none⟩ = some (.int .i64 most)
  cr : W.cell? ⟨w.heap.size + 1 + 1, 0, none⟩ = some (.bool false)
  fr : W.frozen? ⟨w.heap.size + 1 + 1, 0, none⟩ = false
  cn : W.cell? ⟨w1.heap.size + 1, 0, none⟩ = some (.int .i64 (pre.length : Nat))
  fn : W.frozen? ⟨w1.heap.size + 1, 0, none⟩ = false
  row : W.heap[w1.heap.size]? = some (.cells (marks pre) 24 (0, 0))
theorem once_own (w w1 : World) (g most : Int) (B : Nat) (hB : w.heap.size ≤ B) : OwnFrom B (OnceOk w w1 g most) := fun s X Y row h hg hr => by
  have hr' : ∀ r, row = some r → ∃ o : Obj, X.heap[r]? = some o ∧ o.isCells = false := fun r e => (hr r e).2
  exact ⟨h.below.grown hg h.below.size (fun k e => Nat.le_trans hB (hr k e).1), cell_kept h.cg hg hr', cell_kept h.cm hg hr', cell_kept h.cr hg hr', (frozen_kept h.cr hg hr').trans h.fr, cell_kept h.cn hg hr', (frozen_kept h.cn hg hr').trans h.fn,
    (grownBy_keeps_cells hg hr' h.row rfl).trans h.row⟩
theorem OnceOk.cell {w w1 W : World} {g most : Int} {pre : List Nat} (h : OnceOk w w1 g most pre W) (x : Nat) (hx : x < 64) : W.cell? ⟨w1.heap.size, x, none⟩ = some (.bool (decide (x ∈ pre))) := by
  rw [cell_of_row _ _ x _ _ _ h.row]; exact marks_at _ _ hx
theorem OnceOk.frozen {w w1 W : World} {g most : Int} {pre : List Nat} (h : OnceOk w w1 g most pre W) (x : Nat) : W.frozen? ⟨w1.heap.size, x, none⟩ = false := frozen_of_row _ _ x _ _ h.row
theorem OnceOk.next {w w1 W : World} {g most : Int} {pre : List Nat} (h : OnceOk w w1 g most pre W) (z : w.heap.size + 1 + 1 < w1.heap.size) (x : Nat) (hx : x < 64) :
    OnceOk w w1 g most (pre ++ [x]) ((W.setCell ⟨w1.heap.size, x, none⟩ (.bool true)).setCell ⟨w1.heap.size + 1, 0, none⟩ (.int .i64 ((pre.length : Nat) + 1 : Int))) := by
  have o : ∀ b i : Nat, b ≠ w1.heap.size → b ≠ w1.heap.size + 1 → ((W.setCell ⟨w1.heap.size, x, none⟩ (.bool true)).setCell ⟨w1.heap.size + 1, 0, none⟩ (.int .i64 ((pre.length : Nat) + 1 : Int))).cell? ⟨b, i, none⟩ = W.cell? ⟨b, i, none⟩ := fun b i h1 h2 => by
    rw [World.cell?_setCell_other _ _ _ _ (fun e => by have := congrArg Addr.block e; simp at this <;> omega), World.cell?_setCell_other _ _ _ _ (fun e => by have := congrArg Addr.block e; simp at this <;> omega)]
  refine ⟨(h.below.setCell (p := ⟨w1.heap.size, x, none⟩) (by simp; omega) _).setCell (p := ⟨w1.heap.size + 1, 0, none⟩) (show w.heap.size ≤ w1.heap.size + 1 by omega) _, (o _ 0 (by omega) (by omega)).trans h.cg, (o _ 0 (by omega) (by omega)).trans h.cm, (o _ 0 (by omega) (by omega)).trans h.cr, ?_, ?_, ?_, ?_⟩
  · rw [World.frozen?_setCell, World.frozen?_setCell]; exact h.fr
  · rw [World.cell?_setCell_same' _ _ _ (by rw [World.cell?_setCell_other _ _ _ _ (by simp), h.cn]; rfl)]; simp
  · rw [World.frozen?_setCell, World.frozen?_setCell]; exact h.fn
  · rw [heap_setCell_other _ _ _ _ (by simp), heap_setCell_same W _ x (marks pre) _ _ h.row, marks_snoc _ _ hx]

theorem once_keep (W w1 : World) (x : Nat) (v : Value) : KeepB (w1.heap.size + 1 + 1 + 1) (w1.heap.size + 1 + 1) W ((W.setCell ⟨w1.heap.size, x, none⟩ (.bool true)).setCell ⟨w1.heap.size + 1, 0, none⟩ v) :=
  ⟨by rw [World.cell?_setCell_other _ _ _ _ (fun e => by have := congrArg Addr.block e; simp at this <;> omega), World.cell?_setCell_other _ _ _ _ (fun e => by have := congrArg Addr.block e; simp at this <;> omega)], by rw [World.cell?_setCell_other _ _ _ _ (fun e => by have := congrArg Addr.block e; simp at this <;> omega), World.cell?_setCell_other _ _ _ _ (fun e => by have := congrArg Addr.block e; simp at this <;> omega)]⟩
set_option maxRecDepth 100000 in
set_option maxHeartbeats 4000000 in
theorem once_yes (h n : Nat) (hok : okN n) (most : Int) (w : World) :
    Calls Try.prog 3 #[.int .u64 h, .int .i64 n, .int .i64 most] w fun e w' => e = .returned (.bool true) ∧ Below w.heap.size w w' := by
  have hp := okN_pos hok
  have hl := okN_le hok
  refine (callsIn_wide (n := 3)).1 (callsIn_of_wp_marks Try.func3 rfl trivial ?_ rfl)
  simp only [Try.ntmps3, List.size_toArray, List.length_cons, List.length_nil, Nat.reduceAdd, Nat.reduceSub, Array.replicate_succ, Array.replicate_zero, List.push_toArray, List.append_toArray, List.nil_append, List.cons_append]
  refine wpIn_wide.2 ?_
  go_wp2_with (first
    | (go_at_call 5; refine (alive_any _).mono ?_; rintro e w1 ⟨rfl, hb1⟩; obtain ⟨c0, c1, c2, f2, z0, z1, z2, hbw⟩ := once_boxes hb1)
    | (refine wpList_store_row (by rfl) 24 _ _ (by rfl) w1.heap.size (marks []) (by rfl) (by rfl) 24 _ (heap_alloc_new _ _) (info64b _ (marks_size _)) (by rfl) (marks_one _) ?_; rw [World.setRow_alloc_new])
    | (go_at_call 6; refine (walk_any h n _).mono ?_; rintro e w' ⟨rfl, rfl⟩))
  obtain ⟨W0, hW0⟩ : ∃ W0, (((w1.alloc (Obj.cells (marks []) 24)).alloc (Obj.cells #[Value.int IntKind.i64 0] 3)).alloc (Obj.cells #[Value.int IntKind.u64 h] 22)).alloc (Obj.cells #[Value.int IntKind.i64 n] 3) = W0 := ⟨_, rfl⟩
  have e1 : (w1.alloc (Obj.cells (marks []) 24)).heap.size = w1.heap.size + 1 := World.size_alloc _ _
  have e2 : ((w1.alloc (Obj.cells (marks []) 24)).alloc (Obj.cells #[Value.int IntKind.i64 0] 3)).heap.size = w1.heap.size + 1 + 1 := by rw [World.size_alloc, e1]
  have e3 : (((w1.alloc (Obj.cells (marks []) 24)).alloc (Obj.cells #[Value.int IntKind.i64 0] 3)).alloc (Obj.cells #[Value.int IntKind.u64 h] 22)).heap.size = w1.heap.size + 1 + 1 + 1 := by rw [World.size_alloc, e2]
  have hs0 : W0.heap.size = w1.heap.size + 4 := by rw [← hW0, World.size_alloc, e3]
  have hb01 : Below w1.heap.size w1 W0 := by
    rw [← hW0]
    exact ((((Below.refl _ w1).alloc (Nat.le_refl _) _).alloc (by omega) _).alloc (by omega) _).alloc (by omega) _
  have hgB : W0.cell? ⟨w1.heap.size + 1 + 1 + 1, 0, none⟩ = some (.int .i64 n) := by rw [← hW0]; exact cell_new e3.symm
  have hhB : W0.cell? ⟨w1.heap.size + 1 + 1, 0, none⟩ = some (.int .u64 h) := by rw [← hW0]; exact (cell_old (by omega)).trans (cell_new e2.symm)
  have h00 : OnceOk w w1 n most [] W0 := by
    refine ⟨below_step hbw hb01, (hb01.cell (p := ⟨w.heap.size, 0, none⟩) z0).trans c0, (hb01.cell (p := ⟨w.heap.size + 1, 0, none⟩) z1).trans c1, (hb01.cell (p := ⟨w.heap.size + 1 + 1, 0, none⟩) z2).trans c2, (hb01.frozen (p := ⟨w.heap.size + 1 + 1, 0, none⟩) z2).trans f2, ?_, ?_, ?_⟩
    · rw [← hW0]; exact (cell_old (by omega)).trans ((cell_old (by omega)).trans (cell_new e1.symm))
    · rw [← hW0]; exact (frozen_old (by omega)).trans ((frozen_old (by omega)).trans (frozen_new e1.symm))
    · rw [← hW0]
      exact (Below.heap_alloc _ _ _ (by omega)).trans ((Below.heap_alloc _ _ _ (by omega)).trans ((Below.heap_alloc _ _ _ (by omega)).trans (World.alloc_heap_new w1 _)))
  rw [hW0]
  clear hW0 c0 c1 c2 f2 hb1 e1 e2 e3
  refine (wpIn_wide (n := 3)).1 ?_
  refine (wpIn_rangeFunc_ownG (F := Fence.wide) (n := 3) rfl (by decide) (gf := 10) (lb := #[.pointer (some ⟨w1.heap.size + 1 + 1 + 1, 0, none⟩), .pointer (some ⟨w1.heap.size + 1 + 1, 0, none⟩)]) rfl trivial (enters_of Try.func10 (by kernel_rfl) rfl)
    (walk_stopsB 2 (by decide) _ _ h n hok W0 (by omega) (by omega) hgB hhB) keepB_t (keepB_b (by omega) (by omega)) (Below.refl _ _) (fun _ => rfl)
    (fun pre W => ¬ (1 ≤ most ∧ most ≤ (pre.length : Nat)) ∧ OnceOk w w1 n most pre W)
    (fun c pre W => (c = .ret ∧ ¬ pre <+: wl h n) ∨ (c = .exit 0 ∧ ((pre.length : Nat) : Int) = most ∧ 1 ≤ pre.length ∧ OnceOk w w1 n most pre W))
    ?hI ?hIx ?h0 ?a1 ?assign ?body ?done ?stop)
  case assign =>
    intro l x W K hK
    gi_wp2
    exact hK
  case hI => exact OwnFrom.and (ownFrom_pure _ _) (once_own w w1 n most _ (by omega))
  case hIx =>
    intro c s X Y row hs hg hr
    rcases hs with hs | ⟨h1, h2, h2', h3⟩
    · exact .inl hs
    · exact .inr ⟨h1, h2, h2', once_own w w1 n most _ (by omega) s X Y row h3 hg hr⟩
  case h0 => exact ⟨by simp; omega, h00⟩
  case body =>
    rintro l pre x W ⟨hm, hO⟩ hlen
    by_cases hxn : x < n
    · have hx64 : x < 64 := by omega
      have cx := hO.cell x hx64
      have fx := hO.frozen x
      have cg := hO.cg
      have hO' := Lib.hid hO
      have hx1 : (x : Int) < (n : Int) := by omega
      have hx2 : (x : Int) < 64 := by omega
      have cr := hO.cr
      have fr := hO.fr
      by_cases hin : x ∈ pre
      · have hnp := Lib.hid (prefix_new (h := h) hok hin)
        rw [decide_eq_true hin] at cx
        clear hin hO
        gi_wp2
        exact ⟨(KeepsOthers.setCell _ _ _).from _, .inl ⟨rfl, hnp.out⟩⟩
      · rw [decide_eq_false hin] at cx
        have cn := hO.cn
        have fn := hO.fn
        have cm := hO.cm
        have hN := Lib.hid (hO.next z2 x hx64)
        clear hin hO
        by_cases hmost : ((pre.length : Nat) : Int) + 1 = most
        · have ht : (((pre.length : Nat) : Int) + 1 == most) = true := beq_iff_eq.2 hmost
          have HM := Lib.hid hmost
          clear hmost
          gi_wp2
          exact ⟨((KeepsOthers.setCell _ _ _).trans (KeepsOthers.setCell _ _ _)).from _, .inr ⟨rfl, by have := HM.out; simp; omega, by simp, hN.out⟩⟩
        · have ht : (((pre.length : Nat) : Int) + 1 == most) = false := beq_eq_false_iff_ne.2 hmost
          have hkb := Lib.hid (once_keep W w1 x (.int .i64 ((pre.length : Nat) + 1 : Int)))
          have hm' := Lib.hid (show ¬ (1 ≤ most ∧ most ≤ ((pre ++ [x]).length : Nat)) by simp; omega)
          gi_wp2
          exact ⟨((KeepsOthers.setCell _ _ _).trans (KeepsOthers.setCell _ _ _)).from _, hkb.out, hm'.out, hN.out⟩
    · have hx1 : (n : Int) ≤ (x : Int) := by omega
      have cg := hO.cg
      have cr := hO.cr
      have fr := hO.fr
      have hnp := Lib.hid (prefix_lt (h := h) (pre := pre) hp hxn)
      gi_wp2
      exact ⟨(KeepsOthers.setCell _ _ _).from _, .inl ⟨rfl, hnp.out⟩⟩
  case done =>
    rintro D ys W hD rfl ⟨hm, hO⟩ hK
    rw [wl_length] at hm
    have cg := hO.cg
    have cm := hO.cm
    have cn := hO.cn
    rw [wl_length] at cn
    have cr := hO.cr
    have fr := hO.fr
    have hE := Lib.hid (once_end hO.below cr (by omega) (by omega) (by omega) hK)
    clear hO
    by_cases h1 : most < 1
    · go_wp2_with (go_at_call 7; refine (right_yes n hok _).mono ?_; rintro e w' ⟨rfl, rfl⟩)
      obtain ⟨k1, k2, k3⟩ := hE.out
      refine ⟨by simp, .inl ⟨_, _, rfl, run_takeDeferred k1, ?_⟩⟩
      refine ⟨.bool true, ?_, rfl, k3⟩
      simp [results, Try.f3, go_sem, k2]
    · have h2 : (n : Int) < most := by omega
      have h3 : decide (most < 1) = false := decide_eq_false h1
      clear hm h1
      go_wp2_with (go_at_call 7; refine (right_yes n hok _).mono ?_; rintro e w' ⟨rfl, rfl⟩)
      obtain ⟨k1, k2, k3⟩ := hE.out
      refine ⟨by simp, .inl ⟨_, _, rfl, run_takeDeferred k1, ?_⟩⟩
      refine ⟨.bool true, ?_, rfl, k3⟩
      simp [results, Try.f3, go_sem, k2]
  case stop =>
    rintro D c pre W hD hpre (⟨_, hno⟩ | ⟨rfl, hmost, h0, hO⟩) hK
    · exact absurd hpre hno
    · have hle : pre.length ≤ n := by have := hpre.length_le; rwa [wl_length] at this
      have cg := hO.cg
      have cm := hO.cm
      have cn := hO.cn
      have cr := hO.cr
      have fr := hO.fr
      have hE := Lib.hid (once_end hO.below cr (by omega) (by omega) (by omega) hK)
      clear hO hpre
      subst hmost
      refine wpIn_wide.2 ?_
      have h1 : decide (((pre.length : Nat) : Int) < 1) = false := decide_eq_false (by omega)
      have h2 : ((pre.length : Nat) : Int) ≤ (n : Int) := by omega
      go_wp2_with (go_at_call 7; refine (right_yes n hok _).mono ?_; rintro e w' ⟨rfl, rfl⟩)
      all_goals
        try (have e : (((pre.length : Nat) : Int) == (n : Int)) = true := by rw [beq_iff_eq]; omega
             rw [e])
        obtain ⟨k1, k2, k3⟩ := hE.out
        refine ⟨by simp, .inl ⟨_, _, rfl, run_takeDeferred k1, ?_⟩⟩
        refine ⟨.bool true, ?_, rfl, k3⟩
        simp [results, Try.f3, go_sem, k2]
set_option maxRecDepth 100000 in
set_option maxHeartbeats 4000000 in
theorem once_no (h : Nat) (g : Int) (hg : ¬ ∃ k : Nat, g = k ∧ okN k) (most : Int) (w : World) :
    Calls Try.prog 3 #[.int .u64 h, .int .i64 g, .int .i64 most] w fun e w' => e = .returned (.bool true) ∧ Below w.heap.size w w' := by
  refine (callsIn_wide (n := 3)).1 (callsIn_of_wp_marks Try.func3 rfl trivial ?_ rfl)
  simp only [Try.ntmps3, List.size_toArray, List.length_cons, List.length_nil, Nat.reduceAdd, Nat.reduceSub, Array.replicate_succ, Array.replicate_zero, List.push_toArray, List.append_toArray, List.nil_append, List.cons_append]
  refine wpIn_wide.2 ?_
  go_wp2_with (first
    | (go_at_call 5; refine (alive_any _).mono ?_; rintro e w1 ⟨rfl, hb1⟩; obtain ⟨c0, c1, c2, f2, z0, z1, z2, hbw⟩ := once_boxes hb1)
    | (refine wpList_store_row (by rfl) 24 _ _ (by rfl) w1.heap.size (marks []) (by rfl) (by rfl) 24 _ (heap_alloc_new _ _) (info64b _ (marks_size _)) (by rfl) (marks_one _) ?_; rw [World.setRow_alloc_new])
    | (go_at_call 6; refine (walk_any h g _).mono ?_; rintro e w' ⟨rfl, rfl⟩))
  obtain ⟨W0, hW0⟩ : ∃ W0, (((w1.alloc (Obj.cells (marks []) 24)).alloc (Obj.cells #[Value.int IntKind.i64 0] 3)).alloc (Obj.cells #[Value.int IntKind.u64 h] 22)).alloc (Obj.cells #[Value.int IntKind.i64 g] 3) = W0 := ⟨_, rfl⟩
  have e1 : (w1.alloc (Obj.cells (marks []) 24)).heap.size = w1.heap.size + 1 := World.size_alloc _ _
  have e2 : ((w1.alloc (Obj.cells (marks []) 24)).alloc (Obj.cells #[Value.int IntKind.i64 0] 3)).heap.size = w1.heap.size + 1 + 1 := by rw [World.size_alloc, e1]
  have e3 : (((w1.alloc (Obj.cells (marks []) 24)).alloc (Obj.cells #[Value.int IntKind.i64 0] 3)).alloc (Obj.cells #[Value.int IntKind.u64 h] 22)).heap.size = w1.heap.size + 1 + 1 + 1 := by rw [World.size_alloc, e2]
  have hs0 : W0.heap.size = w1.heap.size + 4 := by rw [← hW0, World.size_alloc, e3]
  have hb01 : Below w1.heap.size w1 W0 := by
    rw [← hW0]
    exact ((((Below.refl _ w1).alloc (Nat.le_refl _) _).alloc (by omega) _).alloc (by omega) _).alloc (by omega) _
  have hgB : W0.cell? ⟨w1.heap.size + 1 + 1 + 1, 0, none⟩ = some (.int .i64 g) := by rw [← hW0]; exact cell_new e3.symm
  have h00 : OnceOk w w1 g most [] W0 := by
    refine ⟨below_step hbw hb01, (hb01.cell (p := ⟨w.heap.size, 0, none⟩) z0).trans c0, (hb01.cell (p := ⟨w.heap.size + 1, 0, none⟩) z1).trans c1, (hb01.cell (p := ⟨w.heap.size + 1 + 1, 0, none⟩) z2).trans c2, (hb01.frozen (p := ⟨w.heap.size + 1 + 1, 0, none⟩) z2).trans f2, ?_, ?_, ?_⟩
    · rw [← hW0]; exact (cell_old (by omega)).trans ((cell_old (by omega)).trans (cell_new e1.symm))
    · rw [← hW0]; exact (frozen_old (by omega)).trans ((frozen_old (by omega)).trans (frozen_new e1.symm))
    · rw [← hW0]
      exact (Below.heap_alloc _ _ _ (by omega)).trans ((Below.heap_alloc _ _ _ (by omega)).trans ((Below.heap_alloc _ _ _ (by omega)).trans (World.alloc_heap_new w1 _)))
  rw [hW0]
  clear hW0 c0 c1 c2 f2 hb1 e1 e2 e3
  refine (wpIn_wide (n := 3)).1 ?_
  refine (wpIn_rangeFunc_ownG (F := Fence.wide) (n := 3) rfl (by decide) (gf := 10) (lb := #[.pointer (some ⟨w1.heap.size + 1 + 1 + 1, 0, none⟩), .pointer (some ⟨w1.heap.size + 1 + 1, 0, none⟩)]) rfl trivial (enters_of Try.func10 (by kernel_rfl) rfl)
    (walk_stops_no 2 (by decide) _ _ (fun _ _ => True) g hg W0 (by omega) hgB) (fun _ _ => trivial) (fun _ _ _ _ _ _ _ _ => trivial) (Below.refl _ _) (fun _ => rfl)
    (fun pre W => OnceOk w w1 g most pre W)
    (fun _ _ _ => False)
    (once_own w w1 g most _ (by omega)) (fun _ _ _ _ _ hs _ _ => hs) h00 ?a1 ?assign ?body ?done ?stop)
  case assign =>
    intro l x W K hK
    gi_wp2
    exact hK
  case body =>
    rintro l pre x W _ hlen
    exact absurd hlen (Nat.not_lt_zero _)
  case done =>
    rintro D ys W hD rfl hO hK
    have cg := hO.cg
    have cn := hO.cn
    have cr := hO.cr
    have fr := hO.fr
    have hE := Lib.hid (once_end hO.below cr (by omega) (by omega) (by omega) hK)
    have HG := Lib.hid (fun wx => right_no g hg wx)
    clear hO hg
    go_wp2_with (go_at_call 7; refine (HG.out _).mono ?_; rintro e w' ⟨rfl, rfl⟩)
    obtain ⟨k1, k2, k3⟩ := hE.out
    refine ⟨by simp, .inl ⟨_, _, rfl, run_takeDeferred k1, ?_⟩⟩
    refine ⟨.bool true, ?_, rfl, k3⟩
    simp [results, Try.f3, go_sem, k2]
  case stop =>
    rintro D c pre W _ _ h _
    exact h.elim

theorem once_any (h : Nat) (g most : Int) (w : World) :
    Calls Try.prog 3 #[.int .u64 h, .int .i64 g, .int .i64 most] w fun e w' => e = .returned (.bool true) ∧ Below w.heap.size w w' := by
  by_cases hg : ∃ k : Nat, g = k ∧ okN k
  · obtain ⟨n, rfl, hok⟩ := hg
    exact once_yes h n hok most w
  · exact once_no h g hg most w
end Go.Proofs.Ytnfjpiilhchmgaa.probe
