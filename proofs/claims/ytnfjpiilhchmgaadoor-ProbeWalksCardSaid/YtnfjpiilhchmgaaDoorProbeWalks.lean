/- ProbeWalks: the walk. -/
import Derived.Test.YtnfjpiilhchmgaaDoorProbeRef
import Derived.Test.YtnfjpiilhchmgaaDoorUnder
import Derived.Maps.OwnIn
namespace Go.Proofs.YtnfjpiilhchmgaaDoor.probe
open Go.ChangeShapes Go.WideShapes Go.ChangeAt Go.RowKit Go.Shelf errs under
attribute [local go_sem] Oper.semAt_some

theorem num_range (a : String → Addr) (w : World) (h : ErrsOk names a w) :
    Calls Tryd.prog 8 #[errV (a "ambler/api.ErrRange")] w fun e w' => e = .returned (.int .i64 1) ∧ Below w.heap.size w w' := num_at a 0 (by decide) w h

set_option maxRecDepth 100000 in
set_option maxHeartbeats 4000000 in
theorem walks_core (h n : Nat) (hok : okN n) (i va b1 : Int) (e1 : Value) (w : World) (a : String → Addr) (hE : ErrsOk names a w)
    (hA : ∀ wx, ErrsOk names a wx → Calls Tryd.prog 5 #[.int .u64 h, .int .i64 n, .int .i64 i] wx fun e w' => e = .returned (.tuple #[.int .i64 va, e1]) ∧ ∃ q, w' = wx.drewN q)
    (hR : ∀ wx, Calls Tryd.prog 6 #[.int .u64 h, .int .i64 n, .int .i64 i] wx fun e w' => e = .returned (.tuple #[.int .i64 va, .int .i64 b1]) ∧ wx = w')
    (hN : ∀ wx, ErrsOk names a wx → Calls Tryd.prog 8 #[e1] wx fun e w' => e = .returned (.int .i64 b1) ∧ Below wx.heap.size wx w') :
    Calls Tryd.prog 3 #[.int .u64 h, .int .i64 n, .int .i64 i] w fun e w' => e = .returned (.bool true) ∧ Below w.heap.size w w' := by
  have hp := okN_pos hok
  have hl := okN_le hok
  have h0' : ∀ wx, Calls Tryd.prog 6 #[.int .u64 h, .int .i64 n, .int .i64 0] wx fun e w' => e = .returned (.tuple #[.int .i64 (plc h n 0 : Nat), .int .i64 0]) ∧ wx = w' := fun wx => rat_yes h n 0 hok hp wx
  have H0 := Lib.hid h0'
  have HA := Lib.hid hA
  have HR := Lib.hid hR
  have HN := Lib.hid hN
  clear h0' hA hR hN
  have hbX : Below w.heap.size w (w.alloc (.cells #[.bool false] 4)) := (Below.refl _ w).alloc (Nat.le_refl _) _
  refine (callsIn_wide (n := 3)).1 (callsIn_of_wp_marks Tryd.func3 rfl trivial ?_ rfl)
  simp only [Tryd.ntmps3, List.size_toArray, List.length_cons, List.length_nil, Nat.reduceAdd, Nat.reduceSub, Array.replicate_succ, Array.replicate_zero, List.push_toArray, List.append_toArray, List.nil_append, List.cons_append]
  refine wpIn_wide.2 ?_
  go_wp2_with (first
    | (go_at_call 4; refine (alive_any _).mono ?_; rintro e w1 ⟨rfl, hb1⟩; have hbw := below_step hbX hb1; have hE1 := hE.below hbw)
    | (go_at_call 5; refine (HA.out _ hE1).mono ?_; rintro e w' ⟨rfl, q, rfl⟩)
    | (go_at_call 6; (with_reducible refine (HR.out _).mono ?_); rintro e w' ⟨rfl, rfl⟩)
    | (go_at_call 6; (with_reducible refine (H0.out _).mono ?_); rintro e w' ⟨rfl, rfl⟩)
    | (go_at_call 7; refine (home_yes h n hok _).mono ?_; rintro e w' ⟨rfl, rfl⟩)
    | (go_at_call 8; (with_reducible refine (num_nil _).mono ?_); rintro e w' ⟨rfl, rfl⟩)
    | (go_at_call 8; (with_reducible refine (HN.out _ (hE1.drewN q)).mono ?_); rintro e w2 ⟨rfl, hb2⟩)
    | (go_at_call 9; refine (right_yes n hok _).mono ?_; rintro e w' ⟨rfl, rfl⟩)
    | (go_at_call 10; refine (rright_yes n hok _).mono ?_; rintro e w' ⟨rfl, rfl⟩)
    | (go_at_call 11; refine (walk_any h n _).mono ?_; rintro e w' ⟨rfl, rfl⟩))
  have hb2' : Below w1.heap.size w1 w2 := ⟨hb2.os, hb2.tape, hb2.output, hb2.size, hb2.block⟩
  have hbw2 : Below w.heap.size w w2 := below_step hbw hb2'
  have z2 : w.heap.size < w2.heap.size := by
    have h1 := hb1.size
    have h2 := hb2'.size
    rw [World.size_alloc] at h1; omega
  have cr2 : w2.cell? ⟨w.heap.size, 0, none⟩ = some (.bool false) := (hb2'.cell (p := ⟨w.heap.size, 0, none⟩) (by have h1 := hb1.size; rw [World.size_alloc] at h1; simp only; omega)).trans ((hb1.cell (p := ⟨w.heap.size, 0, none⟩) (by simp)).trans (Boxed.new _ _ _).cell)
  have fr2 : w2.frozen? ⟨w.heap.size, 0, none⟩ = false := (hb2'.frozen (p := ⟨w.heap.size, 0, none⟩) (by have h1 := hb1.size; rw [World.size_alloc] at h1; simp only; omega)).trans ((hb1.frozen (p := ⟨w.heap.size, 0, none⟩) (by simp)).trans (Boxed.new _ _ _).frozen)
  clear hb1 hb2 hb2' hbX hE1 hE H0 HA HR HN
  obtain ⟨W0, hW0⟩ : ∃ W0, (((w2.alloc (Obj.cells #[] 3)).alloc (Obj.cells #[Value.slice (some { block := w2.heap.size, off := 0 }) 0 0] 33)).alloc (Obj.cells #[Value.int IntKind.u64 h] 22)).alloc (Obj.cells #[Value.int IntKind.i64 n] 3) = W0 := ⟨_, rfl⟩
  have e1 : (w2.alloc (Obj.cells #[] 3)).heap.size = w2.heap.size + 1 := World.size_alloc _ _
  have e2 : ((w2.alloc (Obj.cells #[] 3)).alloc (Obj.cells #[Value.slice (some { block := w2.heap.size, off := 0 }) 0 0] 33)).heap.size = w2.heap.size + 1 + 1 := by rw [World.size_alloc, e1]
  have e3 : (((w2.alloc (Obj.cells #[] 3)).alloc (Obj.cells #[Value.slice (some { block := w2.heap.size, off := 0 }) 0 0] 33)).alloc (Obj.cells #[Value.int IntKind.u64 h] 22)).heap.size = w2.heap.size + 1 + 1 + 1 := by rw [World.size_alloc, e2]
  have hs0 : W0.heap.size = w2.heap.size + 4 := by rw [← hW0, World.size_alloc, e3]
  have hb02 : Below w2.heap.size w2 W0 := by
    rw [← hW0]
    exact ((((Below.refl _ w2).alloc (Nat.le_refl _) _).alloc (by omega) _).alloc (by omega) _).alloc (by omega) _
  have hgB : W0.cell? ⟨w2.heap.size + 1 + 1 + 1, 0, none⟩ = some (.int .i64 n) := by rw [← hW0]; exact cell_new e3.symm
  have hhB : W0.cell? ⟨w2.heap.size + 1 + 1, 0, none⟩ = some (.int .u64 h) := by rw [← hW0]; exact (cell_old (by omega)).trans (cell_new e2.symm)
  have hbox : Boxed W0 (w2.heap.size + 1) 33 (.slice (some ⟨w2.heap.size, 0, none⟩) 0 0) := by
    rw [← hW0]
    have b := Boxed.new (w2.alloc (Obj.cells #[] 3)) 33 (Value.slice (some { block := w2.heap.size, off := 0 }) 0 0)
    rw [e1] at b
    exact (b.alloc _).alloc _
  have hrow0 : W0.ownsRow w2.heap.size 3 1 (.slice (some ⟨w2.heap.size, 0, none⟩) 0 0) 0 [] := by
    refine ⟨rfl, .inr ⟨w2.heap.size, 0, #[], rfl, Nat.le_refl _, ?_, Nat.le_refl _, Nat.zero_le _, rfl, rfl⟩⟩
    rw [← hW0]
    exact (Below.heap_alloc _ _ _ (by omega)).trans ((Below.heap_alloc _ _ _ (by omega)).trans ((Below.heap_alloc _ _ _ (by omega)).trans (World.alloc_heap_new w2 _)))
  rw [hW0]
  clear hW0 e1 e2 e3
  obtain ⟨i0, hi, hq0, hq1, hq2⟩ := info_parts infoInt
  refine (wpIn_wide (n := 3)).1 ?_
  refine (wpIn_rangeFunc_ownG (F := Fence.wide) (n := 3) rfl (by decide) (gf := 18) (lb := #[.pointer (some ⟨w2.heap.size + 1 + 1 + 1, 0, none⟩), .pointer (some ⟨w2.heap.size + 1 + 1, 0, none⟩)]) rfl trivial (enters_of Tryd.func18 (by kernel_rfl) rfl)
    (walk_stopsB 2 (by decide) _ _ h n hok W0 (by omega) (by omega) hgB hhB) keepB_t (keepB_b (by omega) (by omega)) (Below.refl _ _) (fun _ => rfl)
    (fun (pre : List Nat) W => (∃ v, Boxed W (w2.heap.size + 1) 33 v ∧ W.ownsRow w2.heap.size 3 1 v pre.length (pre.map enc) ∧ ∃ g c, v = .slice (some ⟨g, 0, none⟩) pre.length c ∧ g ≠ w2.heap.size + 1 + 1 + 1 ∧ g ≠ w2.heap.size + 1 + 1) ∧ Below w2.heap.size w2 W ∧ W0.heap.size ≤ W.heap.size)
    (fun _ _ _ => False)
    (OwnFrom.and (Own.from (holdsRow_own w2.heap.size (w2.heap.size + 1) 33 3 1 (fun (pre : List Nat) => pre.length) (fun (pre : List Nat) => pre.map enc) (fun (pre : List Nat) v => ∃ g c, v = .slice (some ⟨g, 0, none⟩) pre.length c ∧ g ≠ w2.heap.size + 1 + 1 + 1 ∧ g ≠ w2.heap.size + 1 + 1)) _) (OwnFrom.and (ownFrom_below (Nat.le_refl _) (by omega)) (fun _ _ _ _ hs hg _ => Nat.le_trans hs hg.size)))
    (fun _ _ _ _ _ hs _ _ => hs)
    ⟨⟨_, hbox, hrow0, _, _, rfl, by omega, by omega⟩, hb02, Nat.le_refl _⟩
    ?a1 ?assign ?body ?done ?stop)
  case assign =>
    intro l x W K hK
    gi_wp2
    exact hK
  case body =>
    rintro l pre x W ⟨⟨v, hv, hrow, g, c, rfl, hg3, hg2⟩, hB, hS⟩ hlen
    have hlen8 : pre.length < 64 := Nat.lt_of_lt_of_le hlen hl
    have hlen9 : ((pre.length : Nat) : Int) < 64 := by omega
    have hc := hv.cell
    have hz := hB.size
    clear hlen
    gi_wp2_with (gi_at_builtin; refine wpListIn_append_own_at _ rfl _ _ 33 rfl w2.heap.size 3 i0 (.int .i64 0) 1 8 Tryd.underlying33 hi hq0 hq1 hq2 rfl (by decide) (.slice (some ⟨g, 0, none⟩) pre.length c) _ _ rfl (hrow.alloc _) ⟨W.heap.size, 0, none⟩ 1 1 [.int .i64 (x : Nat)] rfl rfl (cell_one_new _ _ _) (by simp [Value.oneCell']) (by simp only [maxLen]; omega) (by omega) (by simp; omega) ?_; intro v' w1 hown' hgrow _ hat; obtain ⟨g', cap', rfl⟩ := ownsRow_succ hown'; obtain ⟨hv1, hv2, hr2, hk2, hb2⟩ := hv.appended (by decide) hrow hB.size (by omega) hown' hgrow; have hc1 := hv1.cell; have hf1 := hv1.frozen)
    have hkb : KeepB (w2.heap.size + 1 + 1 + 1) (w2.heap.size + 1 + 1) W (w1.setCell ⟨w2.heap.size + 1, 0, none⟩ (.slice (some ⟨g', 0, none⟩) (pre.length + 1) cap')) := by
      have k : ∀ b : Nat, b < W.heap.size → g ≠ b → b ≠ w2.heap.size + 1 → (w1.setCell ⟨w2.heap.size + 1, 0, none⟩ (.slice (some ⟨g', 0, none⟩) (pre.length + 1) cap')).cell? ⟨b, 0, none⟩ = W.cell? ⟨b, 0, none⟩ := fun b hb hne h1 => by
        rw [World.cell?_setCell_other _ _ _ _ (fun e => by have := congrArg Addr.block e; simp at this <;> omega), World.cell?_of_block (hgrow.block b (by simp; omega) (by simp [Value.ownBlock]; omega))]
        exact cell_old hb
      exact ⟨k _ (by omega) hg3 (by omega), k _ (by omega) hg2 (by omega)⟩
    have hg' : g' ≠ w2.heap.size + 1 + 1 + 1 ∧ g' ≠ w2.heap.size + 1 + 1 := by
      simp [Value.ownBlock] at hat
      rcases hat with rfl | rfl
      · exact ⟨hg3, hg2⟩
      · constructor <;> omega
    exact ⟨hk2.from _, hkb, ⟨_, hv2, by simpa [enc] using hr2, g', cap', by simp, hg'⟩, hB.trans hb2, Nat.le_trans hS hb2.size⟩
  case done =>
    rintro D ys W hD rfl ⟨⟨v, hv, hrow, g1, c1, rfl, _, _⟩, hB, hS⟩ hK
    rw [wl_length] at hrow hv
    have H1 : Kept w2.heap.size W (.slice (some ⟨g1, 0, none⟩) n c1) (wl h n) := ⟨by rw [wl_length]; exact hrow, by constructor <;> intro e <;> (first | cases e | (have e1 := wl_length h n; rw [e] at e1; simp at e1; omega))⟩
    have hne : wl h n ≠ [] := fun e => by have e1 := wl_length h n; rw [e] at e1; simp at e1; omega
    obtain ⟨g1', c1', hge, hg1, _, hc1⟩ := H1.cells hne
    rw [wl_length] at hge hc1
    cases hge
    have hC1 : ∀ j, j < n → W.cell? ⟨g1, j, none⟩ = some (.int .i64 (plc h n j : Nat)) := fun j hj => by rw [hc1 j hj, wl_get h n j hj]; rfl
    have hbx := hv.cell
    have cr := (hB.cell (p := ⟨w.heap.size, 0, none⟩) z2).trans cr2
    have fr := (hB.frozen (p := ⟨w.heap.size, 0, none⟩) z2).trans fr2
    have hbW := below_step hbw2 hB
    have hDl : w.heap.size ≤ D := by omega
    have hKl := (Array.getElem?_eq_some_iff.1 hK).1
    clear hc1 H1 hrow hgB hhB hbox hrow0 hb02 hbw cr2 fr2
    have hbl := hv.lt
    have hRl : w.heap.size < W.heap.size := World.block_lt_of_cell? W _ cr
    go_wp2_with (first
      | (go_at_call 12; refine (rorder_at h n hok _).mono ?_; rintro e w3 ⟨g3, c3, rfl, hg3, hC3, hb3⟩; have hbx3 := (hb3.cell (p := ⟨w2.heap.size + 1, 0, none⟩) hbl).trans hbx; have hC13 : ∀ j, j < n → w3.cell? ⟨g1, j, none⟩ = some (.int .i64 (plc h n j : Nat)) := (fun j hj => (hb3.cell (p := ⟨g1, j, none⟩) hg1).trans (hC1 j hj)); have cr3 := (hb3.cell (p := ⟨w.heap.size, 0, none⟩) hRl).trans cr; have fr3 := (hb3.frozen (p := ⟨w.heap.size, 0, none⟩) hRl).trans fr)
      | (go_at_call 13; (with_reducible refine (same_fn (plc h n) n g1 c1 g3 c3 _ hl hC13 hC3).mono ?_); rintro e w' ⟨rfl, rfl⟩)
      | (go_at_call 14; refine (order_at h n hok _).mono ?_; rintro e w4 ⟨g4, c4, rfl, hg4, hC4, hb4⟩; have hC34 : ∀ j, j < n → w4.cell? ⟨g3, j, none⟩ = some (.int .i64 (plc h n j : Nat)) := (fun j hj => (hb4.cell (p := ⟨g3, j, none⟩) hg3).trans (hC3 j hj)); have cr4 := (hb4.cell (p := ⟨w.heap.size, 0, none⟩) (Nat.lt_of_lt_of_le hRl hb3.size)).trans cr3; have fr4 := (hb4.frozen (p := ⟨w.heap.size, 0, none⟩) (Nat.lt_of_lt_of_le hRl hb3.size)).trans fr3)
      | (go_at_call 13; (with_reducible refine (same_fn (plc h n) n g4 c4 g3 c3 _ hl hC4 hC34).mono ?_); rintro e w' ⟨rfl, rfl⟩))
    have hK4 : w4.heap[D]? = some (.deferred (some [])) := (hb4.block _ (Nat.lt_of_lt_of_le hKl hb3.size)).trans ((hb3.block _ hKl).trans hK)
    obtain ⟨k1, k2, k3⟩ := once_end (below_step (below_step hbW hb3) hb4) cr4 (Nat.le_refl _) hDl (by omega) hK4
    refine ⟨by simp, .inl ⟨_, _, rfl, run_takeDeferred k1, ?_⟩⟩
    refine ⟨.bool true, ?_, rfl, k3⟩
    simp [results, Tryd.f3, go_sem, k2]
  case stop =>
    rintro D c pre W _ _ h _
    exact h.elim
set_option maxRecDepth 100000 in
set_option maxHeartbeats 4000000 in
theorem walks_no (h : Nat) (g : Int) (hg : ¬ ∃ k : Nat, g = k ∧ okN k) (i : Int) (w : World) (a : String → Addr) (hE : ErrsOk names a w) :
    Calls Tryd.prog 3 #[.int .u64 h, .int .i64 g, .int .i64 i] w fun e w' => e = .returned (.bool true) ∧ Below w.heap.size w w' := by
  have HA := Lib.hid (fun wx (he : ErrsOk names a wx) => at_no h g hg i wx _ (he.at gErrRange (nm_mem (i := 0) (by decide))))
  have HH := Lib.hid (fun wx (he : ErrsOk names a wx) => home_no h g hg wx _ (he.at gErrRange (nm_mem (i := 0) (by decide))))
  have HRA := Lib.hid (fun j wx => rat_no h g hg j wx)
  have HR := Lib.hid (fun wx => right_no g hg wx)
  have HRR := Lib.hid (fun wx => rright_no g hg wx)
  have HRO := Lib.hid (fun wx => rorder_no h g hg wx)
  have HO := Lib.hid (fun wx => order_no h g hg wx)
  have HG := Lib.hid hg
  clear hg
  have hbX : Below w.heap.size w (w.alloc (.cells #[.bool false] 4)) := (Below.refl _ w).alloc (Nat.le_refl _) _
  refine (callsIn_wide (n := 3)).1 (callsIn_of_wp_marks Tryd.func3 rfl trivial ?_ rfl)
  simp only [Tryd.ntmps3, List.size_toArray, List.length_cons, List.length_nil, Nat.reduceAdd, Nat.reduceSub, Array.replicate_succ, Array.replicate_zero, List.push_toArray, List.append_toArray, List.nil_append, List.cons_append]
  refine wpIn_wide.2 ?_
  go_wp2_with (first
    | (go_at_call 4; refine (alive_any _).mono ?_; rintro e w1 ⟨rfl, hb1⟩; have hbw := below_step hbX hb1; have hE1 := hE.below hbw)
    | (go_at_call 5; refine (HA.out _ hE1).mono ?_; rintro e w' ⟨rfl, q, rfl⟩)
    | (go_at_call 6; refine (HRA.out _ _).mono ?_; rintro e w' ⟨rfl, rfl⟩)
    | (go_at_call 7; refine (HH.out _ (hE1.drewN q)).mono ?_; rintro e w' ⟨rfl, q2, rfl⟩)
    | (go_at_call 8; (with_reducible refine (num_range a _ (hE1.drewN (q + q2))).mono ?_); rintro e w1a ⟨rfl, hb1a⟩; have hE2 := (hE1.drewN (q + q2)).below hb1a)
    | (go_at_call 8; (with_reducible refine (num_range a _ hE2).mono ?_); rintro e w2 ⟨rfl, hb2⟩)
    | (go_at_call 9; refine (HR.out _).mono ?_; rintro e w' ⟨rfl, rfl⟩)
    | (go_at_call 10; refine (HRR.out _).mono ?_; rintro e w' ⟨rfl, rfl⟩)
    | (go_at_call 11; refine (walk_any h g _).mono ?_; rintro e w' ⟨rfl, rfl⟩))
  have hb1a' : Below w1.heap.size w1 w1a := ⟨hb1a.os, hb1a.tape, hb1a.output, hb1a.size, hb1a.block⟩
  have hb2' : Below w1.heap.size w1 w2 := below_step hb1a' hb2
  have hbw2 : Below w.heap.size w w2 := below_step hbw hb2'
  have z2 : w.heap.size < w2.heap.size := by
    have h1 := hb1.size
    have h2 := hb2'.size
    rw [World.size_alloc] at h1; omega
  have cr2 : w2.cell? ⟨w.heap.size, 0, none⟩ = some (.bool false) := (hb2'.cell (p := ⟨w.heap.size, 0, none⟩) (by have h1 := hb1.size; rw [World.size_alloc] at h1; simp only; omega)).trans ((hb1.cell (p := ⟨w.heap.size, 0, none⟩) (by simp)).trans (Boxed.new _ _ _).cell)
  have fr2 : w2.frozen? ⟨w.heap.size, 0, none⟩ = false := (hb2'.frozen (p := ⟨w.heap.size, 0, none⟩) (by have h1 := hb1.size; rw [World.size_alloc] at h1; simp only; omega)).trans ((hb1.frozen (p := ⟨w.heap.size, 0, none⟩) (by simp)).trans (Boxed.new _ _ _).frozen)
  clear hb1 hb2 hb2' hb1a hb1a' hbX hE1 hE2 hE HA HH HRA
  obtain ⟨W0, hW0⟩ : ∃ W0, (((w2.alloc (Obj.cells #[] 3)).alloc (Obj.cells #[Value.slice (some { block := w2.heap.size, off := 0 }) 0 0] 33)).alloc (Obj.cells #[Value.int IntKind.u64 h] 22)).alloc (Obj.cells #[Value.int IntKind.i64 g] 3) = W0 := ⟨_, rfl⟩
  have e1 : (w2.alloc (Obj.cells #[] 3)).heap.size = w2.heap.size + 1 := World.size_alloc _ _
  have e2 : ((w2.alloc (Obj.cells #[] 3)).alloc (Obj.cells #[Value.slice (some { block := w2.heap.size, off := 0 }) 0 0] 33)).heap.size = w2.heap.size + 1 + 1 := by rw [World.size_alloc, e1]
  have e3 : (((w2.alloc (Obj.cells #[] 3)).alloc (Obj.cells #[Value.slice (some { block := w2.heap.size, off := 0 }) 0 0] 33)).alloc (Obj.cells #[Value.int IntKind.u64 h] 22)).heap.size = w2.heap.size + 1 + 1 + 1 := by rw [World.size_alloc, e2]
  have hs0 : W0.heap.size = w2.heap.size + 4 := by rw [← hW0, World.size_alloc, e3]
  have hb02 : Below w2.heap.size w2 W0 := by
    rw [← hW0]
    exact ((((Below.refl _ w2).alloc (Nat.le_refl _) _).alloc (by omega) _).alloc (by omega) _).alloc (by omega) _
  have hgB : W0.cell? ⟨w2.heap.size + 1 + 1 + 1, 0, none⟩ = some (.int .i64 g) := by rw [← hW0]; exact cell_new e3.symm
  have hbox : Boxed W0 (w2.heap.size + 1) 33 (.slice (some ⟨w2.heap.size, 0, none⟩) 0 0) := by
    rw [← hW0]
    have b := Boxed.new (w2.alloc (Obj.cells #[] 3)) 33 (Value.slice (some { block := w2.heap.size, off := 0 }) 0 0)
    rw [e1] at b
    exact (b.alloc _).alloc _
  rw [hW0]
  clear hW0 e1 e2 e3
  refine (wpIn_wide (n := 3)).1 ?_
  refine (wpIn_rangeFunc_ownG (F := Fence.wide) (n := 3) rfl (by decide) (gf := 18) (lb := #[.pointer (some ⟨w2.heap.size + 1 + 1 + 1, 0, none⟩), .pointer (some ⟨w2.heap.size + 1 + 1, 0, none⟩)]) rfl trivial (enters_of Tryd.func18 (by kernel_rfl) rfl)
    (walk_stops_no 2 (by decide) _ _ (fun _ _ => True) g HG.out W0 (by omega) hgB) (fun _ _ => trivial) (fun _ _ _ _ _ _ _ _ => trivial) (Below.refl _ _) (fun _ => rfl)
    (fun (_ : List Nat) W => Boxed W (w2.heap.size + 1) 33 (.slice (some ⟨w2.heap.size, 0, none⟩) 0 0) ∧ Below w2.heap.size w2 W)
    (fun _ _ _ => False)
    (OwnFrom.and (Own.from (boxed_own (w2.heap.size + 1) 33 (fun (_ : List Nat) => .slice (some ⟨w2.heap.size, 0, none⟩) 0 0)) _) (ownFrom_below (Nat.le_refl _) (by omega)))
    (fun _ _ _ _ _ hs _ _ => hs)
    ⟨hbox, hb02⟩
    ?a1 ?assign ?body ?done ?stop)
  case assign =>
    intro l x W K hK
    gi_wp2
    exact hK
  case body =>
    rintro l pre x W _ hlen
    exact absurd hlen (Nat.not_lt_zero _)
  case done =>
    rintro D ys W hD rfl ⟨hv, hB⟩ hK
    have hbx := hv.cell
    have cr := (hB.cell (p := ⟨w.heap.size, 0, none⟩) z2).trans cr2
    have fr := (hB.frozen (p := ⟨w.heap.size, 0, none⟩) z2).trans fr2
    have hbW := below_step hbw2 hB
    have hDl : w.heap.size ≤ D := by omega
    have hKl := (Array.getElem?_eq_some_iff.1 hK).1
    clear hgB hbox hb02 hbw cr2 fr2
    have hbl := hv.lt
    have hRl : w.heap.size < W.heap.size := World.block_lt_of_cell? W _ cr
    go_wp2_with (first
      | (go_at_call 12; refine (HRO.out _).mono ?_; rintro e w3 ⟨rfl, hb3⟩; have hbx3 := (hb3.cell (p := ⟨w2.heap.size + 1, 0, none⟩) hbl).trans hbx; have cr3 := (hb3.cell (p := ⟨w.heap.size, 0, none⟩) hRl).trans cr; have fr3 := (hb3.frozen (p := ⟨w.heap.size, 0, none⟩) hRl).trans fr)
      | (go_at_call 13; refine (same_none _ _ _ _ _).mono ?_; rintro e w' ⟨rfl, rfl⟩)
      | (go_at_call 14; refine (HO.out _).mono ?_; rintro e w4 ⟨rfl, hb4⟩; have cr4 := (hb4.cell (p := ⟨w.heap.size, 0, none⟩) (Nat.lt_of_lt_of_le hRl hb3.size)).trans cr3; have fr4 := (hb4.frozen (p := ⟨w.heap.size, 0, none⟩) (Nat.lt_of_lt_of_le hRl hb3.size)).trans fr3))
    have hK4 : w4.heap[D]? = some (.deferred (some [])) := (hb4.block _ (Nat.lt_of_lt_of_le hKl hb3.size)).trans ((hb3.block _ hKl).trans hK)
    obtain ⟨k1, k2, k3⟩ := once_end (below_step (below_step hbW hb3) hb4) cr4 (Nat.le_refl _) hDl (by omega) hK4
    refine ⟨by simp, .inl ⟨_, _, rfl, run_takeDeferred k1, ?_⟩⟩
    refine ⟨.bool true, ?_, rfl, k3⟩
    simp [results, Tryd.f3, go_sem, k2]
  case stop =>
    rintro D c pre W _ _ h _
    exact h.elim

theorem walks_any (h : Nat) (g i : Int) (w : World) (a : String → Addr) (hE : ErrsOk names a w) :
    Calls Tryd.prog 3 #[.int .u64 h, .int .i64 g, .int .i64 i] w fun e w' => e = .returned (.bool true) ∧ Below w.heap.size w w' := by
  by_cases hg : ∃ k : Nat, g = k ∧ okN k
  · obtain ⟨n, rfl, hok⟩ := hg
    by_cases hi : i < 0 ∨ (n : Int) ≤ i
    · exact walks_core h n hok i 0 1 (errV (a "ambler/api.ErrRange")) w a hE (fun wx he => at_off h n hok i hi wx _ (he.at gErrRange (nm_mem (i := 0) (by decide)))) (fun wx => rat_off h n hok i hi wx) (fun wx he => num_range a wx he)
    · obtain ⟨j, rfl⟩ := Int.eq_ofNat_of_zero_le (show 0 ≤ i by omega)
      exact walks_core h n hok j (plc h n j : Nat) 0 .nilIface w a hE (fun wx _ => (at_yes h n j hok (by omega) wx).mono fun _ _ ⟨h1, h2⟩ => ⟨h1, 0, h2.symm⟩) (fun wx => rat_yes h n j hok (by omega) wx) (fun wx _ => (num_nil wx).mono fun _ _ ⟨h1, h2⟩ => ⟨h1, h2 ▸ Below.refl _ _⟩)
  · exact walks_no h g hg i w a hE
end Go.Proofs.YtnfjpiilhchmgaaDoor.probe
