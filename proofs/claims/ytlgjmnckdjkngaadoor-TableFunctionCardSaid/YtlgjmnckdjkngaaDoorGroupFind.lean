/- group: Find. -/
import Derived.Test.YtlgjmnckdjkngaaDoorGroupLook
import Derived.Test.YtlgjmnckdjkngaaDoorKit
namespace Go.Proofs.YtlgjmnckdjkngaaDoor.group
open Go.ChangeShapes Go.WideShapes Go.ChangeAt Go.RowKit Go.Shelf swar trap under meter tail
attribute [local go_sem] Oper.semAt_some
set_option linter.unusedSimpArgs false
set_option linter.unusedVariables false

/-- what lies in memory between two rounds: the boxes of the receiver, the key, the result -/
structure FindOk (B o key : Nat) (r : Int) (w W : World) : Prop where
  below : Below w.heap.size w W
  cv : W.cell? ⟨w.heap.size, 0, none⟩ = some (.pointer (some ⟨B, o, none⟩))
  ck : W.cell? ⟨w.heap.size + 1, 0, none⟩ = some (.int .u64 key)
  cr : W.cell? ⟨w.heap.size + 1 + 1, 0, none⟩ = some (.int .i64 r)
  fr : W.frozen? ⟨w.heap.size + 1 + 1, 0, none⟩ = false
theorem FindOk.own (B o key : Nat) (w : World) (r : Int) (D : Nat) (hD : w.heap.size ≤ D) : OwnFrom D (fun (_ : List Nat) W => FindOk B o key r w W) := fun s X Y row h hg hr => by
  have hr' : ∀ r, row = some r → ∃ o : Obj, X.heap[r]? = some o ∧ o.isCells = false := fun r e => (hr r e).2
  exact ⟨h.below.grown hg h.below.size (fun k e => Nat.le_trans hD (hr k e).1), cell_kept h.cv hg hr', cell_kept h.ck hg hr', cell_kept h.cr hg hr', (frozen_kept h.cr hg hr').trans h.fr⟩
theorem FindOk.start (B o key : Nat) (w : World) : FindOk B o key 0 w (((w.alloc (.cells #[.pointer (some ⟨B, o, none⟩)] 69)).alloc (.cells #[.int .u64 key] 22)).alloc (.cells #[.int .i64 0] 3)) ∧
    (((w.alloc (.cells #[.pointer (some ⟨B, o, none⟩)] 69)).alloc (.cells #[.int .u64 key] 22)).alloc (.cells #[.int .i64 0] 3)).heap.size = w.heap.size + 3 := by
  obtain ⟨w1, h1⟩ : ∃ w1, w.alloc (.cells #[.pointer (some ⟨B, o, none⟩)] 69) = w1 := ⟨_, rfl⟩
  have e1 : w1.heap.size = w.heap.size + 1 := by rw [← h1]; exact World.size_alloc _ _
  have c1 : w1.cell? ⟨w.heap.size, 0, none⟩ = some (.pointer (some ⟨B, o, none⟩)) := by rw [← h1]; exact (Boxed.new w _ _).cell
  have b1 : Below w.heap.size w w1 := by rw [← h1]; exact new_block w _
  rw [h1]
  obtain ⟨w2, h2⟩ : ∃ w2, w1.alloc (.cells #[.int .u64 key] 22) = w2 := ⟨_, rfl⟩
  have e2 : w2.heap.size = w.heap.size + 2 := by rw [← h2, World.size_alloc, e1]
  have c2 : w2.cell? ⟨w.heap.size + 1, 0, none⟩ = some (.int .u64 key) := by rw [← h2, ← e1]; exact (Boxed.new w1 _ _).cell
  have b2 : Below w1.heap.size w1 w2 := by rw [← h2]; exact new_block w1 _
  rw [h2]
  have c3 : (w2.alloc (.cells #[.int .i64 0] 3)).cell? ⟨w.heap.size + 1 + 1, 0, none⟩ = some (.int .i64 0) := by rw [show w.heap.size + 1 + 1 = w2.heap.size by omega]; exact (Boxed.new w2 _ _).cell
  have f3 : (w2.alloc (.cells #[.int .i64 0] 3)).frozen? ⟨w.heap.size + 1 + 1, 0, none⟩ = false := by rw [show w.heap.size + 1 + 1 = w2.heap.size by omega]; exact (Boxed.new w2 _ _).frozen
  have b3 := new_block w2 (.cells #[.int .i64 0] 3)
  have b23 := under.below_step b2 b3
  exact ⟨⟨under.below_step b1 b23, (b23.cell (show w.heap.size < w1.heap.size by omega)).trans c1, (b3.cell (show w.heap.size + 1 < w2.heap.size by omega)).trans c2, c3, f3⟩, by rw [World.size_alloc, e2]⟩
theorem FindOk.step {B o key : Nat} {r : Int} {w W W' : World} (h : FindOk B o key r w W) (hb : Below W.heap.size W W') : FindOk B o key r w W' :=
  ⟨under.below_step h.below hb, (hb.cell (World.block_lt_of_cell? W _ h.cv)).trans h.cv, (hb.cell (World.block_lt_of_cell? W _ h.ck)).trans h.ck, (hb.cell (World.block_lt_of_cell? W _ h.cr)).trans h.cr, (hb.frozen (World.block_lt_of_cell? W _ h.cr)).trans h.fr⟩
theorem FindOk.store {B o key : Nat} {r : Int} {w W : World} (h : FindOk B o key r w W) (x : Int) : FindOk B o key x w (W.setCell ⟨w.heap.size + 1 + 1, 0, none⟩ (.int .i64 x)) := by
  refine ⟨h.below.setCell (by simp; omega) _, ?_, ?_, World.cell?_setCell_same' _ _ _ (by rw [h.cr]; rfl), by rw [World.frozen?_setCell]; exact h.fr⟩
  · rw [World.cell?_setCell_other _ _ _ _ (fun e => by have := congrArg Addr.block e; simp at this; omega)]; exact h.cv
  · rw [World.cell?_setCell_other _ _ _ _ (fun e => by have := congrArg Addr.block e; simp at this)]; exact h.ck
theorem keeps_drewN (W : World) (q : Nat) : KeepsOthers W (W.drewN q) := ⟨Nat.le_refl _, fun _ _ h _ => h⟩
theorem find_end' {B o key : Nat} {r : Int} {w W : World} (h : FindOk B o key r w W) (D : Nat) (hD : w.heap.size + 3 ≤ D) (hK : W.heap[D]? = some (.deferred (some []))) :
    W.heap[D]? = some (.deferred (some [])) ∧ (W.putObj D (.deferred none)).cell? ⟨w.heap.size + 1 + 1, 0, none⟩ = some (.int .i64 r) ∧ Below w.heap.size w (W.putObj D (.deferred none)) :=
  ⟨hK, cell_kept h.cr (grownBy_putObj' _ D (.deferred none)) (fun r e => by cases e; exact ⟨_, hK, rfl⟩), h.below.grown (grownBy_putObj' _ D (.deferred none)) h.below.size (fun r e => by cases e; omega)⟩
theorem find_end {B o key : Nat} {r : Int} {w W : World} (h : FindOk B o key r w W) (D : Nat) (hD : w.heap.size + 3 ≤ D) (hK : W.heap[D]? = some (.deferred (some []))) (x : Int) :
    (W.setCell ⟨w.heap.size + 1 + 1, 0, none⟩ (.int .i64 x)).heap[D]? = some (.deferred (some [])) ∧ ((W.setCell ⟨w.heap.size + 1 + 1, 0, none⟩ (.int .i64 x)).putObj D (.deferred none)).cell? ⟨w.heap.size + 1 + 1, 0, none⟩ = some (.int .i64 x) ∧ Below w.heap.size w ((W.setCell ⟨w.heap.size + 1 + 1, 0, none⟩ (.int .i64 x)).putObj D (.deferred none)) :=
  find_end' (h.store x) D hD ((Below.heap_setCell W ⟨w.heap.size + 1 + 1, 0, none⟩ (.int .i64 x) D (by simp; omega)).trans hK)

set_option maxRecDepth 100000 in
set_option maxHeartbeats 4000000 in
theorem find_any (B o : Nat) (g : Gp) (key h : Nat) (hh : h < 18446744073709551616) (hg : g.Ok) (w : World) (ha : GAt B o g w) (hT : TabOk w) :
    Calls Tryd.prog 51 #[.agg #[.pointer (some ⟨B, o, none⟩)], .int .u64 key, .int .u64 h] w fun e w' => e = .returned (.int .i64 (find key h g)) ∧ Below w.heap.size w w' := by
  have hw := ha.word
  have hlt := ha.lt
  have c2 := fun W => h2_q h hh W
  have c3 := fun W => (ctrl.match_full (group.word g) (h % 128) (word_lt g) (by omega) W).mono fun e w' (k : _ ∧ W = w') => (⟨k.1, k.2.symm⟩ : _ ∧ w' = W)
  rw [m_match g h] at c3
  refine (callsIn_wide (n := 3)).1 (callsIn_of_wp_marks Tryd.func51 rfl trivial ?_ rfl)
  simp only [Tryd.ntmps51, List.size_toArray, List.length_cons, List.length_nil, Nat.reduceAdd, Nat.reduceSub, Array.replicate_succ, Array.replicate_zero, List.push_toArray, List.append_toArray, List.nil_append, List.cons_append]
  refine wpIn_wide.2 ?_
  go_wp2
  obtain ⟨hS, hz⟩ := FindOk.start B o key w
  generalize ((w.alloc (.cells #[.pointer (some ⟨B, o, none⟩)] 69)).alloc (.cells #[.int .u64 key] 22)).alloc (.cells #[.int .i64 0] 3) = W3 at hS hz ⊢
  have hG3 := ha.below hS.below
  have hw3 := hG3.word
  have hv3 := hS.cv
  refine wp_region_tail_drew 8 (by kernel_rfl) (by kernel_rfl) ?_
  simp only [List.take_succ_cons, List.take_zero, List.drop_succ_cons, List.drop_zero]
  repeat (quiet_step (first
    | (go_at_call 69; exact Calls.quiet_of_same (c2 _))
    | (go_at_call 68; exact Calls.quiet_of_same (c3 _))))
  refine wpQuiet_nil ?_
  intro w4 hw4
  obtain ⟨n4, rfl⟩ := hw4
  go_wp2_with (go_at_call 60; refine (lanes_any _ _).mono ?_; rintro e w' ⟨rfl, rfl⟩)
  obtain ⟨W0, hW0⟩ : ∃ W0, (W3.drewN n4).alloc (.cells #[.int .u64 (mkM (isH h g) : Nat)] 22) = W0 := ⟨_, rfl⟩
  have hb0 : Below W3.heap.size W3 W0 := by rw [← hW0]; exact under.below_step (below_drewN' W3 n4) (new_block _ _)
  have hz0 : W0.heap.size = w.heap.size + 4 := by rw [← hW0, World.size_alloc]; show W3.heap.size + 1 = _; omega
  have hx0 : W0.cell? ⟨w.heap.size + 3, 0, none⟩ = some (.int .u64 (mkM (isH h g) : Nat)) := by
    rw [← hW0, ← hz]; exact (Boxed.new (W3.drewN n4) _ _).cell
  have hS0 := hS.step hb0
  have hT0 := hT.below hS0.below hT.lt
  rw [hW0]
  clear hW0 hb0 hS hz hG3 hw3 hv3 hw c2 c3
  have hbx : ∀ {r : Int} {W : World}, FindOk B o key r w W → GAt B o g W := fun hF => ha.below hF.below
  refine (wpIn_wide (n := 3)).1 ?_
  refine (wpIn_rangeFunc_ownG (F := Fence.wide) (n := 3) rfl (by decide) (gf := 78) (lb := #[.pointer (some ⟨w.heap.size + 3, 0, none⟩)]) rfl trivial (enters_of Tryd.func78 (by kernel_rfl) rfl)
    (lanes_stops8 2 (by decide) (w.heap.size + 3) W0.heap.size (mkM (isH h g)) (mkM_lt _) W0 (by omega) hT0.lt hx0 hT0) belowK_t (belowK_b (Nat.le_refl _)) (Below.refl _ _) (fun _ => rfl)
    (fun pre W => (∀ k ∈ pre, (g (Fin.val k)).key ≠ key) ∧ FindOk B o key 0 w W)
    (fun c pre W => c = .ret ∧ ∃ (p : List (Fin 8)) (x : Fin 8), pre = p ++ [x] ∧ (∀ k ∈ p, (g (Fin.val k)).key ≠ key) ∧ (g x.val).key = key ∧ FindOk B o key (x.val : Nat) w W)
    ?hI ?hIx ?h0 ?a1 ?assign ?body ?done ?stop)
  case assign =>
    intro l x W K hK
    gi_wp2
    exact hK
  case hI => exact OwnFrom.and (ownFrom_pure _ _) (fun s X Y row => FindOk.own B o key w 0 _ (by omega) [] X Y row)
  case hIx =>
    intro c s X Y row hs hg' hr
    obtain ⟨h1, p, x, h2, h3, h4, h5⟩ := hs
    exact ⟨h1, p, x, h2, h3, h4, FindOk.own B o key w _ _ (by omega) [] X Y row h5 hg' hr⟩
  case h0 => exact ⟨by simp, hS0⟩
  case body =>
    rintro l pre x W ⟨hm, hF⟩ hlen
    have hG := hbx hF
    have hx8 := x.isLt
    have ck := hG.key x.val hx8
    have cv := hF.cv
    have cky := hF.ck
    have cr := hF.cr
    have fr := hF.fr
    have hxi : ((x.val : Nat) : Int) < 8 := by omega
    have HF := Lib.hid hF
    have HM := Lib.hid hm
    clear hF hm hG hlen
    obtain ⟨kx, hkx⟩ : ∃ kx, (g x.val).key = kx := ⟨_, rfl⟩
    rw [hkx] at ck
    by_cases hk : kx = key
    · have d : (((kx : Nat) : Int) == ((key : Nat) : Int)) = true := by rw [beq_iff_eq]; omega
      gi_wp2
      refine inround.region (by kernel_rfl) (by kernel_rfl) (by kernel_rfl) ?_
      repeat (quiet_step_in (fail))
      refine wpQuietIn_nil ?_
      intro w5 hw5
      obtain ⟨n5, rfl⟩ := hw5
      gi_wp2
      obtain ⟨hF, hm⟩ := And.intro HF.out HM.out
      subst hk
      refine ⟨?_, rfl, pre, x, rfl, hm, hkx, ?_⟩
      · exact ((keeps_drewN W n5).trans (KeepsOthers.setCell _ _ _)).from _
      · exact (hF.step (below_drewN' W n5)).store _
    · have d : (((kx : Nat) : Int) == ((key : Nat) : Int)) = false := by rw [beq_eq_false_iff_ne]; omega
      gi_wp2
      refine inround.region (by kernel_rfl) (by kernel_rfl) (by kernel_rfl) ?_
      repeat (quiet_step_in (fail))
      refine wpQuietIn_nil ?_
      intro w5 hw5
      obtain ⟨n5, rfl⟩ := hw5
      gi_wp2
      refine ⟨(keeps_drewN W n5).from _, ⟨rfl, rfl, rfl, Nat.le_refl _, fun _ _ => rfl⟩, ?_, HF.out.step (below_drewN' W n5)⟩
      intro k hk'
      rcases List.mem_append.1 hk' with h' | h'
      · exact HM.out k h'
      · obtain rfl : k = x := by simpa using h'
        rw [hkx]; exact hk
  case done =>
    rintro D ys W hD hys ⟨hm, hF⟩ hK
    have hf : find key h g = -1 := by
      rw [find_list, ← tl_mk, ← hys]
      refine headI_none fun k hk => ?_
      obtain ⟨k', h1, rfl⟩ := List.mem_map.1 hk
      exact decide_eq_false (hm k' h1)
    have cr := hF.cr
    have fr := hF.fr
    have HN := Lib.hid hf
    clear hf
    have hE := Lib.hid (find_end hF D (by omega) hK (-1))
    clear hF hm
    go_wp2
    obtain ⟨k1, k2, k3⟩ := hE.out
    refine ⟨by simp, .inl ⟨_, _, rfl, run_takeDeferred k1, ?_⟩⟩
    refine ⟨.int .i64 (-1), ?_, by rw [HN.out], k3⟩
    simp [results, Tryd.f51, go_sem, k2]
  case stop =>
    rintro D c pre W hD hpre ⟨rfl, p, x, rfl, hm, hx, hF⟩ hK
    have hf : find key h g = (x.val : Nat) := by
      rw [find_list, ← tl_mk]
      refine headI_hit (pre := p.map Fin.val) (by simpa using hpre) ?_ (decide_eq_true hx)
      intro k hk
      obtain ⟨k', h1, rfl⟩ := List.mem_map.1 hk
      exact decide_eq_false (hm k' h1)
    have HN := Lib.hid hf
    clear hf
    have hE := Lib.hid (find_end' hF D (by omega) hK)
    clear hF hm
    refine wpIn_wide.2 ?_
    go_wp2
    obtain ⟨k1, k2, k3⟩ := hE.out
    refine ⟨by simp, .inl ⟨_, _, rfl, run_takeDeferred k1, ?_⟩⟩
    refine ⟨.int .i64 (x.val : Nat), ?_, by rw [HN.out], k3⟩
    simp [results, Tryd.f51, go_sem, k2]
end Go.Proofs.YtlgjmnckdjkngaaDoor.group
