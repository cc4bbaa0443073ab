/- group: Look; Find. -/
import Derived.Test.YtlgjmnckdjkngaaDoorGroupClear
import Derived.RangeFuncOne
import Derived.RangeFuncWrites
import Derived.Maps.AppendAt
import Derived.Maps.OwnIn
namespace Go.Proofs.YtlgjmnckdjkngaaDoor.group
open Go.ChangeShapes Go.WideShapes Go.ChangeAt Go.RowKit Go.Shelf swar trap under meter tail
attribute [local go_sem] Oper.semAt_some
set_option linter.unusedSimpArgs false
set_option linter.unusedVariables false

theorem two_last (w : World) (o : Obj) (v : Value) (t : TypeId) : ((w.alloc o).alloc (.cells #[v] t)).cell? ⟨w.heap.size + 1, 0, none⟩ = some v ∧ ((w.alloc o).alloc (.cells #[v] t)).frozen? ⟨w.heap.size + 1, 0, none⟩ = false := by
  have e : (w.alloc o).heap.size = w.heap.size + 1 := World.size_alloc _ _
  have h := Boxed.new (w.alloc o) t v
  rw [e] at h
  exact ⟨h.cell, h.frozen⟩
theorem look_nil (B o : Nat) (w : World) : Calls Tryd.prog 41 #[.pointer (some ⟨B, o, none⟩), .agg #[.pointer none]] w fun e w' => e = .returned (.agg #[.pointer (some ⟨B, o, none⟩)]) ∧ Below w.heap.size w w' := by
  have c := fun W (hb : Below w.heap.size w W) => visit_nil W
  obtain ⟨l1, l2⟩ := two_last w (.cells #[.pointer none] 39) (.pointer none) 69
  go_enter Tryd.func41, Tryd.ntmps41
  go_wp2_with (go_at_call 59; refine (c _ (two_new w _ _)).mono ?_; rintro e w' ⟨rfl, hb⟩; have hc := (hb.cell (p := ⟨w.heap.size + 1, 0, none⟩) (by simp)).trans l1; have hf := (hb.frozen (p := ⟨w.heap.size + 1, 0, none⟩) (by simp)).trans l2)
  have hb2 := (under.below_step (two_new w _ _) hb).setCell (p := ⟨w.heap.size + 1, 0, none⟩) (by simp) (.pointer (some ⟨B, o, none⟩))
  exact bodyPost_ret (v := .agg #[.pointer (some ⟨B, o, none⟩)]) (by simp [results, Tryd.results41, go_sem, hc]) rfl ⟨rfl, hb2⟩
theorem look_step {Bm om : Nat} {m m' : Mt} {w w' : World} {x y : Obj} {u : Value} (h : MAt Bm om m w) (hs : MStep Bm om m' ((w.alloc x).alloc y) w') : MStep Bm om m' w (w'.setCell ⟨w.heap.size + 1, 0, none⟩ u) := by
  have hlt := h.lt
  have s := (MStep.of h (two_new w x y)).trans hs
  have hb : Below w'.heap.size w' w' := Below.refl _ _
  exact ⟨s.past.store (.inr (by simp)) u, s.side.trans (Side.of_block (Below.heap_setCell _ _ _ _ (by simp; omega))), s.at'.of_block (Below.heap_setCell _ _ _ _ (by simp; omega))⟩
theorem look_probes (B o Bm om : Nat) (m : Mt) (w : World) (h : MAt Bm om m w) : Calls Tryd.prog 41 #[.pointer (some ⟨B, o, none⟩), .agg #[.pointer (some ⟨Bm, om, none⟩)]] w fun e w' => e = .returned (.agg #[.pointer (some ⟨B, o, none⟩)]) ∧ MStep Bm om (m.probes 1) w w' := by
  have c := fun W (hb : Below w.heap.size w W) => visit_probes Bm om m W (h.below hb)
  have hlt := h.lt
  obtain ⟨l1, l2⟩ := two_last w (.cells #[.pointer (some ⟨Bm, om, none⟩)] 39) (.pointer none) 69
  go_enter Tryd.func41, Tryd.ntmps41
  go_wp2_with (go_at_call 59; refine (c _ (two_new w _ _)).mono ?_; rintro e w' ⟨rfl, hs⟩; have hc := hs.past.cell l1 (by simp; omega); have hf := (hs.past.frozen (b := w.heap.size + 1) (i := 0) (by simp) (by simp; omega)).trans l2)
  exact bodyPost_ret (v := .agg #[.pointer (some ⟨B, o, none⟩)]) (by simp [results, Tryd.results41, go_sem, hc]) rfl ⟨rfl, look_step h hs⟩
theorem look_visits (B o Bm om : Nat) (m : Mt) (w : World) (h : MAt Bm om m w) : Calls Tryd.prog 41 #[.pointer (some ⟨B, o, none⟩), .agg #[.pointer (some ⟨Bm, om + 2, none⟩)]] w fun e w' => e = .returned (.agg #[.pointer (some ⟨B, o, none⟩)]) ∧ MStep Bm om (m.visits 1) w w' := by
  have c := fun W (hb : Below w.heap.size w W) => visit_visits Bm om m W (h.below hb)
  have hlt := h.lt
  obtain ⟨l1, l2⟩ := two_last w (.cells #[.pointer (some ⟨Bm, om + 2, none⟩)] 39) (.pointer none) 69
  go_enter Tryd.func41, Tryd.ntmps41
  go_wp2_with (go_at_call 59; refine (c _ (two_new w _ _)).mono ?_; rintro e w' ⟨rfl, hs⟩; have hc := hs.past.cell l1 (by simp; omega); have hf := (hs.past.frozen (b := w.heap.size + 1) (i := 0) (by simp) (by simp; omega)).trans l2)
  exact bodyPost_ret (v := .agg #[.pointer (some ⟨B, o, none⟩)]) (by simp [results, Tryd.results41, go_sem, hc]) rfl ⟨rfl, look_step h hs⟩
end Go.Proofs.YtlgjmnckdjkngaaDoor.group
