/- evac: where an evacuation lies, and what it answers. -/
import Derived.Test.YtibcokiijlamcaaGreatDoorEvacReal
import Derived.Test.YtibcokiijlamcaaGreatDoorSplitFns
import Derived.Test.YtibcokiijlamcaaGreatDoorOne
import Derived.LoopTactic
namespace Go.Proofs.YtibcokiijlamcaaGreatDoor.evac
open Go.ChangeShapes Go.WideShapes Go.ChangeAt Go.RowKit Go.Shelf swar under trap meter group probe lens tail call table
attribute [local go_sem] Oper.semAt_some stage.pureUpon move.stepUpon
set_option linter.unusedSimpArgs false
set_option linter.unusedVariables false

/-- the depth that is kept: with one target none -/
def dq (N d : Nat) : Nat := if N = 3 then d else 0
theorem dq_le {N d : Nat} (h : d ≤ 15) : dq N d ≤ 15 := by unfold dq; split <;> omega
/-- an evacuation: its tables are those of Y, so many groups are moved -/
structure EvAt (V : Nat) (Y : Lay) (d next : Nat) (W : World) : Prop where
  row : W.heap[V]? = some (.cells #[.pointer (some ⟨Y.T 0, 0, none⟩), .int .i64 (Y.n 0 : Nat), .int .i64 (next : Nat), .int .i64 (dq Y.N d : Nat), .pointer (some ⟨Y.T 1, 0, none⟩), .pointer (some ⟨Y.T (Y.N - 1), 0, none⟩)] 98 (0, 0))
section
variable {V : Nat} {Y : Lay} {d next : Nat} {W W' : World}
theorem EvAt.lt (h : EvAt V Y d next W) : V < W.heap.size := (Array.getElem?_eq_some_iff.1 h.row).1
theorem EvAt.keep (h : EvAt V Y d next W) (hb : Below W.heap.size W W') : EvAt V Y d next W' := ⟨(hb.block V h.lt).trans h.row⟩
theorem EvAt.past {l : List Nat} (h : EvAt V Y d next W) (hp : Past l W W') (hE : V ∉ l) : EvAt V Y d next W' := ⟨(hp.block V h.lt hE).trans h.row⟩
theorem EvAt.c0 (h : EvAt V Y d next W) : W.cell? ⟨V, 0, none⟩ = some (.pointer (some ⟨Y.T 0, 0, none⟩)) := by rw [cell_of_row _ _ _ _ _ _ h.row]; rfl
theorem EvAt.c1 (h : EvAt V Y d next W) : W.cell? ⟨V, 1, none⟩ = some (.int .i64 (Y.n 0 : Nat)) := by rw [cell_of_row _ _ _ _ _ _ h.row]; rfl
theorem EvAt.c2 (h : EvAt V Y d next W) : W.cell? ⟨V, 2, none⟩ = some (.int .i64 (next : Nat)) := by rw [cell_of_row _ _ _ _ _ _ h.row]; rfl
theorem EvAt.c3 (h : EvAt V Y d next W) : W.cell? ⟨V, 3, none⟩ = some (.int .i64 (dq Y.N d : Nat)) := by rw [cell_of_row _ _ _ _ _ _ h.row]; rfl
theorem EvAt.c4 (h : EvAt V Y d next W) : W.cell? ⟨V, 4, none⟩ = some (.pointer (some ⟨Y.T 1, 0, none⟩)) := by rw [cell_of_row _ _ _ _ _ _ h.row]; rfl
theorem EvAt.c5 (h : EvAt V Y d next W) : W.cell? ⟨V, 5, none⟩ = some (.pointer (some ⟨Y.T (Y.N - 1), 0, none⟩)) := by rw [cell_of_row _ _ _ _ _ _ h.row]; rfl
theorem EvAt.fz (h : EvAt V Y d next W) (i : Nat) : W.frozen? ⟨V, i, none⟩ = false := frozen_of_row _ _ i _ _ h.row
theorem EvAt.set2 (h : EvAt V Y d next W) (x : Nat) : EvAt V Y d x (W.setCell ⟨V, 2, none⟩ (.int .i64 (x : Nat))) :=
  ⟨heap_setCell_same W V 2 _ _ _ h.row⟩
end
set_option maxRecDepth 20000 in
theorem left_any (V : Nat) (Y : Lay) (d next : Nat) (hn : next ≤ Y.n 0) (h64 : Y.n 0 ≤ 64) (w : World) (hE : EvAt V Y d next w) :
    Calls Tryz.prog 15 #[.pointer (some ⟨V, 0, none⟩)] w fun e w' => e = .returned (.int .i64 ((Y.n 0 - next : Nat) : Int)) ∧ Below w.heap.size w w' := by
  have y1 := Under.cell hE.c1
  have y2 := Under.cell hE.c2
  have e1 : IntKind.i64.wrap (((Y.n 0 : Nat) : Int) - (next : Int)) = ((Y.n 0 - next : Nat) : Int) := by rw [IntWalk.i64_in _ (by omega)]; omega
  clear hE
  generalize Y.n 0 = n0 at *
  go_enter Tryz.func15, Tryz.ntmps15
  go_wp2
  refine wp_region_under (by kernel_rfl) (by kernel_rfl) ?_
  repeat (go_big_quiet_step (fail))
  refine wpQuiet_nil ?_
  intro wz hwz
  obtain ⟨z, rfl⟩ := hwz
  go_wp2
  go_ret
  exact ⟨rfl, z.below⟩
set_option maxRecDepth 20000 in
theorem target_any (V : Nat) (Y : Lay) (hN : Y.N = 2 ∨ Y.N = 3) (d next h : Nat) (hd : d ≤ 15) (hh : h < 18446744073709551616) (w : World) (hE : EvAt V Y d next w) :
    Calls Tryz.prog 23 #[.pointer (some ⟨V, 0, none⟩), .int .u64 h] w fun e w' => e = .returned (.pointer (some ⟨Y.T (tgt Y.N d h), 0, none⟩)) ∧ Below w.heap.size w w' := by
  have y3 := Under.cell hE.c3
  have g4 := hE.c4
  have g5 := hE.c5
  have hq := dq_le (N := Y.N) hd
  have cB := fun (q : Under w) => split.bit_yes h (dq Y.N d) hh (by omega) q.W
  have cM := fun (n : Int) (q : Under w) => trap.must_nil n q.W
  have hbn := split.bitN_lt h (dq Y.N d)
  have et : Y.T (tgt Y.N d h) = if split.bitN h (dq Y.N d) = 0 then Y.T 1 else Y.T (Y.N - 1) := by
    rcases hN with hN | hN
    · rw [hN, show tgt 2 d h = 1 from rfl]; simp
    · rw [hN, show tgt 3 d h = 1 + split.bitN h d from rfl, show dq 3 d = d from rfl]
      rw [hN, show dq 3 d = d from rfl] at hbn
      obtain e | e : split.bitN h d = 0 ∨ split.bitN h d = 1 := by omega
      · rw [e, if_pos rfl]
      · rw [e, if_neg (by decide)]
  rw [et]
  clear hE et
  generalize dq Y.N d = dd at *
  generalize split.bitN h dd = bt at *
  generalize Y.T 1 = T1 at *
  generalize Y.T (Y.N - 1) = T2 at *
  obtain rfl | rfl : bt = 0 ∨ bt = 1 := by omega
  · rw [if_pos rfl]
    have y4 := Under.cell g4
    go_enter Tryz.func23, Tryz.ntmps23
    go_wp2
    refine wp_region_under (by kernel_rfl) (by kernel_rfl) ?_
    repeat (go_big_quiet_step (first
      | (go_at_call 30; (with_reducible refine under_same (cB _)))
      | (go_at_call 50; (with_reducible refine under_same (cM _ _)))))
    refine wpQuiet_nil ?_
    intro wz hwz
    obtain ⟨z, rfl⟩ := hwz
    clear cB cM y3 y4
    go_wp2
    go_ret
    exact ⟨rfl, z.below⟩
  · rw [if_neg (by decide)]
    have y5 := Under.cell g5
    go_enter Tryz.func23, Tryz.ntmps23
    go_wp2
    refine wp_region_under (by kernel_rfl) (by kernel_rfl) ?_
    repeat (go_big_quiet_step (first
      | (go_at_call 30; (with_reducible refine under_same (cB _)))
      | (go_at_call 50; (with_reducible refine under_same (cM _ _)))))
    refine wpQuiet_nil ?_
    intro wz hwz
    obtain ⟨z, rfl⟩ := hwz
    clear cB cM y3 y5
    go_wp2
    go_ret
    exact ⟨rfl, z.below⟩
end Go.Proofs.YtibcokiijlamcaaGreatDoor.evac
