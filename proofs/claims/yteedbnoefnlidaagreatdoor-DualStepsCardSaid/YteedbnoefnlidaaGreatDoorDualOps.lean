/- dual: Ready, Left, Groups, where, Len. -/
import Derived.Test.YteedbnoefnlidaaGreatDoorDualFind
import Derived.Test.YteedbnoefnlidaaGreatDoorEvacAlive
import Derived.BigQuiet
namespace Go.Proofs.YteedbnoefnlidaaGreatDoor.dual
open Go.ChangeShapes Go.WideShapes Go.ChangeAt Go.RowKit Go.Shelf swar under trap meter group probe lens tail call table evac
attribute [local go_sem] Oper.semAt_some stage.pureUpon move.stepUpon
set_option linter.unusedSimpArgs false
set_option linter.unusedVariables false

section
variable {D g dn : Nat} {dp : Int} {sB sT : Value} {pm : Option Addr} {sU : Value} {w : World}
set_option maxRecDepth 20000 in
theorem ready_any (h : DRow D g dn dp sB sT pm sU w) : Calls Tryz.prog 37 #[.pointer (some ⟨D, 0, none⟩)] w fun e w' => e = .returned (.bool pm.isSome) ∧ w = w' := by
  have h5 := h.c5
  have hs := ev_some
  have hn := ev_none
  clear h
  cases pm with
  | none =>
    go_enter Tryz.func37, Tryz.ntmps37
    go_wp2
    go_ret
    exact ⟨rfl, rfl⟩
  | some x =>
    go_enter Tryz.func37, Tryz.ntmps37
    go_wp2
    go_ret
    exact ⟨rfl, rfl⟩
theorem groups_any (h : DRow D g dn dp sB sT pm sU w) : Calls Tryz.prog 39 #[.pointer (some ⟨D, 0, none⟩)] w fun e w' => e = .returned (.int .i64 (g : Nat)) ∧ w = w' := by
  have h0 := h.c0
  clear h
  go_enter Tryz.func39, Tryz.ntmps39
  go_wp2
  go_ret
  exact ⟨rfl, rfl⟩
set_option maxRecDepth 20000 in
theorem left_any (hq : dn ≤ g) (hg : g ≤ 1000) (h : DRow D g dn dp sB sT pm sU w) : Calls Tryz.prog 36 #[.pointer (some ⟨D, 0, none⟩)] w fun e w' => e = .returned (.int .i64 ((g - dn : Nat) : Int)) ∧ Below w.heap.size w w' := by
  have h0 := h.c0
  have h1 := h.c1
  have e1 : IntKind.i64.wrap ((g : Int) - (dn : Int)) = ((g - dn : Nat) : Int) := by rw [IntWalk.i64_in _ (by omega)]; omega
  clear h
  go_enter Tryz.func36, Tryz.ntmps36
  go_wp2
  go_quiet (fail)
  go_wp2
  go_ret
  exact ⟨rfl, below_drewN' _ _⟩
set_option maxRecDepth 20000 in
theorem where_no {o : Option Addr} {n c : Nat} (h : DRow D g dn dp sB (.slice o n c) none sU w) (hs : Nat) : Calls Tryz.prog 49 #[.pointer (some ⟨D, 0, none⟩), .int .u64 (hs : Nat)] w fun e w' => e = .returned (.slice o n c) ∧ w = w' := by
  have c0 := ready_any h
  have h4 := h.c4
  rw [show (none : Option Addr).isSome = false from rfl] at c0
  clear h
  go_enter Tryz.func49, Tryz.ntmps49
  go_wp2_with (go_at_call 37; refine c0.mono ?_; rintro e w1 ⟨rfl, rfl⟩)
  go_ret
  exact ⟨rfl, rfl⟩
set_option maxRecDepth 20000 in
theorem where_yes {Y : Lay} {V d nx GT NT cT : Nat} (hN : Y.N = 2 ∨ Y.N = 3) (hd : d ≤ 15) (hNT : 1 ≤ NT) (h : DRow D g dn dp sB (.slice (some ⟨GT, 0, none⟩) NT cT) (some ⟨V, 0, none⟩) sU w) (hE : EvAt V Y d nx w) (hg : w.cell? ⟨GT, 0, none⟩ = some (.pointer (some ⟨Y.T 0, 0, none⟩))) (hs : Nat) (hh : hs < 18446744073709551616) : Calls Tryz.prog 49 #[.pointer (some ⟨D, 0, none⟩), .int .u64 (hs : Nat)] w fun e w' => ∃ A, e = .returned (.slice (some ⟨A, 0, none⟩) 2 2) ∧ w'.cell? ⟨A, 0, none⟩ = some (.pointer (some ⟨Y.T (tgt Y.N d hs), 0, none⟩)) ∧ w'.cell? ⟨A, 1, none⟩ = some (.pointer (some ⟨Y.T 0, 0, none⟩)) ∧ w.heap.size ≤ A ∧ Below w.heap.size w w' := by
  have c0 := ready_any h
  have y4 := Under.cell h.c4
  have y5 := Under.cell h.c5
  have yg := Under.cell hg
  have cT := fun (q : Under w) => target_any V Y hN d nx hs hd hh q.W (hE.keep q.below)
  have hn0 : ((0 : Int) < (NT : Int)) := by omega
  have hn1 : 0 < NT := hNT
  have hn2 : NT ≠ 0 := by omega
  have hn3 : ¬ NT = 0 := by omega
  rw [show (some (⟨V, 0, none⟩ : Addr)).isSome = true from rfl] at c0
  clear h hE hg
  generalize Y.T (tgt Y.N d hs) = Tt at *
  go_enter Tryz.func49, Tryz.ntmps49
  go_wp2_with (go_at_call 37; refine c0.mono ?_; rintro e w1 ⟨rfl, rfl⟩)
  refine tail.wp_region_tail_under 12 (by kernel_rfl) (by kernel_rfl) ?_
  simp only [List.take_succ_cons, List.take_zero, List.drop_succ_cons, List.drop_zero]
  repeat (quiet_step ((go_at_call 87; (with_reducible refine under_call (cT _)))))
  refine wpQuiet_nil ?_
  intro wz hwz
  obtain ⟨z, rfl⟩ := hwz
  have hb := z.below
  clear c0 y4 y5 yg cT
  generalize z.W = w4 at *
  clear z
  go_wp2
  go_ret
  have hr := World.alloc_heap_new w4 (.cells #[.pointer (some ⟨Tt, 0, none⟩), .pointer (some ⟨Y.T 0, 0, none⟩)] 77)
  refine ⟨w4.heap.size, rfl, ?_, ?_, hb.size, under.below_step hb (new_block _ _)⟩
  · rw [cell_of_row _ _ _ _ _ _ hr]; rfl
  · rw [cell_of_row _ _ _ _ _ _ hr]; rfl
end
end Go.Proofs.YteedbnoefnlidaaGreatDoor.dual
