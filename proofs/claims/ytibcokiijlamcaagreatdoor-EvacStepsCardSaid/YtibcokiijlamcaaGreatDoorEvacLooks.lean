/- evac: how many groups the document's evacuation has looked at. -/
import Derived.Test.YtibcokiijlamcaaGreatDoorEvacRef
import Derived.LoopTactic
namespace Go.Proofs.YtibcokiijlamcaaGreatDoor.evac
open Go.ChangeShapes Go.WideShapes Go.ChangeAt Go.RowKit Go.Shelf swar under trap meter group probe lens tail call table
attribute [local go_sem] Oper.semAt_some stage.pureUpon move.stepUpon
set_option linter.unusedSimpArgs false
set_option linter.unusedVariables false

def sumK (N : Nat) (k : Nat → Nat) : Nat := if N = 3 then k 0 + k 1 + k 2 else k 0 + k 1
set_option maxRecDepth 20000 in
theorem rlooks_any (E G c : Nat) (a : String → Addr) (w0 : World) (Y : Lay) (t u : Nat → Tb) (k : Nat → Nat) (hN : Y.N = 2 ∨ Y.N = 3) (d next K : Nat) (hK : K ≤ 1000000) (hk : ∀ i, i < Y.N → k i ≤ K) (w : World) (hE : EmAt E G c Y d next w) (h : Many a w0 Y t u k w) :
    Calls Tryz.prog 17 #[.pointer (some ⟨E, 0, none⟩)] w fun e w' => e = .returned (.int .i64 (sumK Y.N k : Nat)) ∧ w = w' := by
  have h0 := (h.wa 0 (by omega)).cell1
  have h1 := (h.wa 1 (by omega)).cell1
  have k0 := hk 0 (by omega)
  have k1 := hk 1 (by omega)
  have e0 := hE.c0
  have g0 : w.cell? ⟨G, 0, none⟩ = some (.pointer (some ⟨(Y.F 1).R, 0, none⟩)) := hE.tg 1 (Nat.le_refl _) (by omega)
  rcases hN with hN | hN
  · have e1 : w.cell? ⟨E, 1, none⟩ = some (.slice (some ⟨G, 0, none⟩) 1 c) := by have := hE.c1; rw [hN] at this; exact this
    rw [show sumK Y.N k = k 0 + k 1 from if_neg (by omega)]
    have x1 : IntKind.i64.wrap (((k 0 : Nat) : Int) + ((k 1 : Nat) : Int)) = ((k 0 + k 1 : Nat) : Int) := by rw [IntWalk.i64_in _ (by omega)]; omega
    clear hE h hk
    generalize k 0 = a0 at *
    generalize k 1 = a1 at *
    go_enter Tryz.func17, Tryz.ntmps17
    go_wp2
    refine wp_loop_rounds 2 ?_
    iterate 2
      rw [rounds_succ]
      go_wp2
    go_ret
    exact ⟨by simp, rfl⟩
  · have e1 : w.cell? ⟨E, 1, none⟩ = some (.slice (some ⟨G, 0, none⟩) 2 c) := by have := hE.c1; rw [hN] at this; exact this
    have h2 := (h.wa 2 (by omega)).cell1
    have k2 := hk 2 (by omega)
    have g1 : w.cell? ⟨G, 1, none⟩ = some (.pointer (some ⟨(Y.F 2).R, 0, none⟩)) := hE.tg 2 (by decide) (by omega)
    rw [show sumK Y.N k = k 0 + k 1 + k 2 from if_pos hN]
    have x1 : IntKind.i64.wrap (((k 0 : Nat) : Int) + ((k 1 : Nat) : Int)) = ((k 0 : Nat) : Int) + ((k 1 : Nat) : Int) := IntWalk.i64_in _ (by omega)
    have x2 : IntKind.i64.wrap (((k 0 : Nat) : Int) + ((k 1 : Nat) : Int) + ((k 2 : Nat) : Int)) = ((k 0 : Nat) : Int) + ((k 1 : Nat) : Int) + ((k 2 : Nat) : Int) := IntWalk.i64_in _ (by omega)
    clear hE h hk
    generalize k 0 = a0 at *
    generalize k 1 = a1 at *
    generalize k 2 = a2 at *
    go_enter Tryz.func17, Tryz.ntmps17
    go_wp2
    refine wp_loop_rounds 3 ?_
    iterate 3
      rw [rounds_succ]
      go_wp2
    go_ret
    exact ⟨by simp, rfl⟩
end Go.Proofs.YtibcokiijlamcaaGreatDoor.evac
