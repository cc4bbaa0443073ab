/- The errors' numbers: amblernum's list, and Num. -/
import Derived.Test.YtplhgcidegngiaaDoorErrs
import Derived.LoopTactic
import Derived.Stop.IfaceNil
import Derived.RegionTactic
import Derived.Lib.Hide
namespace Go.Proofs.YtplhgcidegngiaaDoor.errs
open Go.RowKit

theorem gErrRange : Tryd.prog.globalNamed "ambler/api.ErrRange" = some 1 := by kernel_rfl
theorem gErrFull : Tryd.prog.globalNamed "ambler/api.ErrFull" = some 6 := by kernel_rfl
theorem gErrForm : Tryd.prog.globalNamed "ambler/api.ErrForm" = some 7 := by kernel_rfl
theorem gErrNone : Tryd.prog.globalNamed "ambler/api.ErrNone" = some 3 := by kernel_rfl
theorem gErrState : Tryd.prog.globalNamed "ambler/api.ErrState" = some 0 := by kernel_rfl
theorem gErrBadIter : Tryd.prog.globalNamed "ambler/api.ErrBadIter" = some 8 := by kernel_rfl
theorem gErrTooMany : Tryd.prog.globalNamed "ambler/api.ErrTooMany" = some 9 := by kernel_rfl
theorem gErrHash : Tryd.prog.globalNamed "ambler/api.ErrHash" = some 10 := by kernel_rfl
theorem gErrLong : Tryd.prog.globalNamed "ambler/api.ErrLong" = some 11 := by kernel_rfl
theorem gErrBroken : Tryd.prog.globalNamed "ambler/api.ErrBroken" = some 12 := by kernel_rfl
theorem gErrLimit : Tryd.prog.globalNamed "ambler/api.ErrLimit" = some 2 := by kernel_rfl
theorem gErrEmpty : Tryd.prog.globalNamed "ambler/api.ErrEmpty" = some 13 := by kernel_rfl
theorem gErrNumber : Tryd.prog.globalNamed "ambler/api.ErrNumber" = some 14 := by kernel_rfl
theorem gErrKind : Tryd.prog.globalNamed "ambler/api.ErrKind" = some 5 := by kernel_rfl
theorem gErrName : Tryd.prog.globalNamed "ambler/api.ErrName" = some 15 := by kernel_rfl
theorem gErrDup : Tryd.prog.globalNamed "ambler/api.ErrDup" = some 4 := by kernel_rfl
/-- the error of a number less one -/
def nm (i : Nat) : String := names.getD i ""
theorem nm_mem {i : Nat} (h : i < 16) : nm i ∈ names := by
  unfold nm; rw [List.getD_eq_getElem?_getD, List.getElem?_eq_getElem (by exact h)]; exact List.getElem_mem _
set_option maxRecDepth 10000 in
theorem nm_ne {i j : Nat} (hi : i < 16) (hj : j < 16) (h : i ≠ j) : nm i ≠ nm j := by
  have hn : names.Nodup := by decide
  unfold nm
  rw [List.getD_eq_getElem?_getD, List.getD_eq_getElem?_getD, List.getElem?_eq_getElem (by exact hi), List.getElem?_eq_getElem (by exact hj)]
  rcases Nat.lt_or_gt_of_ne h with h' | h'
  · exact List.pairwise_iff_getElem.1 hn i j hi hj h'
  · exact fun e => List.pairwise_iff_getElem.1 hn j i hj hi h' e.symm
theorem cases16 {i : Nat} (h : i < 16) : i = 0 ∨ i = 1 ∨ i = 2 ∨ i = 3 ∨ i = 4 ∨ i = 5 ∨ i = 6 ∨ i = 7 ∨ i = 8 ∨ i = 9 ∨ i = 10 ∨ i = 11 ∨ i = 12 ∨ i = 13 ∨ i = 14 ∨ i = 15 := by omega
theorem all_any (a : String → Addr) (w : World) (h : ErrsOk names a w) :
    Calls Tryd.prog 29 #[] w fun e w' => ∃ B, e = .returned (.slice (some ⟨B, 0, none⟩) 16 16) ∧ Below w.heap.size w w' ∧ ∀ i < 16, w'.cell? ⟨B, i, none⟩ = some (errV (a (nm i))) := by
  have c0 := h.at gErrRange (nm_mem (i := 0) (by decide))
  have c1 := h.at gErrFull (nm_mem (i := 1) (by decide))
  have c2 := h.at gErrForm (nm_mem (i := 2) (by decide))
  have c3 := h.at gErrNone (nm_mem (i := 3) (by decide))
  have c4 := h.at gErrState (nm_mem (i := 4) (by decide))
  have c5 := h.at gErrBadIter (nm_mem (i := 5) (by decide))
  have c6 := h.at gErrTooMany (nm_mem (i := 6) (by decide))
  have c7 := h.at gErrHash (nm_mem (i := 7) (by decide))
  have c8 := h.at gErrLong (nm_mem (i := 8) (by decide))
  have c9 := h.at gErrBroken (nm_mem (i := 9) (by decide))
  have c10 := h.at gErrLimit (nm_mem (i := 10) (by decide))
  have c11 := h.at gErrEmpty (nm_mem (i := 11) (by decide))
  have c12 := h.at gErrNumber (nm_mem (i := 12) (by decide))
  have c13 := h.at gErrKind (nm_mem (i := 13) (by decide))
  have c14 := h.at gErrName (nm_mem (i := 14) (by decide))
  have c15 := h.at gErrDup (nm_mem (i := 15) (by decide))
  go_enter Tryd.func29, Tryd.ntmps29
  go_wp2
  go_ret
  refine ⟨w.heap.size, rfl, (Below.refl _ _).alloc (Nat.le_refl _) _, fun i hi => ?_⟩
  rcases cases16 hi with rfl | rfl | rfl | rfl | rfl | rfl | rfl | rfl | rfl | rfl | rfl | rfl | rfl | rfl | rfl | rfl <;> (rw [World.cell?_alloc_new]; rfl)
theorem num_nil (w : World) :
    Calls Tryd.prog 12 #[.nilIface] w fun e w' => e = .returned (.int .i64 0) ∧ w = w' := by
  go_enter Tryd.func12, Tryd.ntmps12
  go_wp2
  go_ret
  exact ⟨rfl, rfl⟩
theorem num_at (a : String → Addr) (k : Nat) (hk : k < 16) (w : World) (h : ErrsOk names a w) :
    Calls Tryd.prog 12 #[errV (a (nm k))] w fun e w' => e = .returned (.int .i64 ((k + 1 : Nat) : Int)) ∧ Below w.heap.size w w' := by
  have hall := all_any a w h
  go_enter Tryd.func12, Tryd.ntmps12
  go_wp2_with (go_at_call 29; refine hall.mono ?_; rintro e w1 ⟨B, rfl, hb, hc⟩)
  go_loopw [9] (fun i wr => ∃ j : Nat, j ≤ k ∧ i = .int .i64 j ∧ wr = w1) (fun i _ => 16 - (intOf i).toNat)
  case atStart => exact ⟨0, by omega, rfl, rfl⟩
  case round =>
    obtain ⟨j, hj, rfl, rfl⟩ := hrel
    have hcj := hc j (by omega)
    have h1 : (j : Int) < 16 := by omega
    rcases Nat.lt_or_ge j k with hjk | hjk
    · have hI := is_not (h.below hb) (nm_mem hk) (nm_mem (i := j) (by omega)) (nm_ne hk (by omega) (by omega))
      go_wp2_with (go_at_call 30; refine hI.mono ?_; rintro e w2 ⟨rfl, rfl⟩)
      go_roundw
      case rel => exact ⟨j + 1, by omega, by simp, trivial⟩
      case measure => simp [intOf]; omega
    · obtain rfl : j = k := by omega
      have hI := is_same (a (nm j)) wr
      go_wp2_with (go_at_call 30; refine hI.mono ?_; rintro e w2 ⟨rfl, rfl⟩)
      go_ret
      exact ⟨by simp, hb⟩
end Go.Proofs.YtplhgcidegngiaaDoor.errs
