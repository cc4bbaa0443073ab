/- The laws' first look (alive), and what the walks of layer 3 share. -/
import Derived.Test.YtiohlgkdlaiofaaDoorSplitRef
import Derived.Test.YtiohlgkdlaiofaaDoorNum
import Derived.Deep.QuietTactic
namespace Go.Proofs.YtiohlgkdlaiofaaDoor.split
open Go.ChangeShapes Go.WideShapes Go.ChangeAt Go.RowKit errs

theorem below_drewN {w w' : World} {q : Nat} (h : Below (w.drewN q).heap.size (w.drewN q) w') : Below w.heap.size w w' := ⟨h.os, h.tape, h.output, h.size, h.block⟩
theorem below_drew {w w' : World} (h : Below w.drew.heap.size w.drew w') : Below w.heap.size w w' := ⟨h.os, h.tape, h.output, h.size, h.block⟩
theorem drewN_below (w : World) (q : Nat) : Below w.heap.size w (w.drewN q) := ⟨rfl, rfl, rfl, Nat.le_refl _, fun _ _ => rfl⟩
theorem alive_any (w : World) :
    Calls Tryd.prog 6 #[] w fun e w' => e = .returned (.bool true) ∧ w = w' := by
  have c0 := fun wx => top_yes 13835058055282163712 2 (by decide) (by decide) wx
  have c1 := fun wx => h2_any 255 (by decide) wx
  rw [show 13835058055282163712 / 2 ^ (64 - 2) = 3 by decide] at c0
  rw [show 255 % 128 = 127 by decide] at c1
  go_enter Tryd.func6, Tryd.ntmps6
  go_wp2_with (first
    | (go_at_call 8; refine (c0 _).mono ?_; rintro e w' ⟨rfl, rfl⟩)
    | (go_at_call 14; refine (c1 _).mono ?_; rintro e w' ⟨rfl, rfl⟩))
  all_goals (go_ret; exact ⟨rfl, rfl⟩)
theorem quiet_same {f : FuncId} {args : Array Value} {w : World} {n : Nat} {v : Value} (h : Calls Tryd.prog f args (w.drewN n) fun e w' => e = .returned v ∧ w.drewN n = w') : Calls Tryd.prog f args (w.drewN n) fun e w'' => e = .returned v ∧ ∃ m, w'' = w.drewN m :=
  Calls.quiet_of_same (h.mono fun _ _ ⟨he, hw⟩ => ⟨he, hw.symm⟩)
theorem num_range (a : String → Addr) (w : World) (h : ErrsOk names a w) :
    Calls Tryd.prog 15 #[errV (a "ambler/api.ErrRange")] w fun e w' => e = .returned (.int .i64 1) ∧ Below w.heap.size w w' := num_at a 0 (by decide) w h
theorem errs_drew {a : String → Addr} {W : World} (h : ErrsOk names a W) : ErrsOk names a W.drew := ⟨h.cell, h.row, h.ne⟩
end Go.Proofs.YtiohlgkdlaiofaaDoor.split
