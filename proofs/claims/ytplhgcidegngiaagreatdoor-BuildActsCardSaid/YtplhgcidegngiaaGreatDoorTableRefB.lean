/- TableRefB: several texts in one: plain facts and laws for the walks. No program is named. -/
import Derived.Test.YtplhgcidegngiaaGreatDoorTableRefA
import Derived.Test.YtplhgcidegngiaaGreatDoorTableDel
import Derived.Deep.CutRange
import Derived.Deep.CutBlock
import Derived.Test.YtplhgcidegngiaaGreatDoorTableLeast
import Derived.Deep.RegionHeld3

/-! ### table: the document's table: Find, Put, Delete. -/
namespace Go.Proofs.YtplhgcidegngiaaGreatDoor.table
open Go.ChangeShapes Go.WideShapes Go.ChangeAt Go.RowKit Go.Shelf swar under trap meter group probe lens tail call
attribute [local go_sem] Oper.semAt_some stage.pureUpon move.stepUpon
set_option linter.unusedSimpArgs false
set_option linter.unusedVariables false

section
variable {w : World} {f : Rf} {t t' : Tb} {k k' ek ev eh E A : Nat} {a0 a1 f0 f1 : Int} {W W' : World}
end
/-! ### Put -/
/-- which place is free: that of the real table -/
theorem fr_room {t : Tb} {key h : Nat} (hn : okN t.n) : (frI t (sn t key h) < 0 ∧ least (t.gs (roomG t key h)) < 0) ∨ (frI t (sn t key h) = (roomG t key h : Nat) ∧ frK t (sn t key h) = least (t.gs (roomG t key h)) ∧ 0 ≤ least (t.gs (roomG t key h))) := by
  cases hf : (sn t key h).find? (free t) with
  | none =>
    refine .inl ⟨by unfold frI; rw [hf]; decide, ?_⟩
    have hr : roomG t key h = lastOf (sn t key h) := by unfold roomG roomOf; rw [hf]
    have := List.find?_eq_none.1 hf _ (lastOf_mem (sn_ne t key h hn))
    rw [hr]
    unfold free at this
    rw [decide_eq_true_eq] at this
    omega
  | some i =>
    have hr : roomG t key h = i := by unfold roomG roomOf; rw [hf]
    have := List.find?_some hf
    unfold free at this
    rw [decide_eq_true_eq] at this
    rw [hr]
    exact .inr ⟨by unfold frI; rw [hf], by unfold frK; rw [hf], this⟩
theorem val_full {g : Gp} {k : Nat} (hk : k < 8) (h3 : (g k).kind = 3) (v : Nat) : valG g (k : Int) v = g.put k { g k with val := v } := by
  have h1 : inR (k : Int) = true := by unfold inR; simp; omega
  have h2 : fullAt g (k : Int) = true := by unfold fullAt; rw [h1]; exact is_of h3
  unfold valG; rw [if_pos h2]; rfl
theorem put_free' {g : Gp} {k : Nat} (hk : k < 8) (h3 : (g k).kind ≠ 3) (s : Sl) : putG g (k : Int) s = g.put k s := by
  have h1 : inR (k : Int) = true := by unfold inR; simp; omega
  have h2 : putE g (k : Int) = 0 := by unfold putE; rw [if_pos h1, if_neg (by rw [show ((k : Int).toNat) = k from rfl, is_not' h3]; decide)]
  unfold putG; rw [if_pos h2]; rfl
theorem era_full {g : Gp} {k : Nat} (hk : k < 8) (h3 : (g k).kind = 3) : eraG g (k : Int) = g.put k (erased g) := by
  have h1 : inR (k : Int) = true := by unfold inR; simp; omega
  have h2 : fullAt g (k : Int) = true := by unfold fullAt; rw [h1]; exact is_of h3
  unfold eraG; rw [if_pos h2]; rfl
end Go.Proofs.YtplhgcidegngiaaGreatDoor.table

/-! ### table: the document's table: Delete. -/
namespace Go.Proofs.YtplhgcidegngiaaGreatDoor.table
open Go.ChangeShapes Go.WideShapes Go.ChangeAt Go.RowKit Go.Shelf swar under trap meter group probe lens tail call
attribute [local go_sem] Oper.semAt_some stage.pureUpon move.stepUpon
set_option linter.unusedSimpArgs false
set_option linter.unusedVariables false

end Go.Proofs.YtplhgcidegngiaaGreatDoor.table
