/- The order of entries: Less, Before (for seats without layer 3's own law). -/
import Derived.Test.YtapndkabgjeofaaGreatDoorSplitFns
import Derived.Test.YtapndkabgjeofaaGreatDoorKit
import Derived.Test.YtapndkabgjeofaaGreatDoorErrors
namespace Go.Proofs.YtapndkabgjeofaaGreatDoor.split
open Go.ChangeShapes Go.WideShapes Go.ChangeAt Go.RowKit

/-- an entry: key, value, hash -/
abbrev entV (k v h:Nat):Value:=.agg #[.int .u64 ((k:Nat):Int),.int .u64 ((v:Nat):Int),.int .u64 ((h:Nat):Int)]
/-- does it come ahead, by hash and key -/
def lessB (k1 h1 k2 h2:Nat):Bool:=if h1 = h2 then decide (k1 < k2) else decide (h1 < h2)
theorem less_any (k1 v1 h1 k2 v2 h2:Nat) (w:World) :
  Calls Tryz.prog 63 #[entV k1 v1 h1,entV k2 v2 h2] w fun e w' => e = .returned (.bool (lessB k1 h1 k2 h2)) ∧ Below w.heap.size w w':=by
 by_cases h:h1 = h2
 ·have e:((h1:Int) != (h2:Int)) = false:=by simp [h]
  have e2:lessB k1 h1 k2 h2 = decide ((k1:Int) < (k2:Int)):=by unfold lessB; rw [if_pos h]; rw [Bool.eq_iff_iff]; simp
  rw [e2]
  clear e2
  go_enter Tryz.func63,Tryz.ntmps63
  go_wp2
  all_goals
   go_ret
   refine ⟨by simp, ?_⟩
   exact ((Below.refl _ _).alloc (Nat.le_refl _) _).alloc (by simp) _
 ·have e:((h1:Int) != (h2:Int)) = true:=by simp; omega
  have e2:lessB k1 h1 k2 h2 = decide ((h1:Int) < (h2:Int)):=by unfold lessB; rw [if_neg h]; rw [Bool.eq_iff_iff]; simp
  rw [e2]
  clear e2
  go_enter Tryz.func63,Tryz.ntmps63
  go_wp2
  all_goals
   go_ret
   refine ⟨by simp, ?_⟩
   exact ((Below.refl _ _).alloc (Nat.le_refl _) _).alloc (by simp) _
theorem before_any (k1 v1 h1 k2 v2 h2:Nat) (w:World) :
  Calls Tryz.prog 65 #[entV k1 v1 h1,entV k2 v2 h2] w fun e w' => e = .returned (.bool (lessB k1 h1 k2 h2)) ∧ Below w.heap.size w w':=by
 by_cases h:h1 = h2
 ·have e:((h1:Int) != (h2:Int)) = false:=by simp [h]
  have e2:lessB k1 h1 k2 h2 = decide ((k1:Int) < (k2:Int)):=by unfold lessB; rw [if_pos h]; rw [Bool.eq_iff_iff]; simp
  rw [e2]
  clear e2
  go_enter Tryz.func65,Tryz.ntmps65
  go_wp2
  all_goals
   go_ret
   refine ⟨by simp, ?_⟩
   exact ((Below.refl _ _).alloc (Nat.le_refl _) _).alloc (by simp) _
 ·have e:((h1:Int) != (h2:Int)) = true:=by simp; omega
  have e2:lessB k1 h1 k2 h2 = decide ((h1:Int) < (h2:Int)):=by unfold lessB; rw [if_neg h]; rw [Bool.eq_iff_iff]; simp
  rw [e2]
  clear e2
  go_enter Tryz.func65,Tryz.ntmps65
  go_wp2
  all_goals
   go_ret
   refine ⟨by simp, ?_⟩
   exact ((Below.refl _ _).alloc (Nat.le_refl _) _).alloc (by simp) _
theorem lessB_iff (k1 h1 k2 h2:Nat):lessB k1 h1 k2 h2 = true ↔ (h1 < h2 ∨ h1 = h2 ∧ k1 < k2):=by
 unfold lessB; split <;> simp <;> omega
end Go.Proofs.YtapndkabgjeofaaGreatDoor.split
