/- TableFunction: what lies in memory: the table, the meter, a row of what is there and one of the values. -/
import Derived.Test.YtapndkabgjeofaaGreatDoorTabNew
import Derived.Test.YtapndkabgjeofaaGreatDoorTabEnt
import Derived.Test.YtapndkabgjeofaaGreatDoorTableLeast
import Derived.Laws.MakeOwn
namespace Go.Proofs.YtapndkabgjeofaaGreatDoor.table
open Go.ChangeShapes Go.WideShapes Go.ChangeAt Go.RowKit Go.Shelf swar under trap meter group probe lens tail call
attribute [local go_sem] Oper.semAt_some stage.pureUpon move.stepUpon
set_option linter.unusedSimpArgs false
set_option linter.unusedVariables false

/-- two rows of la cells, each in a block of its own -/
structure Rows (Bt Bv la:Nat) (M:Nat → Option Nat) (V:Nat → Nat) (W:World):Prop where
 th:∀ k,k < la → W.cell? ⟨Bt,k,none⟩ = some (.bool (M k).isSome)
 va:∀ k,k < la → W.cell? ⟨Bv,k,none⟩ = some (.int .u64 (V k:Nat))
 ft:∀ i,W.frozen? ⟨Bt,i,none⟩ = false
 fv:∀ i,W.frozen? ⟨Bv,i,none⟩ = false
 ne:Bt ≠ Bv
 lt:Bt < W.heap.size
 lv:Bv < W.heap.size
section
variable {Bt Bv la:Nat} {M:Nat → Option Nat} {V:Nat → Nat} {W W':World}
end
/-- between two acts -/
structure FN (w:World) (T B Bm Bt Bv la:Nat) (H:Nat → Nat) (t:Tb) (m:Mt) (M:Nat → Option Nat) (V:Nat → Nat) (W:World):Prop where
 ls:LS w T B t Bm m W
 rw':Rows Bt Bv la M V W
 rep:RepN H la t M
 val:∀ k v,M k = some v → V k = v
 bt:Bt ∉ [T,B,Bm]
 bv:Bv ∉ [T,B,Bm]
 ht:w.heap.size ≤ Bt
 hv:w.heap.size ≤ Bv
section
variable {a:String → Addr} {w:World} {T B Bm Bt Bv la:Nat} {H:Nat → Nat} {t t':Tb} {m m':Mt} {M M':Nat → Option Nat} {V:Nat → Nat} {W W':World}
end
/-! ### the rows, made -/
/-! ### acts -/
/-! ### the count, key by key -/
/-- what a table holds, whatever the meter says -/
def FNx (w:World) (T B Bm Bt Bv la:Nat) (H:Nat → Nat) (t:Tb) (M:Nat → Option Nat) (V:Nat → Nat) (W:World):Prop:=∃ m,FN w T B Bm Bt Bv la H t m M V W
def Lk (Bm:Nat) (W W':World):Prop:=∃ m',LnStep [] (.vi Bm 0) m' W W'
section
variable {a:String → Addr} {w:World} {T B Bm Bt Bv la:Nat} {H:Nat → Nat} {t:Tb} {M:Nat → Option Nat} {V:Nat → Nat} {W W':World}
end
/-! ### numbers -/
end Go.Proofs.YtapndkabgjeofaaGreatDoor.table
