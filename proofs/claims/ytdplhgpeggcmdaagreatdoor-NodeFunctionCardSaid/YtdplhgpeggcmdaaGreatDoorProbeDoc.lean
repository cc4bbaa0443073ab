/- ProbeDoc: several texts in one: plain facts and laws for the walks. No program is named. -/
import Derived.Test.YtdplhgpeggcmdaaGreatDoorProbe
import Derived.RangeFuncOne
import Derived.RangeFuncWrites
import Derived.Maps.AppendAt
import Derived.Test.YtdplhgpeggcmdaaGreatDoorErrors
import Derived.LoopTactic
import Derived.Deep.QuietTactic

/-! ### Package probe's 'Order': slices.Collect of a walk; two lists of numbers compared. -/
namespace Go.Proofs.YtdplhgpeggcmdaaGreatDoor.probe
open Go.ChangeShapes Go.WideShapes Go.ChangeAt Go.RowKit Go.Shelf
attribute [local go_sem] Oper.semAt_some

def enc (k:Nat):Value:=.int .i64 (k:Nat)
theorem below_step {w W W':World} (h:Below w.heap.size w W) (h':Below W.heap.size W W'):Below w.heap.size w W':=h.trans (h'.mono h.size)
/-- a slice of the call's own holds a list of numbers: nil just where the list is empty -/
def Kept (base:Nat) (W:World) (v:Value) (l:List Nat):Prop:=W.ownsRow base 3 1 v l.length (l.map enc) ∧ (v = .slice none 0 0 ↔ l = [])
end Go.Proofs.YtdplhgpeggcmdaaGreatDoor.probe

/-! ### Package probe's 'At' and 'Home', and the document's own Right, At, Order. -/
namespace Go.Proofs.YtdplhgpeggcmdaaGreatDoor.probe
open Go.ChangeShapes Go.WideShapes Go.ChangeAt Go.RowKit errs

theorem drewN_below (w:World) (q:Nat):Below w.heap.size w (w.drewN q):=⟨rfl,rfl,rfl,Nat.le_refl _,fun _ _ => rfl⟩

/-! ### the document's own -/
end Go.Proofs.YtdplhgpeggcmdaaGreatDoor.probe

/-! ### The document's own At and Order for layer 4. -/
namespace Go.Proofs.YtdplhgpeggcmdaaGreatDoor.probe
open Go.ChangeShapes Go.WideShapes Go.ChangeAt Go.RowKit Go.Shelf errs

/-- 0 + 1 + .. below k -/
def tri:Nat → Nat
 | 0 => 0
 | k + 1 => tri k + k
/-! ### the document's list -/
/-- a slice of the call's own that holds a list of numbers -/
def Holds (base:Nat) (W:World) (v:Value) (l:List Nat):Prop:=W.ownsRow base 3 1 v l.length (l.map enc) ∧ ∃ g c,v = .slice (some ⟨g,0,none⟩) l.length c
end Go.Proofs.YtdplhgpeggcmdaaGreatDoor.probe
