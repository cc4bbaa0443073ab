/- A region that draws its order, whose operations read and whose calls read or make memory alone: one walk in the text's order. No program is named. -/
import Derived.Below
import Derived.BigQuiet
import Derived.Deep.QuietTactic
import Derived.ProofKit
import Derived.WalkKit
namespace Go.Proofs.YtgpfhgkphadgkaaDoor.under
open Go.RowKit

/-- a world in which all that lay in w lies as it did -/
structure Under (w : World) where
  W : World
  below : Below w.heap.size w W
instance {w : World} : Nonempty (Under w) := ⟨⟨w, Below.refl _ _⟩⟩
theorem below_step {w W W' : World} (h : Below w.heap.size w W) (h' : Below W.heap.size W W') : Below w.heap.size w W' := h.trans (h'.mono h.size)
theorem drew_below (w : World) : Below w.heap.size w w.drew := ⟨rfl, rfl, rfl, Nat.le_refl _, fun _ _ => rfl⟩
theorem Under.cell {w : World} {p : Addr} {v : Value} (h : w.cell? p = some v) (n : Under w) : n.W.cell? p = some v := (n.below.cell (World.block_lt_of_cell? w _ h)).trans h
theorem Under.block {w : World} {b : Nat} {o : Obj} (h : w.heap[b]? = some o) (n : Under w) : n.W.heap[b]? = some o := (n.below.block _ (Array.getElem?_eq_some_iff.1 h).1).trans h
variable {P : Program}
theorem wp_region_under {id : Nat} {Q : Exit → Act → World → Prop} {a : Act} {w : World} {l : List Oper} (hm : P.follows .mixedOrders = true) (hB : Region.lexB .any l.toArray = true)
    (h : wpQuiet P l.toArray (fun w' => ∃ n : Under w, w' = n.W) (fun a' => ∀ w', (∃ n : Under w, w' = n.W) → Q .normal a' w') l a) : (Code.region id l.toArray true).wp P Q a w :=
  wp_region_quiet (C := fun w' => ∃ n : Under w, w' = n.W) hm hB ⟨⟨w.drew, drew_below w⟩, rfl⟩ (by simpa using h)
/-- a call that makes memory alone -/
theorem under_call {f : FuncId} {args : Array Value} {w : World} {n : Under w} {v : Value} (h : Calls P f args n.W fun e w' => e = .returned v ∧ Below n.W.heap.size n.W w') : Calls P f args n.W fun e w'' => e = .returned v ∧ ∃ m : Under w, w'' = m.W :=
  h.mono fun _ w' ⟨he, hb⟩ => ⟨he, ⟨w', below_step n.below hb⟩, rfl⟩
/-- a call that leaves memory as it was -/
theorem under_same {f : FuncId} {args : Array Value} {w : World} {n : Under w} {v : Value} (h : Calls P f args n.W fun e w' => e = .returned v ∧ n.W = w') : Calls P f args n.W fun e w'' => e = .returned v ∧ ∃ m : Under w, w'' = m.W :=
  h.mono fun _ _ ⟨he, hb⟩ => ⟨he, n, hb.symm⟩
/-- a call that draws -/
theorem under_drew {f : FuncId} {args : Array Value} {w : World} {n : Under w} {v : Value} (h : Calls P f args n.W fun e w' => e = .returned v ∧ ∃ q, w' = n.W.drewN q) : Calls P f args n.W fun e w'' => e = .returned v ∧ ∃ m : Under w, w'' = m.W :=
  h.mono fun _ w' ⟨he, q, hb⟩ => ⟨he, ⟨w', by subst hb; exact below_step n.below ⟨rfl, rfl, rfl, Nat.le_refl _, fun _ _ => rfl⟩⟩, rfl⟩
end Go.Proofs.YtgpfhgkphadgkaaDoor.under
