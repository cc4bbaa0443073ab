/- trap: Raise, Need; amblernum.Err; the document's Of; what act does, number by number. -/
import Derived.Test.YtplhgcidegngiaaDoorNum
import Derived.WalkLawsBesides
import Derived.WalkArith
import Derived.Laws.PanicsMore
import Derived.Deep.DeepMakeLenPanics
namespace Go.Proofs.YtplhgcidegngiaaDoor.trap
open Go.RowKit errs
set_option linter.unusedVariables false

/-- the error of a number (0: none) -/
def errAt (a : String → Addr) : Nat → Value
  | 0 => .nilIface
  | k + 1 => errV (a (nm k))
/-- the chain of a panic by Raise, and of another one -/
abbrev thrown (v : Value) : List PanicEntry := [{ v := v, recovered := false }]
abbrev raisedV (x : Addr) : Value := .iface 87 (.agg #[errV x])
theorem raise_nil (w : World) : Calls Tryd.prog 23 #[.nilIface] w fun e w' => e = .returned (.tuple #[]) ∧ w = w' := by
  go_enter Tryd.func23, Tryd.ntmps23
  go_wp2
  go_end0
  exact ⟨rfl, rfl⟩
theorem raise_err (x : Addr) (w : World) : Calls Tryd.prog 23 #[errV x] w fun e w' => e = .panicked (thrown (raisedV x)) ∧ w = w' := by
  go_enter Tryd.func23, Tryd.ntmps23
  go_wp2
  exact ⟨rfl, rfl, rfl⟩
theorem panic_bounds (w : World) : ∃ s, (boundsPanic .i64 1 1 .index : Sem Value).run Tryd.prog w = .halt (.panic (boundsValue Tryd.prog 1 1 s 0)) w.drew := by
  simp [boundsPanic, boundsValue, runtimePanic, goPanic, go_sem]
  decide
theorem panic_type (n : Int) (w : World) : ∃ r o, (Instr.typeAssert (.iface 3 (.int .i64 n)) 20 9 false).run Tryd.prog w = .halt (.panic (.iface Tryd.prog.rt.typeAssertionError (.pointer (some r)))) (w.alloc o) := by
  have he : (elemOf 15).run Tryd.prog w = .ok 145 w := by kernel_rfl
  simp [Instr.typeAssert, run_underlying Tryd.underlying9, runtimePanic, goPanic, go_sem, he]
  exact ⟨_, rfl⟩

/-! ### act, number by number -/
/-- a function that came to the number b of the document: it came back; it raised the error b; it panicked in another way -/
def Ends (a : String → Addr) (b : Nat) (e : Ending) : Prop :=
  (b = 0 ∧ e = .returned (.tuple #[])) ∨ (∃ k, k < 16 ∧ b = k + 1 ∧ e = .panicked (thrown (raisedV (a (nm k))))) ∨ (b = 10 ∧ ∃ T v, T ≠ 87 ∧ e = .panicked (thrown (.iface T v)))
theorem Ends.back {a : String → Addr} : Ends a 0 (.returned (.tuple #[])) := .inl ⟨rfl, rfl⟩
theorem Ends.raised {a : String → Addr} (k : Nat) (h : k < 16) : Ends a (k + 1) (.panicked (thrown (raisedV (a (nm k))))) := .inr (.inl ⟨k, h, rfl, rfl⟩)
theorem Ends.other {a : String → Addr} (T : TypeId) (v : Value) (h : T ≠ 87) : Ends a 10 (.panicked (thrown (.iface T v))) := .inr (.inr ⟨rfl, T, v, h, rfl⟩)
theorem drew_below (w : World) : Below w.heap.size w w.drew := ⟨rfl, rfl, rfl, Nat.le_refl _, fun _ _ => rfl⟩
theorem rt_bounds : Tryd.prog.rt.boundsError = 8 := by kernel_rfl
theorem rt_plain : Tryd.prog.rt.plainError = 11 := by kernel_rfl
theorem rt_error : Tryd.prog.rt.errorString = 10 := by kernel_rfl
theorem rt_assert : Tryd.prog.rt.typeAssertionError = 15 := by kernel_rfl
/-- what act is given -/
structure ActIn (b : Nat) (w : World) : Prop where
  cell : w.cell? ⟨b, 0, none⟩ = some (.int .i64 1)
  frozen : w.frozen? ⟨b, 0, none⟩ = false
/-- the document's number of what act does -/
def actN (k : Nat) (n : Int) : Nat := if k = 0 ∨ k = 2 then 0 else if k = 1 then (if n < 1 ∨ 16 < n then 0 else n.toNat) else 10
end Go.Proofs.YtplhgcidegngiaaDoor.trap
