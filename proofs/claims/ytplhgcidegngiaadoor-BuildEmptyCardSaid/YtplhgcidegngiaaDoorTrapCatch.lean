/- trap: Catch, by what its function comes to. -/
import Derived.Test.YtplhgcidegngiaaDoorTrapActs
import Derived.Test.YtplhgcidegngiaaDoorKit
import Derived.Defers
import Derived.Recover
namespace Go.Proofs.YtplhgcidegngiaaDoor.trap
open Go.RowKit errs under
set_option linter.unusedSimpArgs false
set_option linter.unusedVariables false

theorem is_raised (v : Value) (w : World) : (Instr.typeAssert (.iface 87 v) 20 87 true).run Tryd.prog w = .ok (.tuple #[v, .bool true]) w := by kernel_rfl
theorem is_other (T : TypeId) (hT : T ≠ 87) (v : Value) (w : World) : (Instr.typeAssert (.iface T v) 20 87 true).run Tryd.prog w = .ok (.tuple #[.agg #[.nilIface], .bool false]) w := by
  have hz : (zeroValue 87).run Tryd.prog w = .ok (.agg #[.nilIface]) w := by kernel_rfl
  simp [Instr.typeAssert, run_underlying Tryd.underlying87, hT, go_sem, hz]
theorem hnil (w : World) : (binOp BinOp.eql 1 .nilFunc .nilFunc).run Tryd.prog w = .ok (.bool true) w := by kernel_rfl
theorem hfun (fn : Fn) (cap : Array Value) (w : World) : (binOp BinOp.eql 1 (.func fn #[] cap) .nilFunc).run Tryd.prog w = .ok (.bool false) w := by kernel_rfl
theorem old {w : World} {p : Addr} {v : Value} (o : Obj) (h : w.cell? p = some v) : (w.alloc o).cell? p = some v := (((Below.refl _ w).alloc (Nat.le_refl _) o).cell (World.block_lt_of_cell? w _ h)).trans h
end Go.Proofs.YtplhgcidegngiaaDoor.trap
