/- trap: Must, the document's Of, kinds, Num of what was caught; the functions that the laws make. -/
import Derived.Test.YtfabhnbiijnohaaDoorTrapCatch
namespace Go.Proofs.YtfabhnbiijnohaaDoor.trap
open Go.RowKit errs under
set_option linter.unusedSimpArgs false
set_option linter.unusedVariables false

/-! ### Num of what was caught -/
theorem num_err (a : String → Addr) (b : Nat) (hb : b ≤ 16) (w : World) (h : ErrsOk names a w) :
    Calls Tryd.prog 20 #[errAt a b] w fun e w' => e = .returned (.int .i64 (b : Nat)) ∧ Below w.heap.size w w' := by
  cases b with
  | zero => exact (num_nil w).mono fun e w' ⟨he, hw⟩ => ⟨he, by subst hw; exact Below.refl _ _⟩
  | succ k => exact num_at a k (by omega) w h
theorem actN_le (k : Nat) (n : Int) : actN k n ≤ 16 := by
  unfold actN
  split
  · omega
  · split
    · split <;> omega
    · omega
/-! ### the number of what is done -/
def kindN (x : Int) : Nat := (x % 18446744073709551616).toNat % 11
theorem kindN_lt (x : Int) : kindN x < 11 := Nat.mod_lt _ (by decide)
/-! ### Must -/
/-! ### what the laws hand to Catch -/
/-- a captured variable of an integer -/
structure Var (b : Nat) (v : Value) (w : World) : Prop where
  cell : w.cell? ⟨b, 0, none⟩ = some v
  frozen : w.frozen? ⟨b, 0, none⟩ = false
theorem Var.past {b : Nat} {v : Value} {w w' : World} {d : List Nat} (h : Var b v w) (hp : Past d w w') (hd : b ∉ d) : Var b v w' :=
  ⟨hp.cell h.cell hd, (hp.frozen (World.block_lt_of_cell? w _ h.cell) hd).trans h.frozen⟩
theorem Var.lt {b : Nat} {v : Value} {w : World} (h : Var b v w) : b < w.heap.size := World.block_lt_of_cell? w _ h.cell
theorem act_in (w : World) : ActIn w.heap.size (w.alloc (.cells #[.int .i64 1] 3)) := ⟨by simp, by simp [go_sem]⟩
theorem Var.of_block {b : Nat} {v : Value} {w w' : World} (h : Var b v w) (he : w'.heap[b]? = w.heap[b]?) : Var b v w' :=
  ⟨(World.cell?_of_block (w := w) he).trans h.cell, (World.frozen?_of_block (w := w) he).trans h.frozen⟩
theorem Var.below {b : Nat} {v : Value} {w w' : World} (h : Var b v w) (hb : Below w.heap.size w w') : Var b v w' := h.of_block (hb.block b h.lt)
theorem Var.alloc {b : Nat} {v : Value} {w : World} (h : Var b v w) (o : Obj) : Var b v (w.alloc o) := h.below ((Below.refl _ w).alloc (Nat.le_refl _) o)
theorem Var.new (w : World) (v : Value) (t : TypeId) : Var w.heap.size v (w.alloc (.cells #[v] t)) := ⟨by simp, by simp [go_sem]⟩
theorem Var.set {b : Nat} {v : Value} {w : World} (h : Var b v w) (u : Value) : Var b u (w.setCell ⟨b, 0, none⟩ u) := ⟨by simp [go_sem, h.cell], by simp [go_sem, h.frozen]⟩
theorem Var.store {b c : Nat} {v u : Value} {w : World} (h : Var b v w) (hc : b ≠ c) : Var b v (w.setCell ⟨c, 0, none⟩ u) := h.of_block (Below.heap_setCell _ _ _ _ hc)
theorem below_new {w w' : World} {o : Obj} (h : Below (w.alloc o).heap.size (w.alloc o) w') : Below w.heap.size w w' := below_step ((Below.refl _ w).alloc (Nat.le_refl _) o) h
end Go.Proofs.YtfabhnbiijnohaaDoor.trap
