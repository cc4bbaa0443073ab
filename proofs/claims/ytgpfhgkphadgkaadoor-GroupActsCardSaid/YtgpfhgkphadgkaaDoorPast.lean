/- What lies as it did behind a call that writes some blocks; a variable in a block of its own; what lies beside some cells. No program is named. -/
import Derived.Test.YtgpfhgkphadgkaaDoorUnder
namespace Go.Proofs.YtgpfhgkphadgkaaDoor.trap
open Go.RowKit under
set_option linter.unusedSimpArgs false
set_option linter.unusedVariables false

/-- all that lay in w but the blocks of a list lies as it did -/
structure Past (d : List Nat) (w w' : World) : Prop where
  os : w'.os = w.os
  tape : w'.tape = w.tape
  output : w'.output = w.output
  size : w.heap.size ≤ w'.heap.size
  block : ∀ k, k < w.heap.size → k ∉ d → w'.heap[k]? = w.heap[k]?
theorem Past.refl (d : List Nat) (w : World) : Past d w w := ⟨rfl, rfl, rfl, Nat.le_refl _, fun _ _ _ => rfl⟩
theorem Past.trans {d : List Nat} {x y z : World} (h : Past d x y) (k : Past d y z) : Past d x z :=
  ⟨k.os.trans h.os, k.tape.trans h.tape, k.output.trans h.output, Nat.le_trans h.size k.size, fun i hi hd => (k.block i (Nat.lt_of_lt_of_le hi h.size) hd).trans (h.block i hi hd)⟩
theorem Past.of {d : List Nat} {w w' : World} (h : Below w.heap.size w w') : Past d w w' := ⟨h.os, h.tape, h.output, h.size, fun k hk _ => h.block k hk⟩
theorem Past.below {d : List Nat} {B : Nat} {w w' : World} (h : Past d w w') (hB : B ≤ w.heap.size) (hd : ∀ k ∈ d, B ≤ k) : Below B w w' :=
  ⟨h.os, h.tape, h.output, h.size, fun k hk => h.block k (Nat.lt_of_lt_of_le hk hB) fun e => absurd (hd k e) (by omega)⟩
theorem Past.nil {w w' : World} (h : Past [] w w') : Below w.heap.size w w' := h.below (Nat.le_refl _) (by simp)
/-- a store into a block of the list, or into one that is new -/
theorem Past.store {d : List Nat} {x w : World} (h : Past d x w) {p : Addr} (hp : p.block ∈ d ∨ x.heap.size ≤ p.block) (u : Value) : Past d x (w.setCell p u) :=
  ⟨h.os, h.tape, h.output, by simpa [World.setCell] using h.size, fun k hk hd => (Below.heap_setCell _ _ _ _ (by rintro rfl; rcases hp with h' | h'; exact hd h'; omega)).trans (h.block k hk hd)⟩
theorem Past.alloc {d : List Nat} {x w : World} (h : Past d x w) (o : Obj) : Past d x (w.alloc o) := h.trans (.of ((Below.refl _ w).alloc (Nat.le_refl _) o))
theorem Past.cell {d : List Nat} {w w' : World} (h : Past d w w') {b i : Nat} {v : Value} (hc : w.cell? ⟨b, i, none⟩ = some v) (hd : b ∉ d) : w'.cell? ⟨b, i, none⟩ = some v :=
  (World.cell?_of_block (w := w) (h.block b (World.block_lt_of_cell? w _ hc) hd)).trans hc
theorem Past.frozen {d : List Nat} {w w' : World} (h : Past d w w') {b i : Nat} (hb : b < w.heap.size) (hd : b ∉ d) : w'.frozen? ⟨b, i, none⟩ = w.frozen? ⟨b, i, none⟩ := World.frozen?_of_block (w := w) (h.block b hb hd)
/-- a captured variable of an integer -/
structure Var (b : Nat) (v : Value) (w : World) : Prop where
  cell : w.cell? ⟨b, 0, none⟩ = some v
  frozen : w.frozen? ⟨b, 0, none⟩ = false
theorem Var.past {b : Nat} {v : Value} {w w' : World} {d : List Nat} (h : Var b v w) (hp : Past d w w') (hd : b ∉ d) : Var b v w' :=
  ⟨hp.cell h.cell hd, (hp.frozen (World.block_lt_of_cell? w _ h.cell) hd).trans h.frozen⟩
theorem Var.lt {b : Nat} {v : Value} {w : World} (h : Var b v w) : b < w.heap.size := World.block_lt_of_cell? w _ h.cell
theorem Var.of_block {b : Nat} {v : Value} {w w' : World} (h : Var b v w) (he : w'.heap[b]? = w.heap[b]?) : Var b v w' :=
  ⟨(World.cell?_of_block (w := w) he).trans h.cell, (World.frozen?_of_block (w := w) he).trans h.frozen⟩
theorem Var.below {b : Nat} {v : Value} {w w' : World} (h : Var b v w) (hb : Below w.heap.size w w') : Var b v w' := h.of_block (hb.block b h.lt)
theorem Var.alloc {b : Nat} {v : Value} {w : World} (h : Var b v w) (o : Obj) : Var b v (w.alloc o) := h.below ((Below.refl _ w).alloc (Nat.le_refl _) o)
theorem Var.new (w : World) (v : Value) (t : TypeId) : Var w.heap.size v (w.alloc (.cells #[v] t)) := ⟨by simp, by simp [go_sem]⟩
theorem Var.set {b : Nat} {v : Value} {w : World} (h : Var b v w) (u : Value) : Var b u (w.setCell ⟨b, 0, none⟩ u) := ⟨by simp [go_sem, h.cell], by simp [go_sem, h.frozen]⟩
theorem Var.store {b c : Nat} {v u : Value} {w : World} (h : Var b v w) (hc : b ≠ c) : Var b v (w.setCell ⟨c, 0, none⟩ u) := h.of_block (Below.heap_setCell _ _ _ _ hc)
theorem below_new {w w' : World} {o : Obj} (h : Below (w.alloc o).heap.size (w.alloc o) w') : Below w.heap.size w w' := below_step ((Below.refl _ w).alloc (Nat.le_refl _) o) h

theorem Past.mono {d d' : List Nat} {w w' : World} (h : Past d w w') (hd : ∀ k ∈ d, k ∈ d') : Past d' w w' := ⟨h.os, h.tape, h.output, h.size, fun k hk hn => h.block k hk fun e => hn (hd k e)⟩
theorem Past.drew {d : List Nat} {x w : World} (h : Past d x w) : Past d x w.drew := ⟨h.os, h.tape, h.output, h.size, h.block⟩
theorem Past.drewN {d : List Nat} {x w : World} (h : Past d x w) (q : Nat) : Past d x (w.drewN q) := ⟨h.os, h.tape, h.output, h.size, h.block⟩
/-- what lies beside the n cells from o on in a block is as it was -/
structure Beside (B o n : Nat) (w w' : World) : Prop where
  cells : ∀ i, (i < o ∨ o + n ≤ i) → w'.cell? ⟨B, i, none⟩ = w.cell? ⟨B, i, none⟩
  frozen : ∀ i, w'.frozen? ⟨B, i, none⟩ = w.frozen? ⟨B, i, none⟩
theorem Beside.refl (B o n : Nat) (w : World) : Beside B o n w w := ⟨fun _ _ => rfl, fun _ => rfl⟩
theorem Beside.trans {B o n : Nat} {x y z : World} (h : Beside B o n x y) (k : Beside B o n y z) : Beside B o n x z := ⟨fun i hi => (k.cells i hi).trans (h.cells i hi), fun i => (k.frozen i).trans (h.frozen i)⟩
theorem Beside.of_block {B o n : Nat} {w w' : World} (he : w'.heap[B]? = w.heap[B]?) : Beside B o n w w' := ⟨fun _ _ => World.cell?_of_block (w := w) he, fun _ => World.frozen?_of_block (w := w) he⟩
theorem Beside.store {B o n : Nat} {x w : World} (h : Beside B o n x w) (j : Nat) (h0 : o ≤ j) (h1 : j < o + n) (u : Value) : Beside B o n x (w.setCell ⟨B, j, none⟩ u) := by
  refine h.trans ⟨fun i hi => ?_, fun i => by simp [go_sem]⟩
  exact World.cell?_setCell_other _ _ _ _ (by intro e; injection e with _ e _; omega)
theorem Beside.mono {B o n o' n' : Nat} {w w' : World} (h : Beside B o n w w') (h0 : o' ≤ o) (h1 : o + n ≤ o' + n') : Beside B o' n' w w' := ⟨fun i hi => h.cells i (by omega), h.frozen⟩
end Go.Proofs.YtgpfhgkphadgkaaDoor.trap
