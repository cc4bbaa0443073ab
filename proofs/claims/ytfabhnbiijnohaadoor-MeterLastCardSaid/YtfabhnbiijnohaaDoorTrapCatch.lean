/- trap: Catch, by what its function comes to. -/
import Derived.Test.YtfabhnbiijnohaaDoorTrapActs
import Derived.Test.YtfabhnbiijnohaaDoorUnder
import Derived.Defers
import Derived.Recover
namespace Go.Proofs.YtfabhnbiijnohaaDoor.trap
open Go.RowKit errs under
set_option linter.unusedSimpArgs false
set_option linter.unusedVariables false

theorem caught_idle (b e : Nat) (w : World) (hb : w.cell? ⟨b, 0, none⟩ = some (.bool true)) :
    CallsD Tryd.prog 31 #[.pointer (some ⟨b, 0, none⟩), .pointer (some ⟨e, 0, none⟩)] .returning w fun r u' w' => r = .returned (.tuple #[]) ∧ u' = .returning ∧ w' = w := by
  refine callsD_of_wpS Tryd.func31 rfl fun c₀ cs hu => ?_
  apply wpS_seq
  apply wpS_seq
  apply wpS_region
  simp [wpOpsS, go_sem, hu, Tryd.ntmps31, Exit.thenS, hb]
  refine wpS_cond (t := true) (by simp [Act.eval, Array.replicate]) ?_
  simp only [if_true]
  refine wpS_of_wp (wp_ret ?_)
  cases c₀
  simp_all [bodyPostS, results, Tryd.results31, Exit.thenS]
theorem is_raised (v : Value) (w : World) : (Instr.typeAssert (.iface 65 v) 20 65 true).run Tryd.prog w = .ok (.tuple #[v, .bool true]) w := by kernel_rfl
theorem is_other (T : TypeId) (hT : T ≠ 65) (v : Value) (w : World) : (Instr.typeAssert (.iface T v) 20 65 true).run Tryd.prog w = .ok (.tuple #[.agg #[.nilIface], .bool false]) w := by
  have hz : (zeroValue 65).run Tryd.prog w = .ok (.agg #[.nilIface]) w := by kernel_rfl
  simp [Instr.typeAssert, run_underlying Tryd.underlying65, hT, go_sem, hz]
theorem caught_raised (b e : Nat) (x : Addr) (w : World) (hb : w.cell? ⟨b, 0, none⟩ = some (.bool false)) (o : Value) (he : w.cell? ⟨e, 0, none⟩ = some o) (hf : w.frozen? ⟨e, 0, none⟩ = false) :
    CallsD Tryd.prog 31 #[.pointer (some ⟨b, 0, none⟩), .pointer (some ⟨e, 0, none⟩)] (.panicking (thrown (raisedV x))) w fun r u' w' => r = .returned (.tuple #[]) ∧ u' = .panicking [{ v := raisedV x, recovered := true }] ∧
      ∃ o, w' = (w.setCell ⟨e, 0, none⟩ (errV x)).alloc o := by
  refine callsD_of_wpS Tryd.func31 rfl fun c₀ cs hu => ?_
  apply wpS_seq
  apply wpS_seq
  apply wpS_region
  simp [wpOpsS, go_sem, Tryd.ntmps31, Exit.thenS, hb]
  refine wpS_cond (t := false) (by simp [Act.eval, Array.replicate]) ?_
  simp only [Bool.false_eq_true, if_false]
  refine wpS_of_wp (wp_skip ?_)
  simp only [Exit.thenS]
  apply wpS_seq
  apply wpS_region
  simp [wpOpsS, go_sem, recoverD, hu, Exit.thenS]
  refine wpS_of_wp ?_
  have hr := is_raised
  have hel : e < w.heap.size := World.block_lt_of_cell? w _ he
  go_wp2
  refine ⟨rfl, _, rfl, .tuple #[], ?_, rfl, rfl, _, rfl⟩
  simp [results, Tryd.results31, go_sem]
theorem caught_other (a : String → Addr) (b e : Nat) (T : TypeId) (hT : T ≠ 65) (v : Value) (w : World) (hE : ErrsOk names a w) (hb : w.cell? ⟨b, 0, none⟩ = some (.bool false)) (o : Value) (he : w.cell? ⟨e, 0, none⟩ = some o) (hf : w.frozen? ⟨e, 0, none⟩ = false) :
    CallsD Tryd.prog 31 #[.pointer (some ⟨b, 0, none⟩), .pointer (some ⟨e, 0, none⟩)] (.panicking (thrown (.iface T v))) w fun r u' w' => r = .returned (.tuple #[]) ∧ u' = .panicking [{ v := .iface T v, recovered := true }] ∧
      w' = w.setCell ⟨e, 0, none⟩ (errV (a "ambler/api.ErrBroken")) := by
  have c := hE.at gErrBroken (nm_mem (i := 9) (by decide))
  refine callsD_of_wpS Tryd.func31 rfl fun c₀ cs hu => ?_
  apply wpS_seq
  apply wpS_seq
  apply wpS_region
  simp [wpOpsS, go_sem, Tryd.ntmps31, Exit.thenS, hb]
  refine wpS_cond (t := false) (by simp [Act.eval, Array.replicate]) ?_
  simp only [Bool.false_eq_true, if_false]
  refine wpS_of_wp (wp_skip ?_)
  simp only [Exit.thenS]
  apply wpS_seq
  apply wpS_region
  simp [wpOpsS, go_sem, recoverD, hu, Exit.thenS]
  refine wpS_of_wp ?_
  have hr := is_other T hT v
  go_wp2
  refine ⟨rfl, _, rfl, .tuple #[], ?_, rfl, rfl, rfl⟩
  simp [results, Tryd.results31, go_sem]
theorem hnil (w : World) : (binOp BinOp.eql 1 .nilFunc .nilFunc).run Tryd.prog w = .ok (.bool true) w := by kernel_rfl
theorem hfun (fn : Fn) (cap : Array Value) (w : World) : (binOp BinOp.eql 1 (.func fn #[] cap) .nilFunc).run Tryd.prog w = .ok (.bool false) w := by kernel_rfl
theorem old {w : World} {p : Addr} {v : Value} (o : Obj) (h : w.cell? p = some v) : (w.alloc o).cell? p = some v := (((Below.refl _ w).alloc (Nat.le_refl _) o).cell (World.block_lt_of_cell? w _ h)).trans h
theorem catch_nil (a : String → Addr) (w : World) (h : ErrsOk names a w) :
    Calls Tryd.prog 21 #[.nilFunc] w fun e w' => e = .returned (errV (a "ambler/api.ErrEmpty")) ∧ Below w.heap.size w w' := by
  have hmf : ∀ (fn : Fn) (first cap : Array Value) (w : World), (Instr.makeFunc fn first cap).run Tryd.prog w = .ok (.func fn first cap) w := fun _ _ _ _ => rfl
  have c := h.at gErrEmpty (nm_mem (i := 11) (by decide))
  have c' := old (.cells #[.nilIface] 55) c
  have hn := hnil
  go_enter_defers Tryd.func21, Tryd.ntmps21
  go_wp2
  refine ⟨errV (a "ambler/api.ErrEmpty"), ?_, rfl, (Below.refl _ _).alloc (Nat.le_refl _) _⟩
  simp [results, Tryd.results21, go_sem]
/-- all that lay in w but the blocks of a list lies as it did -/
structure Past (d : List Nat) (w w' : World) : Prop where
  os : w'.os = w.os
  tape : w'.tape = w.tape
  output : w'.output = w.output
  size : w.heap.size ≤ w'.heap.size
  block : ∀ k, k < w.heap.size → k ∉ d → w'.heap[k]? = w.heap[k]?
theorem Past.refl (d : List Nat) (w : World) : Past d w w := ⟨rfl, rfl, rfl, Nat.le_refl _, fun _ _ _ => rfl⟩
theorem Past.trans {d : List Nat} {x y z : World} (h : Past d x y) (k : Past d y z) : Past d x z :=
  ⟨k.os.trans h.os, k.tape.trans h.tape, k.output.trans h.output, Nat.le_trans h.size k.size, fun i hi hd => (k.block i (Nat.lt_of_lt_of_le hi h.size) hd).trans (h.block i hi hd)⟩
theorem Past.of {d : List Nat} {w w' : World} (h : Below w.heap.size w w') : Past d w w' := ⟨h.os, h.tape, h.output, h.size, fun k hk _ => h.block k hk⟩
theorem Past.below {d : List Nat} {B : Nat} {w w' : World} (h : Past d w w') (hB : B ≤ w.heap.size) (hd : ∀ k ∈ d, B ≤ k) : Below B w w' :=
  ⟨h.os, h.tape, h.output, h.size, fun k hk => h.block k (Nat.lt_of_lt_of_le hk hB) fun e => absurd (hd k e) (by omega)⟩
theorem Past.nil {w w' : World} (h : Past [] w w') : Below w.heap.size w w' := h.below (Nat.le_refl _) (by simp)
/-- a store into a block of the list, or into one that is new -/
theorem Past.store {d : List Nat} {x w : World} (h : Past d x w) {p : Addr} (hp : p.block ∈ d ∨ x.heap.size ≤ p.block) (u : Value) : Past d x (w.setCell p u) :=
  ⟨h.os, h.tape, h.output, by simpa [World.setCell] using h.size, fun k hk hd => (Below.heap_setCell _ _ _ _ (by rintro rfl; rcases hp with h' | h'; exact hd h'; omega)).trans (h.block k hk hd)⟩
theorem Past.alloc {d : List Nat} {x w : World} (h : Past d x w) (o : Obj) : Past d x (w.alloc o) := h.trans (.of ((Below.refl _ w).alloc (Nat.le_refl _) o))
theorem Past.cell {d : List Nat} {w w' : World} (h : Past d w w') {b i : Nat} {v : Value} (hc : w.cell? ⟨b, i, none⟩ = some v) (hd : b ∉ d) : w'.cell? ⟨b, i, none⟩ = some v :=
  (World.cell?_of_block (w := w) (h.block b (World.block_lt_of_cell? w _ hc) hd)).trans hc
theorem Past.frozen {d : List Nat} {w w' : World} (h : Past d w w') {b i : Nat} (hb : b < w.heap.size) (hd : b ∉ d) : w'.frozen? ⟨b, i, none⟩ = w.frozen? ⟨b, i, none⟩ := World.frozen?_of_block (w := w) (h.block b hb hd)

set_option maxRecDepth 100000 in
set_option maxHeartbeats 1600000 in
theorem catch_any (a : String → Addr) (n : Nat) (g : Nat) (cap : Array Value) (hc : ∀ w, (callFunc g cap).run Tryd.prog w = .ok (.enter g cap) w) (d : List Nat) (T : World → Prop) (w : World)
    (hd : ∀ k ∈ d, k < w.heap.size) (hE : ∀ wx, Past d w wx → ErrsOk names a wx) (hT : ∀ w1 w2, T w1 → (∀ k, k < w.heap.size → w2.heap[k]? = w1.heap[k]?) → T w2)
    (hg : Calls Tryd.prog g cap ((w.alloc (.cells #[.nilIface] 55)).alloc (.cells #[.bool false] 4)) fun e w' => Ends a n e ∧ Past d ((w.alloc (.cells #[.nilIface] 55)).alloc (.cells #[.bool false] 4)) w' ∧ T w') :
    Calls Tryd.prog 21 #[.func (.func g) #[] cap] w fun e w' => e = .returned (errAt a n) ∧ Past d w w' ∧ T w' := by
  have hmf : ∀ (fn : Fn) (first cap : Array Value) (w : World), (Instr.makeFunc fn first cap).run Tryd.prog w = .ok (.func fn first cap) w := fun _ _ _ _ => rfl
  have hn := hfun
  have hp0 : Past d w ((w.alloc (.cells #[.nilIface] 55)).alloc (.cells #[.bool false] 4)) := ((Past.refl d w).alloc _).alloc _
  go_enter_defers Tryd.func21, Tryd.ntmps21
  go_wp2
  refine hg.mono ?_
  rintro e w1 ⟨he, hp1, ht1⟩
  have hpw := hp0.trans hp1
  have hE1 := hE w1 hpw
  have ne : w.heap.size ∉ d := fun h => Nat.lt_irrefl _ (hd _ h)
  have nb : w.heap.size + 1 ∉ d := fun h => by have := hd _ h; omega
  have ce := hp1.cell (b := w.heap.size) (i := 0) (v := .nilIface) (by simp) ne
  have cb := hp1.cell (b := w.heap.size + 1) (i := 0) (v := .bool false) (by simp) nb
  have fe : w1.frozen? ⟨w.heap.size, 0, none⟩ = false := (hp1.frozen (by simp; omega) ne).trans (by simp [go_sem])
  have fb : w1.frozen? ⟨w.heap.size + 1, 0, none⟩ = false := (hp1.frozen (by simp) nb).trans (by simp [go_sem])
  have hz : w.heap.size + 1 + 1 ≤ w1.heap.size := by simpa using hp1.size
  have store : ∀ (W : World) (b : Nat) (u : Value), w.heap.size ≤ b → ∀ k, k < w.heap.size → (W.setCell ⟨b, 0, none⟩ u).heap[k]? = W.heap[k]? := fun W b u hb k hk => Below.heap_setCell _ _ _ _ (by simp only; omega)
  rcases he with ⟨rfl, rfl⟩ | ⟨k, hk, rfl, rfl⟩ | ⟨rfl, U, v, hU, rfl⟩
  · skip
    go_wp2
    refine leaves_cons (f := 31) (args := #[.pointer (some ⟨w.heap.size + 1, 0, none⟩), .pointer (some ⟨w.heap.size, 0, none⟩)]) (by simp) (by simp [go_sem]) ?_
    refine (caught_idle _ _ _ ?_).mono ?_
    · simp [go_sem, cb]
    rintro e u' w'' ⟨rfl, rfl, rfl⟩
    simp [Leaves, settle, results, Tryd.results21, go_sem, ce, cb]
    exact ⟨rfl, (hpw.store (p := ⟨w.heap.size + 1, 0, none⟩) (.inr (by simp)) _).store (p := ⟨w.heap.size, 0, none⟩) (.inr (by simp)) _, hT _ _ ht1 fun k hk => (store _ _ _ (Nat.le_refl _) k hk).trans (store _ _ _ (by omega) k hk)⟩
  · skip
    go_wp2
    refine leaves_cons (f := 31) (args := #[.pointer (some ⟨w.heap.size + 1, 0, none⟩), .pointer (some ⟨w.heap.size, 0, none⟩)]) (by simp) (by simp [go_sem]) ?_
    refine (caught_raised _ _ _ _ cb _ ce fe).mono ?_
    rintro e u' w'' ⟨rfl, rfl, o, rfl⟩
    have cr : ((w1.setCell ⟨w.heap.size, 0, none⟩ (errV (a (nm k)))).alloc o).cell? ⟨w.heap.size, 0, none⟩ = some (errV (a (nm k))) := old o (by simp [go_sem, ce])
    simp [Leaves, settle, results, Tryd.results21, go_sem, cr]
    exact ⟨rfl, (hpw.store (p := ⟨w.heap.size, 0, none⟩) (.inr (by simp)) _).alloc _, hT _ _ ht1 fun j hj => (Below.heap_alloc _ _ _ (by simp [World.setCell]; omega)).trans (store _ _ _ (Nat.le_refl _) j hj)⟩
  · skip
    go_wp2
    refine leaves_cons (f := 31) (args := #[.pointer (some ⟨w.heap.size + 1, 0, none⟩), .pointer (some ⟨w.heap.size, 0, none⟩)]) (by simp) (by simp [go_sem]) ?_
    refine (caught_other a _ _ _ hU _ _ hE1 cb _ ce fe).mono ?_
    rintro e u' w'' ⟨rfl, rfl, rfl⟩
    simp [Leaves, settle, results, Tryd.results21, go_sem, ce, cb]
    exact ⟨rfl, hpw.store (p := ⟨w.heap.size, 0, none⟩) (.inr (by simp)) _, hT _ _ ht1 fun j hj => store _ _ _ (Nat.le_refl _) j hj⟩
end Go.Proofs.YtfabhnbiijnohaaDoor.trap
