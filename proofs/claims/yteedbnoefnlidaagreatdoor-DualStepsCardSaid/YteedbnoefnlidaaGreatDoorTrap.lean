/- Trap: several texts in one: plain facts and laws for the walks. No program is named. -/
import Derived.Test.YteedbnoefnlidaaGreatDoorErrors
import Derived.WalkLawsBesides
import Derived.WalkArith
import Derived.Laws.PanicsMore
import Derived.Deep.DeepMakeLenPanics
import Derived.Test.YteedbnoefnlidaaGreatDoorKit
import Derived.Defers
import Derived.Recover

/-! ### trap: Raise, Need; amblernum.Err; the document's Of; what act does, number by number. -/
namespace Go.Proofs.YteedbnoefnlidaaGreatDoor.trap
open Go.RowKit errs
set_option linter.unusedVariables false

/-- the error of a number (0: none) -/
def errAt (a : String → Addr) : Nat → Value
  | 0 => .nilIface
  | k + 1 => errV (a (nm k))
/-- the chain of a panic by Raise, and of another one -/
abbrev thrown (v : Value) : List PanicEntry := [{ v := v, recovered := false }]
abbrev raisedV (x : Addr) : Value := .iface 134 (.agg #[errV x])
theorem raise_nil (w : World) : Calls Tryz.prog 149 #[.nilIface] w fun e w' => e = .returned (.tuple #[]) ∧ w = w' := by
  go_enter Tryz.func149, Tryz.ntmps149
  go_wp2
  go_end0
  exact ⟨rfl, rfl⟩
theorem raise_err (x : Addr) (w : World) : Calls Tryz.prog 149 #[errV x] w fun e w' => e = .panicked (thrown (raisedV x)) ∧ w = w' := by
  go_enter Tryz.func149, Tryz.ntmps149
  go_wp2
  exact ⟨rfl, rfl, rfl⟩
theorem panic_bounds (w : World) : ∃ s, (boundsPanic .i64 1 1 .index : Sem Value).run Tryz.prog w = .halt (.panic (boundsValue Tryz.prog 1 1 s 0)) w.drew := by
  simp [boundsPanic, boundsValue, runtimePanic, goPanic, go_sem]
  decide
theorem panic_make (w : World) : (Instr.makeSlice 23 (.int .i64 (-1)) (.int .i64 (-1))).run Tryz.prog w = .halt (.panic (lenPanic Tryz.prog)) w := by
  obtain ⟨i, hi, -⟩ := Option.map_eq_some_iff.1 (show (Tryz.prog.info? 3).map (·.size) = some 1 by kernel_rfl)
  exact run_make_len_refused (e := 3) (i := i) (ht := Tryz.underlying23) (hi := hi) (kl := .i64) (kc := .i64) (n := -1) (hlo := by decide) (h63 := by decide) (hbad := .inl (by decide)) w
theorem panic_type (n : Int) (w : World) : ∃ r o, (Instr.typeAssert (.iface 3 (.int .i64 n)) 20 9 false).run Tryz.prog w = .halt (.panic (.iface Tryz.prog.rt.typeAssertionError (.pointer (some r)))) (w.alloc o) := by
  have he : (elemOf 15).run Tryz.prog w = .ok 263 w := by kernel_rfl
  simp [Instr.typeAssert, run_underlying Tryz.underlying9, runtimePanic, goPanic, go_sem, he]
  exact ⟨_, rfl⟩

/-! ### act, number by number -/
/-- a function that came to the number b of the document: it came back; it raised the error b; it panicked in another way -/
def Ends (a : String → Addr) (b : Nat) (e : Ending) : Prop :=
  (b = 0 ∧ e = .returned (.tuple #[])) ∨ (∃ k, k < 16 ∧ b = k + 1 ∧ e = .panicked (thrown (raisedV (a (nm k))))) ∨ (b = 10 ∧ ∃ T v, T ≠ 134 ∧ e = .panicked (thrown (.iface T v)))
theorem Ends.back {a : String → Addr} : Ends a 0 (.returned (.tuple #[])) := .inl ⟨rfl, rfl⟩
theorem Ends.raised {a : String → Addr} (k : Nat) (h : k < 16) : Ends a (k + 1) (.panicked (thrown (raisedV (a (nm k))))) := .inr (.inl ⟨k, h, rfl, rfl⟩)
theorem Ends.other {a : String → Addr} (T : TypeId) (v : Value) (h : T ≠ 134) : Ends a 10 (.panicked (thrown (.iface T v))) := .inr (.inr ⟨rfl, T, v, h, rfl⟩)
theorem drew_below (w : World) : Below w.heap.size w w.drew := ⟨rfl, rfl, rfl, Nat.le_refl _, fun _ _ => rfl⟩
theorem rt_bounds : Tryz.prog.rt.boundsError = 8 := by kernel_rfl
theorem rt_plain : Tryz.prog.rt.plainError = 11 := by kernel_rfl
theorem rt_error : Tryz.prog.rt.errorString = 10 := by kernel_rfl
theorem rt_assert : Tryz.prog.rt.typeAssertionError = 15 := by kernel_rfl
/-- what act is given -/
structure ActIn (b : Nat) (w : World) : Prop where
  cell : w.cell? ⟨b, 0, none⟩ = some (.int .i64 1)
  frozen : w.frozen? ⟨b, 0, none⟩ = false
/-- the document's number of what act does -/
def actN (k : Nat) (n : Int) : Nat := if k = 0 ∨ k = 2 then 0 else if k = 1 then (if n < 1 ∨ 16 < n then 0 else n.toNat) else 10
end Go.Proofs.YteedbnoefnlidaaGreatDoor.trap

/-! ### trap: Catch, by what its function comes to. -/
namespace Go.Proofs.YteedbnoefnlidaaGreatDoor.trap
open Go.RowKit errs under
set_option linter.unusedSimpArgs false
set_option linter.unusedVariables false

theorem caught_idle (b e : Nat) (w : World) (hb : w.cell? ⟨b, 0, none⟩ = some (.bool true)) :
    CallsD Tryz.prog 70 #[.pointer (some ⟨b, 0, none⟩), .pointer (some ⟨e, 0, none⟩)] .returning w fun r u' w' => r = .returned (.tuple #[]) ∧ u' = .returning ∧ w' = w := by
  refine callsD_of_wpS Tryz.func70 rfl fun c₀ cs hu => ?_
  apply wpS_seq
  apply wpS_seq
  apply wpS_region
  simp [wpOpsS, go_sem, hu, Tryz.ntmps70, Exit.thenS, hb]
  refine wpS_cond (t := true) (by simp [Act.eval, Array.replicate]) ?_
  simp only [if_true]
  refine wpS_of_wp (wp_ret ?_)
  cases c₀
  simp_all [bodyPostS, results, Tryz.results70, Exit.thenS]
theorem is_raised (v : Value) (w : World) : (Instr.typeAssert (.iface 134 v) 20 134 true).run Tryz.prog w = .ok (.tuple #[v, .bool true]) w := by kernel_rfl
theorem is_other (T : TypeId) (hT : T ≠ 134) (v : Value) (w : World) : (Instr.typeAssert (.iface T v) 20 134 true).run Tryz.prog w = .ok (.tuple #[.agg #[.nilIface], .bool false]) w := by
  have hz : (zeroValue 134).run Tryz.prog w = .ok (.agg #[.nilIface]) w := by kernel_rfl
  simp [Instr.typeAssert, run_underlying Tryz.underlying134, hT, go_sem, hz]
theorem caught_raised (b e : Nat) (x : Addr) (w : World) (hb : w.cell? ⟨b, 0, none⟩ = some (.bool false)) (o : Value) (he : w.cell? ⟨e, 0, none⟩ = some o) (hf : w.frozen? ⟨e, 0, none⟩ = false) :
    CallsD Tryz.prog 70 #[.pointer (some ⟨b, 0, none⟩), .pointer (some ⟨e, 0, none⟩)] (.panicking (thrown (raisedV x))) w fun r u' w' => r = .returned (.tuple #[]) ∧ u' = .panicking [{ v := raisedV x, recovered := true }] ∧
      ∃ o, w' = (w.setCell ⟨e, 0, none⟩ (errV x)).alloc o := by
  refine callsD_of_wpS Tryz.func70 rfl fun c₀ cs hu => ?_
  apply wpS_seq
  apply wpS_seq
  apply wpS_region
  simp [wpOpsS, go_sem, Tryz.ntmps70, Exit.thenS, hb]
  refine wpS_cond (t := false) (by simp [Act.eval, Array.replicate]) ?_
  simp only [Bool.false_eq_true, if_false]
  refine wpS_of_wp (wp_skip ?_)
  simp only [Exit.thenS]
  apply wpS_seq
  apply wpS_region
  simp [wpOpsS, go_sem, recoverD, hu, Exit.thenS]
  refine wpS_of_wp ?_
  have hr := is_raised
  have hel : e < w.heap.size := World.block_lt_of_cell? w _ he
  go_wp2
  refine ⟨rfl, _, rfl, .tuple #[], ?_, rfl, rfl, _, rfl⟩
  simp [results, Tryz.results70, go_sem]
theorem caught_other (a : String → Addr) (b e : Nat) (T : TypeId) (hT : T ≠ 134) (v : Value) (w : World) (hE : ErrsOk names a w) (hb : w.cell? ⟨b, 0, none⟩ = some (.bool false)) (o : Value) (he : w.cell? ⟨e, 0, none⟩ = some o) (hf : w.frozen? ⟨e, 0, none⟩ = false) :
    CallsD Tryz.prog 70 #[.pointer (some ⟨b, 0, none⟩), .pointer (some ⟨e, 0, none⟩)] (.panicking (thrown (.iface T v))) w fun r u' w' => r = .returned (.tuple #[]) ∧ u' = .panicking [{ v := .iface T v, recovered := true }] ∧
      w' = w.setCell ⟨e, 0, none⟩ (errV (a "ambler/api.ErrBroken")) := by
  have c := hE.at gErrBroken (nm_mem (i := 9) (by decide))
  refine callsD_of_wpS Tryz.func70 rfl fun c₀ cs hu => ?_
  apply wpS_seq
  apply wpS_seq
  apply wpS_region
  simp [wpOpsS, go_sem, Tryz.ntmps70, Exit.thenS, hb]
  refine wpS_cond (t := false) (by simp [Act.eval, Array.replicate]) ?_
  simp only [Bool.false_eq_true, if_false]
  refine wpS_of_wp (wp_skip ?_)
  simp only [Exit.thenS]
  apply wpS_seq
  apply wpS_region
  simp [wpOpsS, go_sem, recoverD, hu, Exit.thenS]
  refine wpS_of_wp ?_
  have hr := is_other T hT v
  go_wp2
  refine ⟨rfl, _, rfl, .tuple #[], ?_, rfl, rfl, rfl⟩
  simp [results, Tryz.results70, go_sem]
theorem hnil (w : World) : (binOp BinOp.eql 1 .nilFunc .nilFunc).run Tryz.prog w = .ok (.bool true) w := by kernel_rfl
theorem hfun (fn : Fn) (cap : Array Value) (w : World) : (binOp BinOp.eql 1 (.func fn #[] cap) .nilFunc).run Tryz.prog w = .ok (.bool false) w := by kernel_rfl
theorem old {w : World} {p : Addr} {v : Value} (o : Obj) (h : w.cell? p = some v) : (w.alloc o).cell? p = some v := (((Below.refl _ w).alloc (Nat.le_refl _) o).cell (World.block_lt_of_cell? w _ h)).trans h
theorem catch_nil (a : String → Addr) (w : World) (h : ErrsOk names a w) :
    Calls Tryz.prog 29 #[.nilFunc] w fun e w' => e = .returned (errV (a "ambler/api.ErrEmpty")) ∧ Below w.heap.size w w' := by
  have hmf : ∀ (fn : Fn) (first cap : Array Value) (w : World), (Instr.makeFunc fn first cap).run Tryz.prog w = .ok (.func fn first cap) w := fun _ _ _ _ => rfl
  have c := h.at gErrEmpty (nm_mem (i := 11) (by decide))
  have c' := old (.cells #[.nilIface] 50) c
  have hn := hnil
  go_enter_defers Tryz.func29, Tryz.ntmps29
  go_wp2
  refine ⟨errV (a "ambler/api.ErrEmpty"), ?_, rfl, (Below.refl _ _).alloc (Nat.le_refl _) _⟩
  simp [results, Tryz.results29, go_sem]
set_option maxRecDepth 100000 in
set_option maxHeartbeats 1600000 in
theorem catch_any (a : String → Addr) (n : Nat) (g : Nat) (cap : Array Value) (hc : ∀ w, (callFunc g cap).run Tryz.prog w = .ok (.enter g cap) w) (d : List Nat) (T : World → Prop) (w : World)
    (hd : ∀ k ∈ d, k < w.heap.size) (hE : ∀ wx, Past d w wx → ErrsOk names a wx) (hT : ∀ w1 w2, T w1 → (∀ k, k < w.heap.size → w2.heap[k]? = w1.heap[k]?) → T w2)
    (hg : Calls Tryz.prog g cap ((w.alloc (.cells #[.nilIface] 50)).alloc (.cells #[.bool false] 4)) fun e w' => Ends a n e ∧ Past d ((w.alloc (.cells #[.nilIface] 50)).alloc (.cells #[.bool false] 4)) w' ∧ T w') :
    Calls Tryz.prog 29 #[.func (.func g) #[] cap] w fun e w' => e = .returned (errAt a n) ∧ Past d w w' ∧ T w' := by
  have hmf : ∀ (fn : Fn) (first cap : Array Value) (w : World), (Instr.makeFunc fn first cap).run Tryz.prog w = .ok (.func fn first cap) w := fun _ _ _ _ => rfl
  have hn := hfun
  have hp0 : Past d w ((w.alloc (.cells #[.nilIface] 50)).alloc (.cells #[.bool false] 4)) := ((Past.refl d w).alloc _).alloc _
  go_enter_defers Tryz.func29, Tryz.ntmps29
  go_wp2
  refine hg.mono ?_
  rintro e w1 ⟨he, hp1, ht1⟩
  have hpw := hp0.trans hp1
  have hE1 := hE w1 hpw
  have ne : w.heap.size ∉ d := fun h => Nat.lt_irrefl _ (hd _ h)
  have nb : w.heap.size + 1 ∉ d := fun h => by have := hd _ h; omega
  have ce := hp1.cell (b := w.heap.size) (i := 0) (v := .nilIface) (by simp) ne
  have cb := hp1.cell (b := w.heap.size + 1) (i := 0) (v := .bool false) (by simp) nb
  have fe : w1.frozen? ⟨w.heap.size, 0, none⟩ = false := (hp1.frozen (by simp; omega) ne).trans (by simp [go_sem])
  have fb : w1.frozen? ⟨w.heap.size + 1, 0, none⟩ = false := (hp1.frozen (by simp) nb).trans (by simp [go_sem])
  have hz : w.heap.size + 1 + 1 ≤ w1.heap.size := by simpa using hp1.size
  have store : ∀ (W : World) (b : Nat) (u : Value), w.heap.size ≤ b → ∀ k, k < w.heap.size → (W.setCell ⟨b, 0, none⟩ u).heap[k]? = W.heap[k]? := fun W b u hb k hk => Below.heap_setCell _ _ _ _ (by simp only; omega)
  rcases he with ⟨rfl, rfl⟩ | ⟨k, hk, rfl, rfl⟩ | ⟨rfl, U, v, hU, rfl⟩
  · skip
    go_wp2
    refine leaves_cons (f := 70) (args := #[.pointer (some ⟨w.heap.size + 1, 0, none⟩), .pointer (some ⟨w.heap.size, 0, none⟩)]) (by simp) (by simp [go_sem]) ?_
    refine (caught_idle _ _ _ ?_).mono ?_
    · simp [go_sem, cb]
    rintro e u' w'' ⟨rfl, rfl, rfl⟩
    simp [Leaves, settle, results, Tryz.results29, go_sem, ce, cb]
    exact ⟨rfl, (hpw.store (p := ⟨w.heap.size + 1, 0, none⟩) (.inr (by simp)) _).store (p := ⟨w.heap.size, 0, none⟩) (.inr (by simp)) _, hT _ _ ht1 fun k hk => (store _ _ _ (Nat.le_refl _) k hk).trans (store _ _ _ (by omega) k hk)⟩
  · skip
    go_wp2
    refine leaves_cons (f := 70) (args := #[.pointer (some ⟨w.heap.size + 1, 0, none⟩), .pointer (some ⟨w.heap.size, 0, none⟩)]) (by simp) (by simp [go_sem]) ?_
    refine (caught_raised _ _ _ _ cb _ ce fe).mono ?_
    rintro e u' w'' ⟨rfl, rfl, o, rfl⟩
    have cr : ((w1.setCell ⟨w.heap.size, 0, none⟩ (errV (a (nm k)))).alloc o).cell? ⟨w.heap.size, 0, none⟩ = some (errV (a (nm k))) := old o (by simp [go_sem, ce])
    simp [Leaves, settle, results, Tryz.results29, go_sem, cr]
    exact ⟨rfl, (hpw.store (p := ⟨w.heap.size, 0, none⟩) (.inr (by simp)) _).alloc _, hT _ _ ht1 fun j hj => (Below.heap_alloc _ _ _ (by simp [World.setCell]; omega)).trans (store _ _ _ (Nat.le_refl _) j hj)⟩
  · skip
    go_wp2
    refine leaves_cons (f := 70) (args := #[.pointer (some ⟨w.heap.size + 1, 0, none⟩), .pointer (some ⟨w.heap.size, 0, none⟩)]) (by simp) (by simp [go_sem]) ?_
    refine (caught_other a _ _ _ hU _ _ hE1 cb _ ce fe).mono ?_
    rintro e u' w'' ⟨rfl, rfl, rfl⟩
    simp [Leaves, settle, results, Tryz.results29, go_sem, ce, cb]
    exact ⟨rfl, hpw.store (p := ⟨w.heap.size, 0, none⟩) (.inr (by simp)) _, hT _ _ ht1 fun j hj => store _ _ _ (Nat.le_refl _) j hj⟩
end Go.Proofs.YteedbnoefnlidaaGreatDoor.trap

/-! ### trap: Must, the document's Of, kinds, Num of what was caught; the functions that the laws make. -/
namespace Go.Proofs.YteedbnoefnlidaaGreatDoor.trap
open Go.RowKit errs under
set_option linter.unusedSimpArgs false
set_option linter.unusedVariables false

/-! ### Num of what was caught -/
theorem num_err (a : String → Addr) (b : Nat) (hb : b ≤ 16) (w : World) (h : ErrsOk names a w) :
    Calls Tryz.prog 15 #[errAt a b] w fun e w' => e = .returned (.int .i64 (b : Nat)) ∧ Below w.heap.size w w' := by
  cases b with
  | zero => exact (num_nil w).mono fun e w' ⟨he, hw⟩ => ⟨he, by subst hw; exact Below.refl _ _⟩
  | succ k => exact num_at a k (by omega) w h
theorem actN_le (k : Nat) (n : Int) : actN k n ≤ 16 := by
  unfold actN
  split
  · omega
  · split
    · split <;> omega
    · omega
/-! ### the number of what is done -/
def kindN (x : Int) : Nat := (x % 18446744073709551616).toNat % 11
theorem kindN_lt (x : Int) : kindN x < 11 := Nat.mod_lt _ (by decide)
/-! ### Must -/
theorem must_nil (v : Int) (w : World) : Calls Tryz.prog 127 #[.int .i64 v, .nilIface] w fun e w' => e = .returned (.int .i64 v) ∧ w = w' := by
  go_enter Tryz.func127, Tryz.ntmps127
  go_wp2_with (go_at_call 149; refine (raise_nil _).mono ?_; rintro e w' ⟨rfl, rfl⟩)
  go_ret
  exact ⟨rfl, rfl⟩
theorem must_err (v : Int) (x : Addr) (w : World) : Calls Tryz.prog 127 #[.int .i64 v, errV x] w fun e w' => e = .panicked (thrown (raisedV x)) ∧ w = w' := by
  go_enter Tryz.func127, Tryz.ntmps127
  go_wp2_with (go_at_call 149; refine (raise_err _ _).mono ?_; rintro e w' ⟨rfl, rfl⟩)
  exact ⟨rfl, rfl, rfl⟩
/-! ### what the laws hand to Catch -/
theorem act_in (w : World) : ActIn w.heap.size (w.alloc (.cells #[.int .i64 1] 3)) := ⟨by simp, by simp [go_sem]⟩
end Go.Proofs.YteedbnoefnlidaaGreatDoor.trap
