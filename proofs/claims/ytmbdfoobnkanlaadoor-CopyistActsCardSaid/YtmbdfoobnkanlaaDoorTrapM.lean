/- TrapM: several texts in one: plain facts and laws for the walks. No program is named. -/
import Derived.Test.YtmbdfoobnkanlaaDoorErrC
import Derived.WalkLawsBesides
import Derived.WalkArith
import Derived.Laws.PanicsMore
import Derived.Deep.DeepMakeLenPanics
import Derived.Test.YtmbdfoobnkanlaaDoorKit
import Derived.Defers
import Derived.Recover
import Derived.Test.YtmbdfoobnkanlaaDoorMath
import Derived.Deep.RegionWith
import Derived.Deep.QuietTactic
import Derived.IntWalk

/-! ### Trap: several texts in one: plain facts and laws for the walks. No program is named. -/
/-! ### trap: Raise, Need; amblernum.Err; the document's Of; what act does, number by number. -/
namespace Go.Proofs.YtmbdfoobnkanlaaDoor.trap
open Go.RowKit errs
set_option linter.unusedVariables false

/-- the error of a number (0: none) -/
def errAt (a : String → Addr) : Nat → Value
  | 0 => .nilIface
  | k + 1 => errV (a (nm k))
/-- the chain of a panic by Raise, and of another one -/
abbrev thrown (v : Value) : List PanicEntry := [{ v := v, recovered := false }]
abbrev raisedV (x : Addr) : Value := .iface 96 (.agg #[errV x])
theorem raise_nil (w : World) : Calls Tryd.prog 30 #[.nilIface] w fun e w' => e = .returned (.tuple #[]) ∧ w = w' := by
  go_enter Tryd.func30, Tryd.ntmps30
  go_wp2
  go_end0
  exact ⟨rfl, rfl⟩
theorem raise_err (x : Addr) (w : World) : Calls Tryd.prog 30 #[errV x] w fun e w' => e = .panicked (thrown (raisedV x)) ∧ w = w' := by
  go_enter Tryd.func30, Tryd.ntmps30
  go_wp2
  exact ⟨rfl, rfl, rfl⟩
theorem panic_bounds (w : World) : ∃ s, (boundsPanic .i64 1 1 .index : Sem Value).run Tryd.prog w = .halt (.panic (boundsValue Tryd.prog 1 1 s 0)) w.drew := by
  simp [boundsPanic, boundsValue, runtimePanic, goPanic, go_sem]
  decide
theorem panic_make (w : World) : (Instr.makeSlice 22 (.int .i64 (-1)) (.int .i64 (-1))).run Tryd.prog w = .halt (.panic (lenPanic Tryd.prog)) w := by
  obtain ⟨i, hi, -⟩ := Option.map_eq_some_iff.1 (show (Tryd.prog.info? 3).map (·.size) = some 1 by kernel_rfl)
  exact run_make_len_refused (e := 3) (i := i) (ht := Tryd.underlying22) (hi := hi) (kl := .i64) (kc := .i64) (n := -1) (hlo := by decide) (h63 := by decide) (hbad := .inl (by decide)) w
theorem panic_type (n : Int) (w : World) : ∃ r o, (Instr.typeAssert (.iface 3 (.int .i64 n)) 20 9 false).run Tryd.prog w = .halt (.panic (.iface Tryd.prog.rt.typeAssertionError (.pointer (some r)))) (w.alloc o) := by
  have he : (elemOf 15).run Tryd.prog w = .ok 121 w := by kernel_rfl
  simp [Instr.typeAssert, run_underlying Tryd.underlying9, runtimePanic, goPanic, go_sem, he]
  exact ⟨_, rfl⟩

/-! ### act, number by number -/
/-- a function that came to the number b of the document: it came back; it raised the error b; it panicked in another way -/
def Ends (a : String → Addr) (b : Nat) (e : Ending) : Prop :=
  (b = 0 ∧ e = .returned (.tuple #[])) ∨ (∃ k, k < 16 ∧ b = k + 1 ∧ e = .panicked (thrown (raisedV (a (nm k))))) ∨ (b = 10 ∧ ∃ T v, T ≠ 96 ∧ e = .panicked (thrown (.iface T v)))
theorem Ends.back {a : String → Addr} : Ends a 0 (.returned (.tuple #[])) := .inl ⟨rfl, rfl⟩
theorem Ends.raised {a : String → Addr} (k : Nat) (h : k < 16) : Ends a (k + 1) (.panicked (thrown (raisedV (a (nm k))))) := .inr (.inl ⟨k, h, rfl, rfl⟩)
theorem Ends.other {a : String → Addr} (T : TypeId) (v : Value) (h : T ≠ 96) : Ends a 10 (.panicked (thrown (.iface T v))) := .inr (.inr ⟨rfl, T, v, h, rfl⟩)
theorem drew_below (w : World) : Below w.heap.size w w.drew := ⟨rfl, rfl, rfl, Nat.le_refl _, fun _ _ => rfl⟩
theorem rt_bounds : Tryd.prog.rt.boundsError = 8 := by kernel_rfl
theorem rt_plain : Tryd.prog.rt.plainError = 11 := by kernel_rfl
theorem rt_error : Tryd.prog.rt.errorString = 10 := by kernel_rfl
theorem rt_assert : Tryd.prog.rt.typeAssertionError = 15 := by kernel_rfl
/-- what act is given -/
structure ActIn (b : Nat) (w : World) : Prop where
  cell : w.cell? ⟨b, 0, none⟩ = some (.int .i64 1)
  frozen : w.frozen? ⟨b, 0, none⟩ = false
/-- the document's number of what act does -/
def actN (k : Nat) (n : Int) : Nat := if k = 0 ∨ k = 2 then 0 else if k = 1 then (if n < 1 ∨ 16 < n then 0 else n.toNat) else 10
end Go.Proofs.YtmbdfoobnkanlaaDoor.trap

/-! ### trap: Catch, by what its function comes to. -/
namespace Go.Proofs.YtmbdfoobnkanlaaDoor.trap
open Go.RowKit errs under
set_option linter.unusedSimpArgs false
set_option linter.unusedVariables false

theorem is_raised (v : Value) (w : World) : (Instr.typeAssert (.iface 96 v) 20 96 true).run Tryd.prog w = .ok (.tuple #[v, .bool true]) w := by kernel_rfl
theorem is_other (T : TypeId) (hT : T ≠ 96) (v : Value) (w : World) : (Instr.typeAssert (.iface T v) 20 96 true).run Tryd.prog w = .ok (.tuple #[.agg #[.nilIface], .bool false]) w := by
  have hz : (zeroValue 96).run Tryd.prog w = .ok (.agg #[.nilIface]) w := by kernel_rfl
  simp [Instr.typeAssert, run_underlying Tryd.underlying96, hT, go_sem, hz]
theorem hnil (w : World) : (binOp BinOp.eql 1 .nilFunc .nilFunc).run Tryd.prog w = .ok (.bool true) w := by kernel_rfl
theorem hfun (fn : Fn) (cap : Array Value) (w : World) : (binOp BinOp.eql 1 (.func fn #[] cap) .nilFunc).run Tryd.prog w = .ok (.bool false) w := by kernel_rfl
theorem old {w : World} {p : Addr} {v : Value} (o : Obj) (h : w.cell? p = some v) : (w.alloc o).cell? p = some v := (((Below.refl _ w).alloc (Nat.le_refl _) o).cell (World.block_lt_of_cell? w _ h)).trans h
end Go.Proofs.YtmbdfoobnkanlaaDoor.trap

/-! ### trap: Must, the document's Of, kinds, Num of what was caught; the functions that the laws make. -/
namespace Go.Proofs.YtmbdfoobnkanlaaDoor.trap
open Go.RowKit errs under
set_option linter.unusedSimpArgs false
set_option linter.unusedVariables false

/-! ### Num of what was caught -/
theorem num_err (a : String → Addr) (b : Nat) (hb : b ≤ 16) (w : World) (h : ErrsOk names a w) :
    Calls Tryd.prog 7 #[errAt a b] w fun e w' => e = .returned (.int .i64 (b : Nat)) ∧ Below w.heap.size w w' := by
  cases b with
  | zero => exact (num_nil w).mono fun e w' ⟨he, hw⟩ => ⟨he, by subst hw; exact Below.refl _ _⟩
  | succ k => exact num_at a k (by omega) w h
theorem actN_le (k : Nat) (n : Int) : actN k n ≤ 16 := by
  unfold actN
  split
  · omega
  · split
    · split <;> omega
    · omega
/-! ### the number of what is done -/
def kindN (x : Int) : Nat := (x % 18446744073709551616).toNat % 11
theorem kindN_lt (x : Int) : kindN x < 11 := Nat.mod_lt _ (by decide)
/-! ### Must -/
theorem must_nil (v : Int) (w : World) : Calls Tryd.prog 36 #[.int .i64 v, .nilIface] w fun e w' => e = .returned (.int .i64 v) ∧ w = w' := by
  go_enter Tryd.func36, Tryd.ntmps36
  go_wp2_with (go_at_call 30; refine (raise_nil _).mono ?_; rintro e w' ⟨rfl, rfl⟩)
  go_ret
  exact ⟨rfl, rfl⟩
theorem must_err (v : Int) (x : Addr) (w : World) : Calls Tryd.prog 36 #[.int .i64 v, errV x] w fun e w' => e = .panicked (thrown (raisedV x)) ∧ w = w' := by
  go_enter Tryd.func36, Tryd.ntmps36
  go_wp2_with (go_at_call 30; refine (raise_err _ _).mono ?_; rintro e w' ⟨rfl, rfl⟩)
  exact ⟨rfl, rfl, rfl⟩
/-! ### what the laws hand to Catch -/
theorem act_in (w : World) : ActIn w.heap.size (w.alloc (.cells #[.int .i64 1] 3)) := ⟨by simp, by simp [go_sem]⟩
end Go.Proofs.YtmbdfoobnkanlaaDoor.trap

/-! ### Meter: several texts in one: plain facts and laws for the walks. No program is named. -/
/-! ### meter: contracts. -/
namespace Go.Proofs.YtmbdfoobnkanlaaDoor.meter
open Go.RowKit errs under trap
set_option linter.unusedSimpArgs false
set_option linter.unusedVariables false

theorem within_any (x : Int) (w : World) : Calls Tryd.prog 57 #[.int .i64 x] w fun e w' => e = .returned (.int .i64 (cl x)) ∧ w = w' := by
  go_enter Tryd.func57, Tryd.ntmps57
  go_wp2
  all_goals
    go_ret
    refine ⟨congrArg Ending.returned (congrArg (Value.int .i64) ?_), rfl⟩
    unfold cl; omega
theorem sum_any (a b : Int) (w : World) : Calls Tryd.prog 54 #[.int .i64 a, .int .i64 b] w fun e w' => e = .returned (.int .i64 (sm a b)) ∧ w = w' := by
  have h1 := cl_lo a
  have h2 := cl_hi a
  have h3 := cl_lo b
  have h4 := cl_hi b
  go_enter Tryd.func54, Tryd.ntmps54
  go_wp2_with (go_at_call 57; refine (within_any _ _).mono ?_; rintro e w' ⟨rfl, rfl⟩)
  go_ret
  exact ⟨rfl, rfl⟩
set_option maxHeartbeats 4000000 in
theorem add_any (B o : Nat) (a l n : Int) (w : World) (ha : w.cell? ⟨B, o, none⟩ = some (.int .i64 a)) (hl : w.cell? ⟨B, o + 1, none⟩ = some (.int .i64 l)) (fa : w.frozen? ⟨B, o, none⟩ = false) (fl : w.frozen? ⟨B, o + 1, none⟩ = false) :
    Calls Tryd.prog 48 #[.pointer (some ⟨B, o, none⟩), .int .i64 n] w fun e w' => e = .returned (.tuple #[]) ∧ w' = ((w.setCell ⟨B, o, none⟩ (.int .i64 (sm a n))).setCell ⟨B, o + 1, none⟩ (.int .i64 (sm l n))).drew := by
  go_enter Tryd.func48, Tryd.ntmps48
  go_wp2
  go_region_with (go_at_call 54; refine (sum_any _ _ _).mono ?_; rintro e w' ⟨rfl, rfl⟩)
  all_goals
    go_wp2
    go_end0
    exact ⟨rfl, rfl⟩
end Go.Proofs.YtmbdfoobnkanlaaDoor.meter

/-! ### meter: where a meter lies, and its methods' contracts. -/
namespace Go.Proofs.YtmbdfoobnkanlaaDoor.meter
open Go.RowKit errs under trap
set_option linter.unusedSimpArgs false
set_option linter.unusedVariables false

/-- a meter at a place, from cell o of block B on -/
structure MAt (B o : Nat) (m : Mt) (w : World) : Prop where
  pa : w.cell? ⟨B, o, none⟩ = some (.int .i64 m.pa)
  pl : w.cell? ⟨B, o + 1, none⟩ = some (.int .i64 m.pl)
  va : w.cell? ⟨B, o + 2, none⟩ = some (.int .i64 m.va)
  vl : w.cell? ⟨B, o + 3, none⟩ = some (.int .i64 m.vl)
  ua : w.cell? ⟨B, o + 4, none⟩ = some (.int .i64 m.ua)
  ul : w.cell? ⟨B, o + 5, none⟩ = some (.int .i64 m.ul)
  lim : w.cell? ⟨B, o + 6, none⟩ = some (.int .i64 m.lim)
  on : w.cell? ⟨B, o + 7, none⟩ = some (.bool m.on)
  fz : ∀ i, w.frozen? ⟨B, i, none⟩ = false
theorem MAt.lt {B o : Nat} {m : Mt} {w : World} (h : MAt B o m w) : B < w.heap.size := World.block_lt_of_cell? w _ h.pa
theorem MAt.of_block {B o : Nat} {m : Mt} {w w' : World} (h : MAt B o m w) (he : w'.heap[B]? = w.heap[B]?) : MAt B o m w' := by
  have c : ∀ i v, w.cell? ⟨B, i, none⟩ = some v → w'.cell? ⟨B, i, none⟩ = some v := fun i v hc => (World.cell?_of_block (w := w) he).trans hc
  exact ⟨c _ _ h.pa, c _ _ h.pl, c _ _ h.va, c _ _ h.vl, c _ _ h.ua, c _ _ h.ul, c _ _ h.lim, c _ _ h.on, fun i => (World.frozen?_of_block (w := w) he).trans (h.fz i)⟩
theorem MAt.below {B o : Nat} {m : Mt} {w w' : World} (h : MAt B o m w) (hb : Below w.heap.size w w') : MAt B o m w' := h.of_block (hb.block B h.lt)
theorem MAt.past {B o : Nat} {m : Mt} {w w' : World} {d : List Nat} (h : MAt B o m w) (hb : Past d w w') (hd : B ∉ d) : MAt B o m w' := h.of_block (hb.block B h.lt hd)
theorem MAt.drew {B o : Nat} {m : Mt} {w : World} (h : MAt B o m w) : MAt B o m w.drew := h.of_block rfl
theorem MAt.drewN {B o : Nat} {m : Mt} {w : World} (h : MAt B o m w) (q : Nat) : MAt B o m (w.drewN q) := h.of_block rfl
theorem MAt.probes {B o : Nat} {m : Mt} {w : World} (h : MAt B o m w) (n : Int) : MAt B o (m.probes n) ((w.setCell ⟨B, o, none⟩ (.int .i64 (sm m.pa n))).setCell ⟨B, o + 1, none⟩ (.int .i64 (sm m.pl n))) := by
  obtain ⟨h0, h1, h2, h3, h4, h5, h6, h7, hf⟩ := h
  constructor <;> simp [Mt.probes, World.cell?_setCell_same', World.cell?_setCell_other, h0, h1, h2, h3, h4, h5, h6, h7, hf]
theorem MAt.visits {B o : Nat} {m : Mt} {w : World} (h : MAt B o m w) (n : Int) : MAt B o (m.visits n) ((w.setCell ⟨B, o + 2, none⟩ (.int .i64 (sm m.va n))).setCell ⟨B, o + 3, none⟩ (.int .i64 (sm m.vl n))) := by
  obtain ⟨h0, h1, h2, h3, h4, h5, h6, h7, hf⟩ := h
  constructor <;> simp [Mt.visits, World.cell?_setCell_same', World.cell?_setCell_other, h0, h1, h2, h3, h4, h5, h6, h7, hf]
theorem MAt.units {B o : Nat} {m : Mt} {w : World} (h : MAt B o m w) (n : Int) : MAt B o (m.units n) ((w.setCell ⟨B, o + 4, none⟩ (.int .i64 (sm m.ua n))).setCell ⟨B, o + 5, none⟩ (.int .i64 (sm m.ul n))) := by
  obtain ⟨h0, h1, h2, h3, h4, h5, h6, h7, hf⟩ := h
  constructor <;> simp [Mt.units, World.cell?_setCell_same', World.cell?_setCell_other, h0, h1, h2, h3, h4, h5, h6, h7, hf]
theorem MAt.reset {B o : Nat} {m : Mt} {w : World} (h : MAt B o m w) : MAt B o m.reset (((w.setCell ⟨B, o + 1, none⟩ (.int .i64 0)).setCell ⟨B, o + 3, none⟩ (.int .i64 0)).setCell ⟨B, o + 5, none⟩ (.int .i64 0)) := by
  obtain ⟨h0, h1, h2, h3, h4, h5, h6, h7, hf⟩ := h
  constructor <;> simp [Mt.reset, World.cell?_setCell_same', World.cell?_setCell_other, h0, h1, h2, h3, h4, h5, h6, h7, hf]
theorem MAt.limit {B o : Nat} {m : Mt} {w : World} (h : MAt B o m w) (n : Int) : MAt B o (m.limit n) ((w.setCell ⟨B, o + 6, none⟩ (.int .i64 n)).setCell ⟨B, o + 7, none⟩ (.bool (decide (0 ≤ n)))) := by
  obtain ⟨h0, h1, h2, h3, h4, h5, h6, h7, hf⟩ := h
  constructor <;> simp [Mt.limit, World.cell?_setCell_same', World.cell?_setCell_other, h0, h1, h2, h3, h4, h5, h6, h7, hf]

theorem MAt.new (w : World) : MAt w.heap.size 0 Mt.zero (w.alloc (.cells #[.int .i64 0, .int .i64 0, .int .i64 0, .int .i64 0, .int .i64 0, .int .i64 0, .int .i64 0, .bool false] 36)) := by
  constructor <;> simp [Mt.zero, go_sem]
/-- what lies beside a meter in its block is as it was -/
structure Side (B o : Nat) (w w' : World) : Prop where
  cells : ∀ i, (i < o ∨ o + 8 ≤ i) → w'.cell? ⟨B, i, none⟩ = w.cell? ⟨B, i, none⟩
  frozen : ∀ i, w'.frozen? ⟨B, i, none⟩ = w.frozen? ⟨B, i, none⟩
theorem Side.refl (B o : Nat) (w : World) : Side B o w w := ⟨fun _ _ => rfl, fun _ => rfl⟩
theorem Side.trans {B o : Nat} {x y z : World} (h : Side B o x y) (k : Side B o y z) : Side B o x z := ⟨fun i hi => (k.cells i hi).trans (h.cells i hi), fun i => (k.frozen i).trans (h.frozen i)⟩
theorem Side.of_block {B o : Nat} {w w' : World} (he : w'.heap[B]? = w.heap[B]?) : Side B o w w' := ⟨fun _ _ => World.cell?_of_block (w := w) he, fun _ => World.frozen?_of_block (w := w) he⟩
theorem Side.store {B o : Nat} {x w : World} (h : Side B o x w) (j : Nat) (h0 : o ≤ j) (h1 : j < o + 8) (u : Value) : Side B o x (w.setCell ⟨B, j, none⟩ u) := by
  refine h.trans ⟨fun i hi => ?_, fun i => by simp [go_sem]⟩
  exact World.cell?_setCell_other _ _ _ _ (by intro e; injection e with _ e _; omega)
/-- a step of a meter: what it holds behind it; all else is as it was -/
structure MStep (B o : Nat) (m : Mt) (w w' : World) : Prop where
  past : Past [B] w w'
  side : Side B o w w'
  at' : MAt B o m w'
theorem MStep.of {B o : Nat} {m : Mt} {w w' : World} (h : MAt B o m w) (hb : Below w.heap.size w w') : MStep B o m w w' := ⟨Past.of hb, Side.of_block (hb.block B h.lt), h.below hb⟩
theorem MStep.trans {B o : Nat} {m m' : Mt} {x y z : World} (h : MStep B o m x y) (k : MStep B o m' y z) : MStep B o m' x z := ⟨h.past.trans k.past, h.side.trans k.side, k.at'⟩
theorem MStep.below {B o : Nat} {m : Mt} {x y z : World} (h : MStep B o m x y) (k : Below y.heap.size y z) : MStep B o m x z := h.trans (.of h.at' k)
theorem MStep.drew {B o : Nat} {m : Mt} {x y : World} (h : MStep B o m x y) : MStep B o m x y.drew := ⟨⟨h.past.os, h.past.tape, h.past.output, h.past.size, h.past.block⟩, ⟨h.side.cells, h.side.frozen⟩, h.at'.drew⟩
theorem MStep.drewN {B o : Nat} {m : Mt} {x y : World} (h : MStep B o m x y) (q : Nat) : MStep B o m x (y.drewN q) := ⟨⟨h.past.os, h.past.tape, h.past.output, h.past.size, h.past.block⟩, ⟨h.side.cells, h.side.frozen⟩, h.at'.drewN q⟩
/-- a step of a meter in a block that is new -/
theorem MStep.fresh {B o : Nat} {m : Mt} {w x y : World} (h : Below w.heap.size w x) (s : MStep B o m x y) (hB : w.heap.size ≤ B) : Below w.heap.size w y := h.trans (s.past.below h.size (by simpa using hB))
theorem ends_zero {a : String → Addr} {e : Ending} (h : trap.Ends a 0 e) : e = .returned (.tuple #[]) := by
  rcases h with ⟨_, h⟩ | ⟨k, _, h, _⟩ | ⟨h, _⟩
  · exact h
  · omega
  · omega
theorem set2 {B o : Nat} {x w : World} (hp : Past [B] x w) (hs : Side B o x w) (i j : Nat) (hi : o ≤ i ∧ i < o + 8) (hj : o ≤ j ∧ j < o + 8) (u v : Value) : Past [B] x ((w.setCell ⟨B, i, none⟩ u).setCell ⟨B, j, none⟩ v) ∧ Side B o x ((w.setCell ⟨B, i, none⟩ u).setCell ⟨B, j, none⟩ v) :=
  ⟨(hp.store (p := ⟨B, i, none⟩) (.inl (by simp)) u).store (p := ⟨B, j, none⟩) (.inl (by simp)) v, (hs.store i hi.1 hi.2 u).store j hj.1 hj.2 v⟩

/-! ### contracts -/
theorem passes_any (B o : Nat) (m : Mt) (hm : m.Ok) (n : Int) (w : World) (h : MAt B o m w) : Calls Tryd.prog 47 #[.pointer (some ⟨B, o, none⟩), .int .i64 n] w fun e w' => e = .returned (.bool (m.past n)) ∧ ∃ q, w' = w.drewN q := by
  obtain ⟨h0, h1, h2, h3, h4, h5, h6, h7, hf⟩ := h
  have b1 := hm.ul0
  have b2 := hm.ul1
  have b3 := hm.lim1
  have b4 := hm.on0
  unfold Mt.past
  cases hon : m.on
  · rw [hon] at h7
    clear hon b4
    go_enter Tryd.func47, Tryd.ntmps47
    go_wp2
    go_quiet (fail)
    go_wp2
    go_ret
    exact ⟨rfl, _, rfl⟩
  · rw [hon] at h7
    have b5 := b4 hon
    clear hon b4
    go_enter Tryd.func47, Tryd.ntmps47
    go_wp2
    go_quiet (fail)
    go_wp2
    go_ret
    exact ⟨by simp, _, rfl⟩
theorem new_block (w : World) (o : Obj) : Below w.heap.size w (w.alloc o) := (Below.refl _ _).alloc (Nat.le_refl _) _
theorem unit_any (a : String → Addr) (B o : Nat) (m : Mt) (hm : m.Ok) (n : Int) (w : World) (h : MAt B o m w) (hE : w.cell? ⟨10, 0, none⟩ = some (errV (a "ambler/api.ErrLimit"))) :
    Calls Tryd.prog 35 #[.pointer (some ⟨B, o, none⟩), .int .i64 n] w fun e w' => trap.Ends a (m.unitE n) e ∧ MStep B o (m.unit n) w w' := by
  have h0 := MStep.of h (Below.refl _ w)
  unfold Mt.unit Mt.unitE
  by_cases hn : n < 1
  · have d : decide (n < 1) = true := decide_eq_true hn
    rw [if_pos hn, if_pos hn]
    go_enter Tryd.func35, Tryd.ntmps35
    go_wp2
    exact bodyPost_ret (results_none rfl _ _ _) rfl ⟨.back, h0⟩
  · have d : decide (n < 1) = false := decide_eq_false hn
    rw [if_neg hn, if_neg hn]
    have c := passes_any B o m hm n w h
    cases hp : m.past n
    · rw [hp] at c
      have hu := h.units n
      obtain ⟨p2, s2⟩ := set2 (Past.refl [B] w) (Side.refl B o w) (o + 4) (o + 5) ⟨by omega, by omega⟩ ⟨by omega, by omega⟩ (.int .i64 (sm m.ua n)) (.int .i64 (sm m.ul n))
      have ca : ∀ q, Calls Tryd.prog 48 #[.pointer (some ⟨B, o + 4, none⟩), .int .i64 n] (w.drewN q) fun e w' => e = .returned (.tuple #[]) ∧ MStep B o (m.units n) w w' := fun q =>
        (add_any B (o + 4) _ _ n (w.drewN q) h.ua h.ul (h.fz _) (h.fz _)).mono fun e w' ⟨he, hw⟩ => ⟨he, by subst hw; exact (MStep.drewN ⟨p2, s2, hu⟩ q).drew⟩
      simp only [Bool.false_eq_true, if_false]
      clear hp
      go_enter Tryd.func35, Tryd.ntmps35
      go_wp2_with (first
        | (go_at_call 47; refine c.mono ?_; rintro e w' ⟨rfl, q, rfl⟩)
        | (go_at_call 48; refine (ca q).mono ?_; rintro e w' ⟨rfl, hu2⟩))
      go_end0
      exact ⟨.back, hu2⟩
    · rw [hp] at c
      simp only [if_true]
      clear hp
      go_enter Tryd.func35, Tryd.ntmps35
      go_wp2_with (first
        | (go_at_call 47; refine c.mono ?_; rintro e w' ⟨rfl, q, rfl⟩)
        | (go_at_call 30; refine (raise_err _ _).mono ?_; rintro e w' ⟨rfl, rfl⟩))
      exact ⟨rfl, .raised 10 (by decide), h0.drewN q⟩
theorem all_any (B o : Nat) (m : Mt) (w : World) (h : MAt B o m w) : Calls Tryd.prog 18 #[.pointer (some ⟨B, o, none⟩)] w fun e w' => e = .returned (.agg #[.int .i64 m.pa, .int .i64 m.va, .int .i64 m.ua]) ∧ Below w.heap.size w w' := by
  have hb := new_block w (.cells #[.int .i64 0, .int .i64 0, .int .i64 0] 56)
  have hlt := h.lt
  obtain ⟨h0, h1, h2, h3, h4, h5, h6, h7, hf⟩ := h
  go_enter Tryd.func18, Tryd.ntmps18
  go_wp2
  go_region
  all_goals
    go_wp2
    exact bodyPost_ret (v := .agg #[.int .i64 m.pa, .int .i64 m.va, .int .i64 m.ua]) (by simp [results, Tryd.results18, go_sem]) rfl ⟨rfl, below_step ((Below.refl _ _).alloc (Nat.le_refl _) _) (under.drew_below _)⟩
end Go.Proofs.YtmbdfoobnkanlaaDoor.meter
