/- Kit: several texts in one: plain facts and laws for the walks. No program is named. -/
import Derived.Below
import Derived.BigQuiet
import Derived.Deep.QuietTactic
import Derived.ProofKit
import Derived.WalkKit
import Derived.Deep.Quiet
import Derived.StillTail
import Derived.Sort.QuietIn
import Derived.TacticsInMore
import Derived.OwnWalkIn
import Derived.RangeFuncBox
import Derived.Laws.Rows

/-! ### A region that draws its order, whose operations read and whose calls read or make memory alone: one walk in the text's order. No program is named. -/
namespace Go.Proofs.YtmbdfoobnkanlaaDoor.under
open Go.RowKit

/-- a world in which all that lay in w lies as it did -/
structure Under (w : World) where
  W : World
  below : Below w.heap.size w W
instance {w : World} : Nonempty (Under w) := ⟨⟨w, Below.refl _ _⟩⟩
theorem below_step {w W W' : World} (h : Below w.heap.size w W) (h' : Below W.heap.size W W') : Below w.heap.size w W' := h.trans (h'.mono h.size)
theorem drew_below (w : World) : Below w.heap.size w w.drew := ⟨rfl, rfl, rfl, Nat.le_refl _, fun _ _ => rfl⟩
theorem Under.cell {w : World} {p : Addr} {v : Value} (h : w.cell? p = some v) (n : Under w) : n.W.cell? p = some v := (n.below.cell (World.block_lt_of_cell? w _ h)).trans h
theorem Under.block {w : World} {b : Nat} {o : Obj} (h : w.heap[b]? = some o) (n : Under w) : n.W.heap[b]? = some o := (n.below.block _ (Array.getElem?_eq_some_iff.1 h).1).trans h
variable {P : Program}
theorem wp_region_under {id : Nat} {Q : Exit → Act → World → Prop} {a : Act} {w : World} {l : List Oper} (hm : P.follows .mixedOrders = true) (hB : Region.lexB .any l.toArray = true)
    (h : wpQuiet P l.toArray (fun w' => ∃ n : Under w, w' = n.W) (fun a' => ∀ w', (∃ n : Under w, w' = n.W) → Q .normal a' w') l a) : (Code.region id l.toArray true).wp P Q a w :=
  wp_region_quiet (C := fun w' => ∃ n : Under w, w' = n.W) hm hB ⟨⟨w.drew, drew_below w⟩, rfl⟩ (by simpa using h)
/-- a call that makes memory alone -/
theorem under_call {f : FuncId} {args : Array Value} {w : World} {n : Under w} {v : Value} (h : Calls P f args n.W fun e w' => e = .returned v ∧ Below n.W.heap.size n.W w') : Calls P f args n.W fun e w'' => e = .returned v ∧ ∃ m : Under w, w'' = m.W :=
  h.mono fun _ w' ⟨he, hb⟩ => ⟨he, ⟨w', below_step n.below hb⟩, rfl⟩
/-- a call that leaves memory as it was -/
theorem under_same {f : FuncId} {args : Array Value} {w : World} {n : Under w} {v : Value} (h : Calls P f args n.W fun e w' => e = .returned v ∧ n.W = w') : Calls P f args n.W fun e w'' => e = .returned v ∧ ∃ m : Under w, w'' = m.W :=
  h.mono fun _ _ ⟨he, hb⟩ => ⟨he, n, hb.symm⟩
/-- a call that draws -/
theorem under_drew {f : FuncId} {args : Array Value} {w : World} {n : Under w} {v : Value} (h : Calls P f args n.W fun e w' => e = .returned v ∧ ∃ q, w' = n.W.drewN q) : Calls P f args n.W fun e w'' => e = .returned v ∧ ∃ m : Under w, w'' = m.W :=
  h.mono fun _ w' ⟨he, q, hb⟩ => ⟨he, ⟨w', by subst hb; exact below_step n.below ⟨rfl, rfl, rfl, Nat.le_refl _, fun _ _ => rfl⟩⟩, rfl⟩
end Go.Proofs.YtmbdfoobnkanlaaDoor.under

/-! ### What lies as it did behind a call that writes some blocks; a variable in a block of its own; what lies beside some cells. No program is named. -/
namespace Go.Proofs.YtmbdfoobnkanlaaDoor.trap
open Go.RowKit under
set_option linter.unusedSimpArgs false
set_option linter.unusedVariables false

/-- all that lay in w but the blocks of a list lies as it did -/
structure Past (d : List Nat) (w w' : World) : Prop where
  os : w'.os = w.os
  tape : w'.tape = w.tape
  output : w'.output = w.output
  size : w.heap.size ≤ w'.heap.size
  block : ∀ k, k < w.heap.size → k ∉ d → w'.heap[k]? = w.heap[k]?
theorem Past.refl (d : List Nat) (w : World) : Past d w w := ⟨rfl, rfl, rfl, Nat.le_refl _, fun _ _ _ => rfl⟩
theorem Past.trans {d : List Nat} {x y z : World} (h : Past d x y) (k : Past d y z) : Past d x z :=
  ⟨k.os.trans h.os, k.tape.trans h.tape, k.output.trans h.output, Nat.le_trans h.size k.size, fun i hi hd => (k.block i (Nat.lt_of_lt_of_le hi h.size) hd).trans (h.block i hi hd)⟩
theorem Past.of {d : List Nat} {w w' : World} (h : Below w.heap.size w w') : Past d w w' := ⟨h.os, h.tape, h.output, h.size, fun k hk _ => h.block k hk⟩
theorem Past.below {d : List Nat} {B : Nat} {w w' : World} (h : Past d w w') (hB : B ≤ w.heap.size) (hd : ∀ k ∈ d, B ≤ k) : Below B w w' :=
  ⟨h.os, h.tape, h.output, h.size, fun k hk => h.block k (Nat.lt_of_lt_of_le hk hB) fun e => absurd (hd k e) (by omega)⟩
theorem Past.nil {w w' : World} (h : Past [] w w') : Below w.heap.size w w' := h.below (Nat.le_refl _) (by simp)
/-- a store into a block of the list, or into one that is new -/
theorem Past.store {d : List Nat} {x w : World} (h : Past d x w) {p : Addr} (hp : p.block ∈ d ∨ x.heap.size ≤ p.block) (u : Value) : Past d x (w.setCell p u) :=
  ⟨h.os, h.tape, h.output, by simpa [World.setCell] using h.size, fun k hk hd => (Below.heap_setCell _ _ _ _ (by rintro rfl; rcases hp with h' | h'; exact hd h'; omega)).trans (h.block k hk hd)⟩
theorem Past.alloc {d : List Nat} {x w : World} (h : Past d x w) (o : Obj) : Past d x (w.alloc o) := h.trans (.of ((Below.refl _ w).alloc (Nat.le_refl _) o))
theorem Past.cell {d : List Nat} {w w' : World} (h : Past d w w') {b i : Nat} {v : Value} (hc : w.cell? ⟨b, i, none⟩ = some v) (hd : b ∉ d) : w'.cell? ⟨b, i, none⟩ = some v :=
  (World.cell?_of_block (w := w) (h.block b (World.block_lt_of_cell? w _ hc) hd)).trans hc
theorem Past.frozen {d : List Nat} {w w' : World} (h : Past d w w') {b i : Nat} (hb : b < w.heap.size) (hd : b ∉ d) : w'.frozen? ⟨b, i, none⟩ = w.frozen? ⟨b, i, none⟩ := World.frozen?_of_block (w := w) (h.block b hb hd)
/-- a captured variable of an integer -/
structure Var (b : Nat) (v : Value) (w : World) : Prop where
  cell : w.cell? ⟨b, 0, none⟩ = some v
  frozen : w.frozen? ⟨b, 0, none⟩ = false
theorem Var.past {b : Nat} {v : Value} {w w' : World} {d : List Nat} (h : Var b v w) (hp : Past d w w') (hd : b ∉ d) : Var b v w' :=
  ⟨hp.cell h.cell hd, (hp.frozen (World.block_lt_of_cell? w _ h.cell) hd).trans h.frozen⟩
theorem Var.lt {b : Nat} {v : Value} {w : World} (h : Var b v w) : b < w.heap.size := World.block_lt_of_cell? w _ h.cell
theorem Var.of_block {b : Nat} {v : Value} {w w' : World} (h : Var b v w) (he : w'.heap[b]? = w.heap[b]?) : Var b v w' :=
  ⟨(World.cell?_of_block (w := w) he).trans h.cell, (World.frozen?_of_block (w := w) he).trans h.frozen⟩
theorem Var.below {b : Nat} {v : Value} {w w' : World} (h : Var b v w) (hb : Below w.heap.size w w') : Var b v w' := h.of_block (hb.block b h.lt)
theorem Var.alloc {b : Nat} {v : Value} {w : World} (h : Var b v w) (o : Obj) : Var b v (w.alloc o) := h.below ((Below.refl _ w).alloc (Nat.le_refl _) o)
theorem Var.new (w : World) (v : Value) (t : TypeId) : Var w.heap.size v (w.alloc (.cells #[v] t)) := ⟨by simp, by simp [go_sem]⟩
theorem Var.set {b : Nat} {v : Value} {w : World} (h : Var b v w) (u : Value) : Var b u (w.setCell ⟨b, 0, none⟩ u) := ⟨by simp [go_sem, h.cell], by simp [go_sem, h.frozen]⟩
theorem Var.store {b c : Nat} {v u : Value} {w : World} (h : Var b v w) (hc : b ≠ c) : Var b v (w.setCell ⟨c, 0, none⟩ u) := h.of_block (Below.heap_setCell _ _ _ _ hc)
theorem below_new {w w' : World} {o : Obj} (h : Below (w.alloc o).heap.size (w.alloc o) w') : Below w.heap.size w w' := below_step ((Below.refl _ w).alloc (Nat.le_refl _) o) h

theorem Past.mono {d d' : List Nat} {w w' : World} (h : Past d w w') (hd : ∀ k ∈ d, k ∈ d') : Past d' w w' := ⟨h.os, h.tape, h.output, h.size, fun k hk hn => h.block k hk fun e => hn (hd k e)⟩
theorem Past.drew {d : List Nat} {x w : World} (h : Past d x w) : Past d x w.drew := ⟨h.os, h.tape, h.output, h.size, h.block⟩
theorem Past.drewN {d : List Nat} {x w : World} (h : Past d x w) (q : Nat) : Past d x (w.drewN q) := ⟨h.os, h.tape, h.output, h.size, h.block⟩
/-- what lies beside the n cells from o on in a block is as it was -/
structure Beside (B o n : Nat) (w w' : World) : Prop where
  cells : ∀ i, (i < o ∨ o + n ≤ i) → w'.cell? ⟨B, i, none⟩ = w.cell? ⟨B, i, none⟩
  frozen : ∀ i, w'.frozen? ⟨B, i, none⟩ = w.frozen? ⟨B, i, none⟩
theorem Beside.refl (B o n : Nat) (w : World) : Beside B o n w w := ⟨fun _ _ => rfl, fun _ => rfl⟩
theorem Beside.trans {B o n : Nat} {x y z : World} (h : Beside B o n x y) (k : Beside B o n y z) : Beside B o n x z := ⟨fun i hi => (k.cells i hi).trans (h.cells i hi), fun i => (k.frozen i).trans (h.frozen i)⟩
theorem Beside.of_block {B o n : Nat} {w w' : World} (he : w'.heap[B]? = w.heap[B]?) : Beside B o n w w' := ⟨fun _ _ => World.cell?_of_block (w := w) he, fun _ => World.frozen?_of_block (w := w) he⟩
theorem Beside.store {B o n : Nat} {x w : World} (h : Beside B o n x w) (j : Nat) (h0 : o ≤ j) (h1 : j < o + n) (u : Value) : Beside B o n x (w.setCell ⟨B, j, none⟩ u) := by
  refine h.trans ⟨fun i hi => ?_, fun i => by simp [go_sem]⟩
  exact World.cell?_setCell_other _ _ _ _ (by intro e; injection e with _ e _; omega)
theorem Beside.mono {B o n o' n' : Nat} {w w' : World} (h : Beside B o n w w') (h0 : o' ≤ o) (h1 : o + n ≤ o' + n') : Beside B o' n' w w' := ⟨fun i hi => h.cells i (by omega), h.frozen⟩
end Go.Proofs.YtmbdfoobnkanlaaDoor.trap

/-! ### A region that draws its order and ends in stores: the operations ahead of them in one walk, over a class of worlds, in the text's order; then the rest, from whatever world of the class. No program is named. -/
namespace Go.Proofs.YtmbdfoobnkanlaaDoor.tail
open Go Go.RowKit
variable {P : Program} {ops : Array Oper} {md : Region.Mode} {C : World → Prop}

/-- which of the first n operations wait for operation i, at once or by way of others -/
def ups (md : Region.Mode) (ops : Array Oper) (i : Nat) : Nat → Array Bool
  | 0 => #[]
  | n + 1 => (ups md ops i n).push (n == i || ((ops[n]?).map fun o => o.after.any fun e => Region.binds md e && (ups md ops i n).getD e.on false).getD false)
theorem ups_size (i : Nat) : ∀ n, (ups md ops i n).size = n
  | 0 => rfl
  | n + 1 => by simp [ups, ups_size i n]
theorem push_lt (x : Array Bool) (b : Bool) (t : Nat) (h : t < x.size) : (x.push b).getD t false = x.getD t false := by
  rw [Array.getD_eq_getD_getElem?, Array.getD_eq_getD_getElem?, Array.getElem?_push, if_neg (by omega)]
theorem push_eq (x : Array Bool) (b : Bool) (t : Nat) (h : x.size = t) : (x.push b).getD t false = b := by
  rw [Array.getD_eq_getD_getElem?, Array.getElem?_push, if_pos h.symm]; rfl
/-- whoever waits for i is i itself or waits for one of them -/
theorem ups_edge (i : Nat) : ∀ (n t : Nat), (ups md ops i n).getD t false = true → t = i ∨ ∃ o, ops[t]? = some o ∧ ∃ e ∈ o.after, Region.binds md e = true ∧ e.on < t ∧ ∃ m, (ups md ops i m).getD e.on false = true
  | 0, t, h => by simp [ups] at h
  | n + 1, t, h => by
    have hs := ups_size (md := md) (ops := ops) i n
    rcases Nat.lt_trichotomy t n with h' | h' | h'
    · refine ups_edge i n t ?_
      unfold ups at h
      rw [push_lt _ _ _ (by rw [hs]; exact h')] at h
      exact h
    · subst h'
      unfold ups at h
      rw [push_eq _ _ _ hs] at h
      simp only [Bool.or_eq_true, beq_iff_eq] at h
      rcases h with h | h
      · exact .inl h
      · cases ho : ops[t]? with
        | none => simp [ho] at h
        | some o =>
          rw [ho] at h
          simp only [Option.map_some, Option.getD_some] at h
          obtain ⟨e, he, hb⟩ := Array.any_eq_true'.1 h
          simp only [Bool.and_eq_true] at hb
          refine .inr ⟨o, rfl, e, he, hb.1, ?_, t, hb.2⟩
          rcases Nat.lt_or_ge e.on t with h4 | h4
          · exact h4
          · have h5 := hb.2
            rw [Array.getD_eq_getD_getElem?, Array.getElem?_eq_none (by rw [hs]; exact h4)] at h5; cases h5
    · rw [Array.getD_eq_getD_getElem?, Array.getElem?_eq_none (by rw [ups_size]; omega)] at h; simp at h
/-- what has come up has had come up what it waits for -/
def Closed (md : Region.Mode) (ops : Array Oper) (listed : Array Bool) : Prop := ∀ j oj, ops[j]? = some oj → listed.getD j false = true → ∀ e ∈ oj.after, Region.binds md e = true → listed.getD e.on false = true
theorem ups_un {i : Nat} {listed : Array Bool} (hc : Closed md ops listed) (hi : listed.getD i false = false) : ∀ (t n : Nat), (ups md ops i n).getD t false = true → listed.getD t false = false := by
  intro t
  induction t using Nat.strongRecOn with
  | _ t ih =>
    intro n h
    rcases ups_edge i n t h with rfl | ⟨o, ho, e, he, hb, hlt, m, hm⟩
    · exact hi
    · cases hl : listed.getD t false with
      | false => rfl
      | true => have := hc t o ho hl e he hb; rw [ih _ hlt m hm] at this; cases this
theorem not_ready {i t n : Nat} {listed : Array Bool} (hc : Closed md ops listed) (hi : listed.getD i false = false) (ht : (ups md ops i n).getD t false = true) (hne : t ≠ i) : t ∉ Region.ready md ops listed := by
  intro hr
  obtain ⟨_, ot, hot, hall⟩ := mem_ready.1 hr
  rcases ups_edge i n t ht with h | ⟨o, ho, e, he, hb, _, m, hm⟩
  · exact hne h
  · obtain rfl : o = ot := Option.some.inj (ho.symm.trans hot)
    have := hall e he hb
    rw [ups_un hc hi _ m hm] at this; cases this
theorem Closed.set {i : Nat} {listed : Array Bool} (hc : Closed md ops listed) (hi : i ∈ Region.ready md ops listed) : Closed md ops (listed.setIfInBounds i true) := by
  obtain ⟨_, oi, hoi, hall⟩ := mem_ready.1 hi
  intro j oj hoj hl e he hb
  by_cases hij : i = j
  · subst hij
    obtain rfl : oj = oi := Option.some.inj (hoj.symm.trans hoi)
    exact getD_set_true (hall e he hb)
  · rw [getD_set_ne false hij] at hl
    exact getD_set_true (hc j oj hoj hl e he hb)
def closedB (md : Region.Mode) (ops : Array Oper) (listed : Array Bool) : Bool :=
  (List.range ops.size).all fun j => !listed.getD j false || ((ops[j]?).map fun o => o.after.all fun e => !Region.binds md e || listed.getD e.on false).getD true
theorem closed_of {listed : Array Bool} (h : closedB md ops listed = true) : Closed md ops listed := by
  intro j oj hoj hl e he hb
  have h1 := List.all_eq_true.1 h j (List.mem_range.2 (Array.getElem?_eq_some_iff.1 hoj).1)
  rw [hl, hoj] at h1
  simp only [Bool.not_true, Bool.false_or, Option.map_some, Option.getD_some] at h1
  have h2 := Array.all_eq_true'.1 h1 e he
  rw [hb] at h2
  simpa using h2

/-- the head in whatever order -/
def wpAnyH (P : Program) (md : Region.Mode) (ops : Array Oper) (C : World → Prop) (hd : Nat → Bool) (L : Array Bool → Act → Prop) : Nat → Array Bool → Act → Prop
  | 0, listed, a => L listed a
  | f + 1, listed, a => Region.ready md ops listed ≠ [] ∧ ∀ i ∈ Region.ready md ops listed, hd i = true ∧ qOp P ops C i (wpAnyH P md ops C hd L f (listed.setIfInBounds i true)) a
theorem wpAny_of_headH {hd : Nat → Bool} {g : Nat} {L : Array Bool → Act → Prop} {Q' : Exit → Act → World → Prop} (hL : ∀ listed a, L listed a → ∀ w, C w → wpAny P md ops Q' g listed a w) :
    ∀ (f : Nat) (listed : Array Bool) (a : Act) (w : World), C w → wpAnyH P md ops C hd L f listed a → wpAny P md ops Q' (f + g) listed a w
  | 0, listed, a, w, hw, h => by rw [Nat.zero_add]; exact hL _ _ h w hw
  | f + 1, listed, a, w, hw, h => by
    rw [show f + 1 + g = (f + g) + 1 by omega]
    exact ⟨fun h0 => absurd h0 h.1, fun i hi => wpOp_of_qOp hw (fun a' w' hw' h' => wpAny_of_headH hL f _ a' w' hw' h') (h.2 i hi).2⟩
theorem wpAnyH_first {hd : Nat → Bool} {i : Nat} {oi : Oper} {v : Value} {L : Array Bool → Act → Prop} (hi : ops[i]? = some oi) (hsel : ∀ (j : Nat) (o : Oper) cs b, ops[j]? = some o → o.op ≠ .select cs b) (hin : hd i = true)
    (hdone : ∀ listed a, L listed a → ∀ j ∈ Region.ready md ops listed, hd j = false) :
    ∀ (f : Nat) (listed : Array Bool) (a : Act), Closed md ops listed → (∀ t, t < ops.size → hd t = false → listed.getD t true = false → (ups md ops i ops.size).getD t false = true) →
      (∀ j oj, ops[j]? = some oj → j ≠ i → listed.getD j true = false → (∀ e ∈ oj.after, Region.binds md e = true → e.on ≠ i) → oi.apart ops oj = true) →
      i ∈ Region.ready md ops listed → YieldsIn P ops C oi v a →
      wpAnyH P md ops C hd L f (listed.setIfInBounds i true) (a.put oi.dst v) → wpAnyH P md ops C hd L (f + 1) listed a := by
  intro f
  have key : ∀ (listed : Array Bool), Closed md ops listed → (∀ t, t < ops.size → hd t = false → listed.getD t true = false → (ups md ops i ops.size).getD t false = true) → i ∈ Region.ready md ops listed → ∀ j ∈ Region.ready md ops listed, hd j = true := by
    intro listed hc ht hr j hj
    cases hh : hd j with
    | true => rfl
    | false =>
      have hju := (mem_ready.1 hj).1
      obtain ⟨o, ho, _⟩ := (mem_ready.1 hj).2
      have hne : j ≠ i := fun e => by rw [e, hin] at hh; cases hh
      exact absurd hj (not_ready hc (getD_both (mem_ready.1 hr).1) (ht j (Array.getElem?_eq_some_iff.1 ho).1 hh hju) hne)
  induction f with
  | zero =>
    intro listed a hc ht _ hr hy H
    refine ⟨fun h => (by rw [h] at hr; cases hr), fun j hj => ?_⟩
    refine ⟨key listed hc ht hr j hj, ?_⟩
    by_cases hji : j = i
    · subst hji; exact hy.qOp hi H
    · have h1 := hdone _ _ H j (ready_mono hj hji)
      rw [key listed hc ht hr j hj] at h1; cases h1
  | succ f ih =>
    intro listed a hc ht hfree hr hy H
    refine ⟨fun h => (by rw [h] at hr; cases hr), fun j hj => ?_⟩
    refine ⟨key listed hc ht hr j hj, ?_⟩
    by_cases hji : j = i
    · subst hji; exact hy.qOp hi H
    · have h1 := (H.2 j (ready_mono hj hji)).2
      obtain ⟨hjun, oj, hoj, hall⟩ := mem_ready.1 hj
      have hnot : ∀ e ∈ oj.after, Region.binds md e = true → e.on ≠ i := fun e he hb heq => by
        have h1 := hall e he hb
        rw [heq, getD_both (mem_ready.1 hr).1] at h1
        cases h1
      have h2 := qOp_put hoj (hfree j oj hoj hji hjun hnot) (fun cs b => hsel i oi cs b hi) (fun cs b => hsel j oj cs b hoj) hy h1
      have un : ∀ k, (listed.setIfInBounds j true).getD k true = false → listed.getD k true = false := fun k hk => by
        by_cases hjk : j = k
        · subst hjk; exact hjun
        · rw [getD_set_ne true hjk] at hk; exact hk
      have hfree' : ∀ k ok, ops[k]? = some ok → k ≠ i → (listed.setIfInBounds j true).getD k true = false →
          (∀ e ∈ ok.after, Region.binds md e = true → e.on ≠ i) → oi.apart ops ok = true := fun k ok hk hki hun hno => hfree k ok hk hki (un k hun) hno
      refine qOp_mono (fun a' h3 => ih (listed.setIfInBounds j true) a' (hc.set hj) (fun t ht1 ht2 ht3 => ht t ht1 ht2 (un t ht3)) hfree' (ready_mono hr (Ne.symm hji)) h3.1 ?_) h2
      rw [Array.setIfInBounds_comm _ _ hji]
      exact h3.2

/-! ### the head, by a mask -/
/-- the marked operations -/
def sel : List Bool → List Oper → List Oper
  | true :: m, o :: r => o :: sel m r
  | false :: m, _ :: r => sel m r
  | _, _ => []
/-- what has come up behind the marked ones -/
def setAll : List Bool → Nat → Array Bool → Array Bool
  | [], _, listed => listed
  | true :: m, k, listed => setAll m (k + 1) (listed.setIfInBounds k true)
  | false :: m, k, listed => setAll m (k + 1) listed
def cnt : List Bool → Nat
  | [] => 0
  | true :: m => cnt m + 1
  | false :: m => cnt m
def headB (md : Region.Mode) (ops : Array Oper) (hd : Nat → Bool) : List Bool → Nat → Array Bool → Bool
  | [], _, listed => (Region.ready md ops listed).all fun j => !hd j
  | true :: m, k, listed => (Region.ready md ops listed).contains k && Region.free md ops listed k && hd k && ((List.range ops.size).all fun t => hd t || listed.getD t true || (ups md ops k ops.size).getD t false) && headB md ops hd m (k + 1) (listed.setIfInBounds k true)
  | false :: m, k, listed => headB md ops hd m (k + 1) listed
def checkB (md : Region.Mode) (ops : Array Oper) (m : List Bool) (listed : Array Bool) : Bool :=
  Region.noSelect ops && closedB md ops listed && decide (m.length ≤ ops.size) && headB md ops (fun t => m.getD t false) m 0 listed
theorem wpAnyH_lex {hd : Nat → Bool} {Lq : Act → Prop} {F : Array Bool} (hs : Region.noSelect ops = true) (hF : ∀ j ∈ Region.ready md ops F, hd j = false) :
    ∀ (m : List Bool) (k : Nat) (l : List Oper) (listed : Array Bool) (a : Act), (∀ j, l[j]? = ops[k + j]?) → m.length ≤ l.length → Closed md ops listed → headB md ops hd m k listed = true → setAll m k listed = F → wpQuiet P ops C Lq (sel m l) a →
    wpAnyH P md ops C hd (fun listed' a' => listed' = F ∧ Lq a') (cnt m) listed a
  | [], _, _, _, _, _, _, _, _, hset, h => ⟨hset, by cases ‹List Oper› <;> exact h⟩
  | true :: m, k, [], _, _, _, hle, _, _, _, _ => absurd hle (by simp)
  | false :: m, k, [], _, _, _, hle, _, _, _, _ => absurd hle (by simp)
  | false :: m, k, o :: l, listed, a, hl, hle, hc, hB, hset, h => by
    simp only [headB] at hB
    exact wpAnyH_lex hs hF m (k + 1) l listed a (fun j => by have := hl (j + 1); simpa [Nat.add_assoc, Nat.add_comm 1 j] using this) (by simpa using hle) hc hB (by simpa [setAll] using hset) h
  | true :: m, k, o :: l, listed, a, hl, hle, hc, hB, hset, h => by
    have h0 : ops[k]? = some o := by simpa using (hl 0).symm
    simp only [headB, Bool.and_eq_true] at hB
    obtain ⟨⟨⟨⟨hr, hf⟩, hk⟩, ht⟩, hB'⟩ := hB
    have hr' : k ∈ Region.ready md ops listed := by simpa using hr
    have hst : qOp P ops C k (wpQuiet P ops C Lq (sel m l)) a := by unfold qOp; simp only [h0]; exact h
    obtain ⟨v, hy, hK⟩ := yieldsIn_of_qOp h0 hst
    refine wpAnyH_first h0 (Region.noSelect_spec hs) hk (fun _ _ hL => by rw [hL.1]; exact hF) (cnt m) listed a hc (fun t ht1 ht2 ht3 => ?_) (Region.free_spec h0 hf) hr' hy
      (wpAnyH_lex hs hF m (k + 1) l _ _ (fun j => by have := hl (j + 1); simpa [Nat.add_assoc, Nat.add_comm 1 j] using this) (by simpa using hle) (hc.set hr') hB' (by simpa [setAll] using hset) hK)
    have h3 := List.all_eq_true.1 ht t (List.mem_range.2 ht1)
    rw [ht2, ht3] at h3
    simpa using h3
theorem headB_done {hd : Nat → Bool} : ∀ (m : List Bool) (k : Nat) (listed : Array Bool), headB md ops hd m k listed = true → ∀ j ∈ Region.ready md ops (setAll m k listed), hd j = false
  | [], k, listed, h, j, hj => by
    have := List.all_eq_true.1 h j hj
    simpa using this
  | true :: m, k, listed, h, j, hj => by
    simp only [headB, Bool.and_eq_true] at h
    exact headB_done m (k + 1) _ h.2 j hj
  | false :: m, k, listed, h, j, hj => headB_done m (k + 1) _ h j hj
/-- The marked operations in one walk, then the others. -/
theorem wpAny_head (m : List Bool) {l : List Oper} {g : Nat} {listed : Array Bool} {a : Act} {w : World} {Q' : Exit → Act → World → Prop} (hB : checkB md l.toArray m listed = true) (hC : C w)
    (h : wpQuiet P l.toArray C (fun a' => ∀ w', C w' → wpAny P md l.toArray Q' g (setAll m 0 listed) a' w') (sel m l) a) : wpAny P md l.toArray Q' (cnt m + g) listed a w := by
  simp only [checkB, Bool.and_eq_true, decide_eq_true_eq] at hB
  obtain ⟨⟨⟨hs, hc⟩, hle⟩, hh⟩ := hB
  refine wpAny_of_headH (fun listed' a' hL w' hw' => ?_) _ _ _ w hC (wpAnyH_lex hs (headB_done m 0 listed hh) m 0 l listed a (fun j => by simp) (by simpa using hle) (closed_of hc) hh rfl h)
  rw [hL.1]; exact hL.2 w' hw'
/-- The rest, where its order is forced. -/
theorem wpAny_seq {l : List Oper} (k : Nat) {listed : Array Bool} {a : Act} {w : World} {Q' : Exit → Act → World → Prop} (hB : Region.seqB md l.toArray (l.drop k).length k listed = true) (h : wpList P l.toArray Q' (l.drop k) a w) : wpAny P md l.toArray Q' (l.drop k).length listed a w :=
  wpAny_of_seq (md := md) (l.drop k) k listed a w (fun j => by simp [List.getElem?_drop]) hB h
theorem quiet_mono {K K' : Act → Prop} (hK : ∀ a, K a → K' a) : ∀ (r : List Oper) (a : Act), wpQuiet P ops C K r a → wpQuiet P ops C K' r a
  | [], a, h => hK a h
  | o :: r, a, h => by
    simp only [wpQuiet] at h ⊢
    split
    · rename_i hw; rw [if_pos hw] at h; exact Oper.quiet_mono (quiet_mono hK r) h
    · rename_i hw; rw [if_neg hw] at h; exact quiet_mono hK r _ h
theorem sel_all : ∀ (k : Nat) (l : List Oper), sel (List.replicate k true) l = l.take k
  | 0, l => by cases l <;> rfl
  | k + 1, [] => rfl
  | k + 1, o :: l => by simp [List.replicate_succ, sel, sel_all k l]
theorem wpAny_rest {l : List Oper} (k : Nat) {g : Nat} {listed : Array Bool} {a : Act} {w : World} {Q' : Exit → Act → World → Prop} (hg : (l.drop k).length = g) (hB : Region.seqB md l.toArray g k listed = true) (h : wpList P l.toArray Q' (l.drop k) a w) : wpAny P md l.toArray Q' g listed a w := by
  subst hg; exact wpAny_seq k hB h
/-- A region whose first marked operations are quiet in a class of worlds, and whose last ones, from number k on, come in the text's order. -/
theorem wp_region_tail {id : Nat} {Q : Exit → Act → World → Prop} {a : Act} {w : World} {l : List Oper} (k : Nat) (hm : P.follows .mixedOrders = true) (hB : (checkB .any l.toArray (List.replicate k true) (Array.replicate l.length false) && decide (k ≤ l.length) && Region.seqB .any l.toArray (l.drop k).length k (setAll (List.replicate k true) 0 (Array.replicate l.length false))) = true)
    (hC : C w.drew) (h : wpQuiet P l.toArray C (fun a' => ∀ w', C w' → wpList P l.toArray Q (l.drop k) a' w') (l.take k) a) : (Code.region id l.toArray true).wp P Q a w := by
  simp only [Bool.and_eq_true, decide_eq_true_eq] at hB
  obtain ⟨⟨h1, h2⟩, h3⟩ := hB
  refine wp_region_any hm ?_
  have hcnt : ∀ k, cnt (List.replicate k true) = k := fun k => by induction k with | zero => rfl | succ k ih => simp [List.replicate_succ, cnt, ih]
  have H := wpAny_head (P := P) (md := .any) (C := C) (Q' := Q) (g := (l.drop k).length) (List.replicate k true) (l := l) (listed := Array.replicate l.length false) (a := a) (w := w.drew) h1 hC ?_
  · rw [hcnt, show k + (l.drop k).length = l.length by simp; omega] at H
    simpa using H
  · rw [sel_all]; exact quiet_mono (fun a' ha w' hw' => wpAny_seq k h3 (ha w' hw')) _ _ h
/-! ### what lies below, step by step: for 'repeat' at a walk's end -/
theorem bset {B : Nat} {x w : World} (h : Below B x w) (b i : Nat) (hb : B ≤ b) (u : Value) : Below B x (w.setCell ⟨b, i, none⟩ u) := h.setCell (p := ⟨b, i, none⟩) hb u
theorem bdrewN {B : Nat} {x w : World} (h : Below B x w) (n : Nat) : Below B x (w.drewN n) := h.trans ⟨rfl, rfl, rfl, Nat.le_refl _, fun _ _ => rfl⟩
theorem bdrew {B : Nat} {x w : World} (h : Below B x w) : Below B x w.drew := h.drew
theorem balloc {B : Nat} {x w : World} (h : Below B x w) (hB : B ≤ w.heap.size) (o : Obj) : Below B x (w.alloc o) := h.alloc hB o
/-- The same at the class of worlds behind some draws, and at that of worlds in which all that lay there lies as it did. -/
theorem wp_region_tail_drew {id : Nat} {Q : Exit → Act → World → Prop} {a : Act} {w : World} {l : List Oper} (k : Nat) (hm : P.follows .mixedOrders = true) (hB : (checkB .any l.toArray (List.replicate k true) (Array.replicate l.length false) && decide (k ≤ l.length) && Region.seqB .any l.toArray (l.drop k).length k (setAll (List.replicate k true) 0 (Array.replicate l.length false))) = true)
    (h : wpQuiet P l.toArray (fun w' => ∃ n, w' = w.drewN n) (fun a' => ∀ w', (∃ n, w' = w.drewN n) → wpList P l.toArray Q (l.drop k) a' w') (l.take k) a) : (Code.region id l.toArray true).wp P Q a w :=
  wp_region_tail (C := fun w' => ∃ n, w' = w.drewN n) k hm hB ⟨1, rfl⟩ h
theorem wp_region_tail_under {id : Nat} {Q : Exit → Act → World → Prop} {a : Act} {w : World} {l : List Oper} (k : Nat) (hm : P.follows .mixedOrders = true) (hB : (checkB .any l.toArray (List.replicate k true) (Array.replicate l.length false) && decide (k ≤ l.length) && Region.seqB .any l.toArray (l.drop k).length k (setAll (List.replicate k true) 0 (Array.replicate l.length false))) = true)
    (h : wpQuiet P l.toArray (fun w' => ∃ n : under.Under w, w' = n.W) (fun a' => ∀ w', (∃ n : under.Under w, w' = n.W) → wpList P l.toArray Q (l.drop k) a' w') (l.take k) a) : (Code.region id l.toArray true).wp P Q a w :=
  wp_region_tail (C := fun w' => ∃ n : under.Under w, w' = n.W) k hm hB ⟨⟨w.drew, under.drew_below w⟩, rfl⟩ h
end Go.Proofs.YtmbdfoobnkanlaaDoor.tail

/-! ### A region that draws its order and whose calls write, one behind the other: one walk in the text's order serves every order, over worlds that have stages. A call leads from its stage to the next one; every other operation yields one value in the worlds of all stages, and leaves them as they are. No program is named. -/
namespace Go.Proofs.YtmbdfoobnkanlaaDoor.stage
open Go Go.RowKit
variable {P : Program} {ops : Array Oper} {md : Region.Mode} {D : Nat → World → Prop}

/-- a world of some stage -/
structure Un (D : Nat → World → Prop) where
  s : Nat
  W : World
  h : D s W
def pureUpon (w : World) (v : Value) : Result Next → Prop
  | .ok (.value u) w' => w' = w ∧ u = v
  | .ok .skip w' => w' = w ∧ v = undef
  | _ => False
def callUpon (P : Program) (C : World → Prop) (w : World) (v : Value) : Result Next → Prop
  | .ok (.enter f args) w' => w' = w ∧ Calls P f args w fun e w'' => e = .returned v ∧ C w''
  | _ => False
/-- an operation that is no call: one value in all stages -/
def YP (P : Program) (ops : Array Oper) (D : Nat → World → Prop) (o : Oper) (v : Value) (a : Act) : Prop :=
  (Region.wanted o (yielded ops a.tmps) = true ∧ ∀ w, (∃ n : Un D, w = n.W) → pureUpon w v ((execOp a.eval o).run P w)) ∨ (Region.wanted o (yielded ops a.tmps) = false ∧ v = undef)
/-- a call from a stage to the next one -/
def YC (P : Program) (ops : Array Oper) (D : Nat → World → Prop) (s : Nat) (o : Oper) (v : Value) (a : Act) : Prop :=
  Region.wanted o (yielded ops a.tmps) = true ∧ ∀ w, D s w → callUpon P (D (s + 1)) w v ((execOp a.eval o).run P w)
def Y (P : Program) (ops : Array Oper) (D : Nat → World → Prop) (m : Bool) (s : Nat) (o : Oper) (v : Value) (a : Act) : Prop := if m = true then YC P ops D s o v a else YP P ops D o v a
theorem Y.move {m : Bool} {s s' : Nat} {o : Oper} {v : Value} {a a' : Act} (h : Y P ops D m s o v a) (hs : m = true → s' = s) (he : execOp a'.eval o = execOp a.eval o) (hw : Region.wanted o (yielded ops a'.tmps) = Region.wanted o (yielded ops a.tmps)) : Y P ops D m s' o v a' := by
  cases m
  · simp only [Y, YP, Bool.false_eq_true, if_false] at h ⊢; rw [he, hw]; exact h
  · simp only [Y, YC, if_true] at h ⊢; rw [he, hw, hs rfl]; exact h
/-- what comes of every order from here on -/
def wpS (P : Program) (md : Region.Mode) (ops : Array Oper) (D : Nat → World → Prop) (mk : Nat → Bool) (Q : Act → Nat → Prop) : Nat → Array Bool → Act → Nat → Prop
  | 0, listed, a, s => Region.ready md ops listed = [] ∧ Q a s
  | f + 1, listed, a, s => (Region.ready md ops listed = [] → Q a s) ∧
    ∀ i ∈ Region.ready md ops listed, ∃ o v, ops[i]? = some o ∧ Y P ops D (mk i) s o v a ∧ wpS P md ops D mk Q f (listed.setIfInBounds i true) (a.put o.dst v) (s + (mk i).toNat)
theorem wpOp_of_Y {m : Bool} {s i : Nat} {o : Oper} {v : Value} {a : Act} {w : World} {K : Act → World → Prop} {Q' : Exit → Act → World → Prop} (hi : ops[i]? = some o) (hy : Y P ops D m s o v a) (hD : D s w) (hK : ∀ w', D (s + m.toNat) w' → K (a.put o.dst v) w') : wpOp P ops Q' i K a w := by
  unfold wpOp
  simp only [hi]
  cases m
  · simp only [Y, YP, Bool.false_eq_true, if_false] at hy
    rcases hy with ⟨hw, h⟩ | ⟨hw, rfl⟩
    · simp only [hw, if_true]
      refine .inl ?_
      have h3 := h w ⟨⟨s, w, hD⟩, rfl⟩
      unfold Oper.wp
      generalize (execOp a.eval o).run P w = r at *
      cases r with
      | halt x w' => exact h3.elim
      | ok n w' =>
        cases n <;> simp only [pureUpon] at h3 <;> simp only [Oper.upon]
        case value u => obtain ⟨e1, e2⟩ := h3; rw [e1, e2]; exact hK _ hD
        case skip => obtain ⟨e1, e2⟩ := h3; rw [e1, ← e2]; exact hK _ hD
    · simp only [hw, Bool.false_eq_true, if_false]; exact hK _ hD
  · simp only [Y, YC, if_true] at hy
    obtain ⟨hw, h⟩ := hy
    simp only [hw, if_true]
    refine .inl ?_
    have h3 := h w hD
    unfold Oper.wp
    generalize (execOp a.eval o).run P w = r at *
    cases r with
    | halt x w' => exact h3.elim
    | ok n w' =>
      cases n <;> simp only [callUpon] at h3 <;> simp only [Oper.upon]
      case enter f args =>
        obtain ⟨e1, hc⟩ := h3
        rw [e1]
        exact hc.mono fun e w'' ⟨he, hw''⟩ => by subst he; exact hK _ hw''
theorem wpAny_of_S {mk : Nat → Bool} {Q : Act → Nat → Prop} {Q' : Exit → Act → World → Prop} (hQ : ∀ a w s, D s w → Q a s → Q' .normal a w) : ∀ (f : Nat) (listed : Array Bool) (a : Act) (s : Nat) (w : World), D s w → wpS P md ops D mk Q f listed a s → wpAny P md ops Q' f listed a w
  | 0, _, _, _, _, hw, h => ⟨h.1, hQ _ _ _ hw h.2⟩
  | f + 1, _, _, _, _, hw, h => ⟨fun h0 => hQ _ _ _ hw (h.1 h0), fun i hi => by
      obtain ⟨o, v, ho, hy, hK⟩ := h.2 i hi
      exact wpOp_of_Y ho hy hw fun w' hw' => wpAny_of_S hQ f _ _ _ w' hw' hK⟩
/-- whoever may come now may come first -/
theorem wpS_first {mk : Nat → Bool} {Q : Act → Nat → Prop} {i : Nat} {oi : Oper} {v : Value} (hi : ops[i]? = some oi) (hsel : ∀ (j : Nat) (o : Oper) cs b, ops[j]? = some o → o.op ≠ .select cs b)
    (hch : mk i = true → ∀ j oj, ops[j]? = some oj → mk j = true → i < j → ∃ e ∈ oj.after, Region.binds md e = true ∧ e.on = i) :
    ∀ (f : Nat) (listed : Array Bool) (a : Act) (s : Nat), (mk i = true → ∀ j, j < i → mk j = true → listed.getD j true = true) →
      (∀ j oj, ops[j]? = some oj → j ≠ i → listed.getD j true = false → (∀ e ∈ oj.after, Region.binds md e = true → e.on ≠ i) → oi.apart ops oj = true) →
      i ∈ Region.ready md ops listed → Y P ops D (mk i) s oi v a →
      wpS P md ops D mk Q f (listed.setIfInBounds i true) (a.put oi.dst v) (s + (mk i).toNat) → wpS P md ops D mk Q (f + 1) listed a s := by
  intro f
  induction f with
  | zero =>
    intro listed a s _ _ hr hy H
    refine ⟨fun h => (by rw [h] at hr; cases hr), fun j hj => ?_⟩
    by_cases hji : j = i
    · subst hji; exact ⟨oi, v, hi, hy, H⟩
    · have h1 := ready_mono hj hji
      rw [H.1] at h1; cases h1
  | succ f ih =>
    intro listed a s hbe hfree hr hy H
    refine ⟨fun h => (by rw [h] at hr; cases hr), fun j hj => ?_⟩
    by_cases hji : j = i
    · subst hji; exact ⟨oi, v, hi, hy, H⟩
    · obtain ⟨oj, u, hoj, hyj, hK⟩ := H.2 j (ready_mono hj hji)
      obtain ⟨hjun, oj', hoj', hall⟩ := mem_ready.1 hj
      obtain rfl : oj = oj' := Option.some.inj (hoj.symm.trans hoj')
      have hiun := (mem_ready.1 hr).1
      have hnot : ∀ e ∈ oj.after, Region.binds md e = true → e.on ≠ i := fun e he hb heq => by
        have h1 := hall e he hb
        rw [heq] at h1
        rcases Nat.lt_or_ge i listed.size with h' | h'
        · simp [h'] at hiun h1; rw [hiun] at h1; cases h1
        · simp [Array.getElem?_eq_none h'] at h1
      have hap := hfree j oj hoj hji hjun hnot
      obtain ⟨p1, p2, p3⟩ := Oper.apart_spec hap
      have one : mk i = true → mk j = false := fun hmi => by
        cases hmj : mk j with
        | false => rfl
        | true =>
          rcases Nat.lt_or_ge i j with hl | hl
          · obtain ⟨e, he, hb, hon⟩ := hch hmi j oj hoj hmj hl
            exact absurd hon (hnot e he hb)
          · have := hbe hmi j (by omega) hmj
            rw [hjun] at this; cases this
      have hyj' : Y P ops D (mk j) s oj u a := hyj.move (fun hmj => by
          cases hmi : mk i with
          | false => rfl
          | true => rw [one hmi] at hmj; cases hmj) (execOp_put oj (fun cs b => hsel j oj cs b hoj) a oi.dst v p1).symm (wanted_put oj a oi.dst v p1).symm
      refine ⟨oj, u, hoj, hyj', ?_⟩
      have un : ∀ k, (listed.setIfInBounds j true).getD k true = false → listed.getD k true = false := fun k hk => by
        by_cases hjk : j = k
        · subst hjk; exact hjun
        · rw [getD_set_ne true hjk] at hk; exact hk
      refine ih (listed.setIfInBounds j true) (a.put oj.dst u) (s + (mk j).toNat) (fun hmi k hk hmk => ?_) (fun k ok hk hki hun hno => hfree k ok hk hki (un k hun) hno) (ready_mono hr (Ne.symm hji)) (hy.move (fun hmi => by rw [one hmi]; rfl) (execOp_put oi (fun cs b => hsel i oi cs b hi) a oj.dst u p3) (wanted_put oi a oj.dst u p3)) ?_
      · cases hx : (listed.setIfInBounds j true).getD k true with
        | true => rfl
        | false =>
          have h1 := hbe hmi k hk hmk
          rw [un k hx] at h1; cases h1
      · rw [Array.setIfInBounds_comm _ _ hji, ← Act.put_comm a v u p2, Nat.add_right_comm]
        exact hK
/-- the walk in the text's order; from k on -/
def wpT (P : Program) (ops : Array Oper) (D : Nat → World → Prop) (Q : Act → Nat → Prop) : List Bool → List Oper → Act → Nat → Prop
  | _, [], a, s => Q a s
  | true :: m, o :: r, a, s => ∃ v, YC P ops D s o v a ∧ wpT P ops D Q m r (a.put o.dst v) (s + 1)
  | false :: m, o :: r, a, s => ∃ v, YP P ops D o v a ∧ wpT P ops D Q m r (a.put o.dst v) s
  | [], _ :: _, _, _ => False
/-- the calls wait for one another -/
def chainB (md : Region.Mode) (ops : Array Oper) (m : List Bool) : Bool :=
  (List.range ops.size).all fun i => !(m.getD i false) || (List.range ops.size).all fun j => !(m.getD j false) || !(decide (i < j)) || match ops[j]? with
    | some oj => oj.after.any fun e => Region.binds md e && e.on == i
    | none => true
theorem wpS_lex {mk : Nat → Bool} {Q : Act → Nat → Prop} (hs : Region.noSelect ops = true) (hch : ∀ i, mk i = true → ∀ j oj, ops[j]? = some oj → mk j = true → i < j → ∃ e ∈ oj.after, Region.binds md e = true ∧ e.on = i) :
    ∀ (l : List Oper) (m : List Bool) (k : Nat) (listed : Array Bool) (a : Act) (s : Nat), (∀ j, l[j]? = ops[k + j]?) → (∀ j, j < l.length → m[j]? = some (mk (k + j))) → (∀ j, j < k → listed.getD j true = true) → Region.lexFrom md ops l.length k listed = true →
    wpT P ops D Q m l a s → wpS P md ops D mk Q l.length listed a s
  | [], m, _, _, _, _, _, _, _, hB, h => ⟨by simpa [Region.lexFrom] using hB, by cases m <;> simpa [wpT] using h⟩
  | o :: l, m, k, listed, a, s, hl, hm, hbe, hB, h => by
    have h0 : ops[k]? = some o := by simpa using (hl 0).symm
    simp only [List.length_cons, Region.lexFrom, Bool.and_eq_true] at hB
    obtain ⟨⟨hr, hf⟩, hB'⟩ := hB
    have hm0 := hm 0 (by simp)
    have hbe' : ∀ j, j < k + 1 → (listed.setIfInBounds k true).getD j true = true := fun j hj => by
      by_cases hjk : k = j
      · subst hjk
        rcases Nat.lt_or_ge k listed.size with h' | h'
        · simp [h']
        · simp [h']
      · rw [getD_set_ne true hjk]; exact hbe j (by omega)
    have hl' : ∀ j, l[j]? = ops[k + 1 + j]? := fun j => by have := hl (j + 1); simpa [Nat.add_assoc, Nat.add_comm 1 j] using this
    match m, hm0, hm, h with
    | [], hm0, _, _ => simp at hm0
    | b :: m, hm0, hm, h =>
      have hb : b = mk k := by simpa using hm0
      have hm' : ∀ j, j < l.length → m[j]? = some (mk (k + 1 + j)) := fun j hj => by have := hm (j + 1) (by simpa using hj); simpa [Nat.add_assoc, Nat.add_comm 1 j] using this
      cases b with
      | true =>
        obtain ⟨v, hy, hK⟩ := h
        refine wpS_first h0 (Region.noSelect_spec hs) (hch k) l.length listed a s (fun _ j hj _ => hbe j hj) (Region.free_spec h0 hf) (by simpa using hr) (v := v) (by rw [← hb]; simpa [Y] using hy) ?_
        rw [← hb]
        exact wpS_lex hs hch l m (k + 1) _ _ _ hl' hm' hbe' hB' hK
      | false =>
        obtain ⟨v, hy, hK⟩ := h
        refine wpS_first h0 (Region.noSelect_spec hs) (hch k) l.length listed a s (fun _ j hj _ => hbe j hj) (Region.free_spec h0 hf) (by simpa using hr) (v := v) (by rw [← hb]; simpa [Y] using hy) ?_
        rw [← hb]
        exact wpS_lex hs hch l m (k + 1) _ _ _ hl' hm' hbe' hB' hK
/-- A region whose calls, marked in m, lead from stage to stage. -/
theorem wp_region_stages {id : Nat} {Q : Exit → Act → World → Prop} {a : Act} {w : World} {l : List Oper} (m : List Bool) (hm : P.follows .mixedOrders = true) (hB : (Region.lexB .any l.toArray && chainB .any l.toArray m && m.length == l.length) = true) (hC : D 0 w.drew)
    (h : wpT P l.toArray D (fun a' s => ∀ w', D s w' → Q .normal a' w') m l a 0) : (Code.region id l.toArray true).wp P Q a w := by
  simp only [Region.lexB, Bool.and_eq_true, beq_iff_eq] at hB
  obtain ⟨⟨⟨hs, hx⟩, hc⟩, hlen⟩ := hB
  refine wp_region_any hm (wpAny_of_S (D := D) (mk := fun k => m.getD k false) (Q := fun a' s => ∀ w', D s w' → Q .normal a' w') (fun _ w' _ hw' h => h w' hw') _ _ _ 0 _ hC ?_)
  have := wpS_lex (P := P) (D := D) (md := .any) (mk := fun k => m.getD k false) (Q := fun a' s => ∀ w', D s w' → Q .normal a' w') hs (fun i hi j oj hoj hj hij => ?_) l m 0 (Array.replicate l.toArray.size false) a 0 (by simp) (fun j hj => by simp [List.getD_eq_getElem?_getD, List.getElem?_eq_getElem (show j < m.length by omega)]) (fun j hj => by omega) (by simpa using hx) h
  · simpa using this
  · have hjl : j < l.toArray.size := (Array.getElem?_eq_some_iff.1 hoj).1
    have h1 := List.all_eq_true.1 hc i (List.mem_range.2 (by omega))
    have hi' : m.getD i false = true := hi
    rw [hi'] at h1
    simp only [Bool.not_true, Bool.false_or] at h1
    have h2 := List.all_eq_true.1 h1 j (List.mem_range.2 hjl)
    have hj' : m.getD j false = true := hj
    rw [hj', decide_eq_true hij, hoj] at h2
    simp only [Bool.not_true, Bool.false_or] at h2
    obtain ⟨e, he, hb⟩ := Array.any_eq_true'.1 h2
    simp only [Bool.and_eq_true, beq_iff_eq] at hb
    exact ⟨e, he, hb.1, hb.2⟩
/-! ### the walk, step by step -/
theorem nil_step {Q : Act → Nat → Prop} {m : List Bool} {a : Act} {s : Nat} (h : Q a s) : wpT P ops D Q m [] a s := by cases m <;> exact h
theorem pure_step {Q : Act → Nat → Prop} {m : List Bool} {o : Oper} {r : List Oper} {a : Act} {s : Nat}
    (h : ∀ K : Act → Prop, (∀ a, wpT P ops D Q m r a s → K a) → if Region.wanted o (yielded ops a.tmps) then (∃ v, (∀ n : Un D, pureUpon n.W v ((execOp a.eval o).run P n.W)) ∧ K (a.put o.dst v)) else K (a.put o.dst undef)) : wpT P ops D Q (false :: m) (o :: r) a s := by
  have h' := h _ fun _ h => h
  by_cases hw : Region.wanted o (yielded ops a.tmps) = true
  · simp only [hw, if_true] at h'
    obtain ⟨v, h1, h2⟩ := h'
    exact ⟨v, .inl ⟨hw, fun w ⟨n, e⟩ => by subst e; exact h1 n⟩, h2⟩
  · simp only [hw, Bool.false_eq_true, if_false] at h'
    exact ⟨undef, .inr ⟨by simpa using hw, rfl⟩, h'⟩
theorem call_step {Q : Act → Nat → Prop} {m : List Bool} {o : Oper} {r : List Oper} {a : Act} {s : Nat} {v : Value} (hw : Region.wanted o (yielded ops a.tmps) = true) (h1 : ∀ w, D s w → callUpon P (D (s + 1)) w v ((execOp a.eval o).run P w))
    (h : ∀ K : Act → Prop, (∀ a, wpT P ops D Q m r a (s + 1) → K a) → K (a.put o.dst v)) : wpT P ops D Q (true :: m) (o :: r) a s := ⟨v, ⟨hw, h1⟩, h _ fun _ h => h⟩
/-- three stages: ahead of two calls, between them, behind them -/
def D3 (W0 : World) (S1 S2 : World → Prop) : Nat → World → Prop
  | 0 => fun w => w = W0
  | 1 => S1
  | _ => S2
theorem D3.all {W0 : World} {S1 S2 : World → Prop} {p : World → Prop} (h0 : p W0) (h1 : ∀ w, S1 w → p w) (h2 : ∀ w, S2 w → p w) (n : Un (D3 W0 S1 S2)) : p n.W := by
  obtain ⟨s, w, h⟩ := n
  match s, h with
  | 0, h => cases h; exact h0
  | 1, h => exact h1 w h
  | s + 2, h => exact h2 w h
/-- two stages: ahead of a call, behind it -/
def D2 (W0 : World) (S1 : World → Prop) : Nat → World → Prop
  | 0 => fun w => w = W0
  | _ => S1
theorem D2.all {W0 : World} {S1 : World → Prop} {p : World → Prop} (h0 : p W0) (h1 : ∀ w, S1 w → p w) (n : Un (D2 W0 S1)) : p n.W := by
  obtain ⟨s, w, h⟩ := n
  match s, h with
  | 0, h => cases h; exact h0
  | s + 1, h => exact h1 w h
/-- two calls, one behind the other, of what each leaves: their stages -/
theorem pair {W0 : World} {f g : FuncId} {x y : Array Value} {v u : Value} {S1 S2 : World → Prop} (c1 : Calls P f x W0 fun e w' => e = .returned v ∧ S1 w') (c2 : ∀ w, S1 w → Calls P g y w fun e w' => e = .returned u ∧ S2 w') :
    ∃ D : Nat → World → Prop, D 0 W0 ∧ (∀ w, D 0 w → Calls P f x w fun e w' => e = .returned v ∧ D 1 w') ∧ (∀ w, D 1 w → Calls P g y w fun e w' => e = .returned u ∧ D 2 w') ∧ (∀ w, D 2 w → S2 w) ∧
      (∀ p : World → Prop, p W0 → (∀ w, S1 w → p w) → (∀ w, S2 w → p w) → ∀ q : Un D, p q.W) ∧ Nonempty (Un D) :=
  ⟨D3 W0 S1 S2, rfl, fun w h => by cases h; exact c1, c2, fun _ h => h, fun p h0 h1 h2 => D3.all h0 h1 h2, ⟨⟨0, W0, rfl⟩⟩⟩
/-- one call: its stages -/
theorem one {W0 : World} {f : FuncId} {x : Array Value} {v : Value} {S1 : World → Prop} (c1 : Calls P f x W0 fun e w' => e = .returned v ∧ S1 w') :
    ∃ D : Nat → World → Prop, D 0 W0 ∧ (∀ w, D 0 w → Calls P f x w fun e w' => e = .returned v ∧ D 1 w') ∧ (∀ w, D 1 w → S1 w) ∧ (∀ p : World → Prop, p W0 → (∀ w, S1 w → p w) → ∀ q : Un D, p q.W) ∧ Nonempty (Un D) :=
  ⟨D2 W0 S1, rfl, fun w h => by cases h; exact c1, fun _ h => h, fun p h0 h1 => D2.all h0 h1, ⟨⟨0, W0, rfl⟩⟩⟩
end Go.Proofs.YtmbdfoobnkanlaaDoor.stage

/-! ### A region that draws its order, IN A ROUND of a range over a function: its operations read (or call what reads), none is a defer statement: one walk in the text's order. And such a region that ends in stores. No program is named. -/
namespace Go.Proofs.YtmbdfoobnkanlaaDoor.inround
open Go Go.RowKit tail
variable {F : Fence} {n : Nat} {P : Program} {ops : Array Oper} {md : Region.Mode} {C : World → Prop}

/-- no operation defers -/
def noDefer (ops : Array Oper) : Bool := ops.toList.all fun o => match o.op with | .defer _ => false | _ => true
theorem noDefer_at {i : Nat} {o : Oper} (h : noDefer ops = true) (ho : ops[i]? = some o) (c : _) : o.op ≠ .defer c := fun e => by
  have h1 := List.all_eq_true.1 h o (Array.mem_toList_iff.2 (Array.mem_of_getElem? ho))
  simp [e] at h1
theorem of_quiet {o : Oper} {a : Act} {K : Act → Prop} {K' : Act → World → Prop} {Q' : Exit → Act → World → Prop} {w : World} (hnd : ∀ c, o.op ≠ .defer c) (hw : C w) (h : ∀ a w', C w' → K a → K' a w')
    (ha : o.askedIn F P a C) (hh : o.quietIn F n P a C K) : o.wpIn F n P a w K' Q' := by
  obtain ⟨v, h1, h2⟩ := hh
  have h3 := h1 w hw
  unfold Oper.quietAtIn at h3
  refine ⟨ha w hw, ?_⟩
  rw [Oper.semAt_eq _ _ _ hnd]
  generalize (execOp a.eval o).run P w = r at *
  match r, h3 with
  | .ok (.value u) w', h3 => obtain ⟨e1, e2⟩ := h3; subst e1; subst e2; exact h _ _ hw h2
  | .ok .skip w', h3 => obtain ⟨e1, e2⟩ := h3; subst e1; subst e2; exact h _ _ hw h2
  | .ok (.enter f args) w', h3 =>
    obtain ⟨e1, hd, hc⟩ := h3
    subst e1
    exact ⟨hd, hc.mono fun e w'' ⟨he, hw''⟩ => by subst he; exact h _ _ hw'' h2⟩
theorem at_quiet {i : Nat} {a : Act} {K : Act → Prop} {K' : Act → World → Prop} {Q' : Exit → Act → World → Prop} {w : World} (hnd : noDefer ops = true) (hC : C w) (h : ∀ a w', C w' → K a → K' a w')
    (hh : qOpIn F n P ops C i K a) : wpOpIn F n P ops Q' i K' a w := by
  unfold qOpIn at hh
  unfold wpOpIn
  split
  · rename_i ho; simp only [ho] at hh; exact h _ _ hC hh
  · rename_i o ho
    simp only [ho] at hh
    obtain ⟨ha, hh⟩ := hh
    split
    · rename_i hw; simp only [hw, if_true] at hh; exact of_quiet (noDefer_at hnd ho) hC h ha hh
    · rename_i hw; simp only [hw] at hh; exact ⟨ha w hC, h _ _ hC hh⟩
theorem any_quiet {Q : Act → Prop} {Q' : Exit → Act → World → Prop} (hnd : noDefer ops = true) (hQ : ∀ a w, C w → Q a → Q' .normal a w) : ∀ (fuel : Nat) (listed : Array Bool) (a : Act) (w : World), C w →
    wpAnyQIn F n P md ops C Q fuel listed a → wpAnyIn F n P md ops Q' fuel listed a w
  | 0, _, _, _, hw, h => ⟨h.1, hQ _ _ hw h.2⟩
  | fuel + 1, _, _, _, hw, h => ⟨fun h0 => hQ _ _ hw (h.1 h0), fun i hi => at_quiet hnd hw (fun a' w' hw' => any_quiet hnd hQ fuel _ a' w' hw') (h.2 i hi)⟩
/-- the region, at the class of worlds behind some draws -/
theorem region {id : Nat} {Q : Exit → Act → World → Prop} {a : Act} {w : World} {l : List Oper} (hnd : noDefer l.toArray = true) (hm : P.follows .mixedOrders = true) (hB : Region.lexB .any l.toArray = true)
    (h : wpQuietIn F n P l.toArray (fun w' => ∃ n, w' = w.drewN n) (fun a' => ∀ w', (∃ n, w' = w.drewN n) → Q .normal a' w') l a) : (Code.region id l.toArray true).wpIn F n P Q a w := by
  simp only [Region.lexB, Bool.and_eq_true] at hB
  refine wpIn_region_any hm (any_quiet (Q := fun a' => ∀ w', (∃ n, w' = w.drewN n) → Q .normal a' w') hnd (fun _ w' hw' h => h w' hw') _ _ _ _ ⟨1, rfl⟩ ?_)
  have := wpAnyQIn_lex (F := F) (n := n) (C := fun w' => ∃ n, w' = w.drewN n) (md := .any) hB.1 l 0 (Array.replicate l.toArray.size false) a (by simp) (by simpa using hB.2) h
  simpa using this
/-! ### a head that reads, then stores -/
/-- the head in whatever order -/
def wpAnyHIn (F : Fence) (n : Nat) (P : Program) (md : Region.Mode) (ops : Array Oper) (C : World → Prop) (hd : Nat → Bool) (L : Array Bool → Act → Prop) : Nat → Array Bool → Act → Prop
  | 0, listed, a => L listed a
  | f + 1, listed, a => Region.ready md ops listed ≠ [] ∧ ∀ i ∈ Region.ready md ops listed, hd i = true ∧ qOpIn F n P ops C i (wpAnyHIn F n P md ops C hd L f (listed.setIfInBounds i true)) a
theorem wpAnyIn_of_headH {hd : Nat → Bool} {g : Nat} {L : Array Bool → Act → Prop} {Q' : Exit → Act → World → Prop} (hnd : noDefer ops = true) (hL : ∀ listed a, L listed a → ∀ w, C w → wpAnyIn F n P md ops Q' g listed a w) :
    ∀ (f : Nat) (listed : Array Bool) (a : Act) (w : World), C w → wpAnyHIn F n P md ops C hd L f listed a → wpAnyIn F n P md ops Q' (f + g) listed a w
  | 0, listed, a, w, hw, h => by rw [Nat.zero_add]; exact hL _ _ h w hw
  | f + 1, listed, a, w, hw, h => by
    rw [show f + 1 + g = (f + g) + 1 by omega]
    exact ⟨fun h0 => absurd h0 h.1, fun i hi => at_quiet hnd hw (fun a' w' hw' h' => wpAnyIn_of_headH hnd hL f _ a' w' hw' h') (h.2 i hi).2⟩
theorem wpAnyHIn_first {hd : Nat → Bool} {i : Nat} {oi : Oper} {v : Value} {L : Array Bool → Act → Prop} (hi : ops[i]? = some oi) (hsel : ∀ (j : Nat) (o : Oper) cs b, ops[j]? = some o → o.op ≠ .select cs b) (hin : hd i = true)
    (hdone : ∀ listed a, L listed a → ∀ j ∈ Region.ready md ops listed, hd j = false) :
    ∀ (f : Nat) (listed : Array Bool) (a : Act), Closed md ops listed → (∀ t, t < ops.size → hd t = false → listed.getD t true = false → (ups md ops i ops.size).getD t false = true) →
      (∀ j oj, ops[j]? = some oj → j ≠ i → listed.getD j true = false → (∀ e ∈ oj.after, Region.binds md e = true → e.on ≠ i) → oi.apart ops oj = true) →
      i ∈ Region.ready md ops listed → YieldsQuiet F n P ops C oi v a →
      wpAnyHIn F n P md ops C hd L f (listed.setIfInBounds i true) (a.put oi.dst v) → wpAnyHIn F n P md ops C hd L (f + 1) listed a := by
  intro f
  have key : ∀ (listed : Array Bool), Closed md ops listed → (∀ t, t < ops.size → hd t = false → listed.getD t true = false → (ups md ops i ops.size).getD t false = true) → i ∈ Region.ready md ops listed → ∀ j ∈ Region.ready md ops listed, hd j = true := by
    intro listed hc ht hr j hj
    cases hh : hd j with
    | true => rfl
    | false =>
      have hju := (mem_ready.1 hj).1
      obtain ⟨o, ho, _⟩ := (mem_ready.1 hj).2
      have hne : j ≠ i := fun e => by rw [e, hin] at hh; cases hh
      exact absurd hj (not_ready hc (getD_both (mem_ready.1 hr).1) (ht j (Array.getElem?_eq_some_iff.1 ho).1 hh hju) hne)
  induction f with
  | zero =>
    intro listed a hc ht _ hr hy H
    refine ⟨fun h => (by rw [h] at hr; cases hr), fun j hj => ?_⟩
    refine ⟨key listed hc ht hr j hj, ?_⟩
    by_cases hji : j = i
    · subst hji; exact hy.qOpIn hi H
    · have h1 := hdone _ _ H j (ready_mono hj hji)
      rw [key listed hc ht hr j hj] at h1; cases h1
  | succ f ih =>
    intro listed a hc ht hfree hr hy H
    refine ⟨fun h => (by rw [h] at hr; cases hr), fun j hj => ?_⟩
    refine ⟨key listed hc ht hr j hj, ?_⟩
    by_cases hji : j = i
    · subst hji; exact hy.qOpIn hi H
    · have h1 := (H.2 j (ready_mono hj hji)).2
      obtain ⟨hjun, oj, hoj, hall⟩ := mem_ready.1 hj
      have hnot : ∀ e ∈ oj.after, Region.binds md e = true → e.on ≠ i := fun e he hb heq => by
        have h1 := hall e he hb
        rw [heq, getD_both (mem_ready.1 hr).1] at h1
        cases h1
      have h2 := qOpIn_put hoj (hfree j oj hoj hji hjun hnot) (fun cs b => hsel i oi cs b hi) (fun cs b => hsel j oj cs b hoj) hy h1
      have un : ∀ k, (listed.setIfInBounds j true).getD k true = false → listed.getD k true = false := fun k hk => by
        by_cases hjk : j = k
        · subst hjk; exact hjun
        · rw [getD_set_ne true hjk] at hk; exact hk
      have hfree' : ∀ k ok, ops[k]? = some ok → k ≠ i → (listed.setIfInBounds j true).getD k true = false →
          (∀ e ∈ ok.after, Region.binds md e = true → e.on ≠ i) → oi.apart ops ok = true := fun k ok hk hki hun hno => hfree k ok hk hki (un k hun) hno
      refine qOpIn_mono (fun a' h3 => ih (listed.setIfInBounds j true) a' (hc.set hj) (fun t ht1 ht2 ht3 => ht t ht1 ht2 (un t ht3)) hfree' (ready_mono hr (Ne.symm hji)) h3.1 ?_) h2
      rw [Array.setIfInBounds_comm _ _ hji]
      exact h3.2

theorem wpAnyHIn_lex {hd : Nat → Bool} {Lq : Act → Prop} {FF : Array Bool} (hs : Region.noSelect ops = true) (hF : ∀ j ∈ Region.ready md ops FF, hd j = false) :
    ∀ (m : List Bool) (k : Nat) (l : List Oper) (listed : Array Bool) (a : Act), (∀ j, l[j]? = ops[k + j]?) → m.length ≤ l.length → Closed md ops listed → headB md ops hd m k listed = true → setAll m k listed = FF → wpQuietIn F n P ops C Lq (sel m l) a →
    wpAnyHIn F n P md ops C hd (fun listed' a' => listed' = FF ∧ Lq a') (cnt m) listed a
  | [], _, _, _, _, _, _, _, _, hset, h => ⟨hset, by cases ‹List Oper› <;> exact h⟩
  | true :: m, k, [], _, _, _, hle, _, _, _, _ => absurd hle (by simp)
  | false :: m, k, [], _, _, _, hle, _, _, _, _ => absurd hle (by simp)
  | false :: m, k, o :: l, listed, a, hl, hle, hc, hB, hset, h => by
    simp only [headB] at hB
    exact wpAnyHIn_lex hs hF m (k + 1) l listed a (fun j => by have := hl (j + 1); simpa [Nat.add_assoc, Nat.add_comm 1 j] using this) (by simpa using hle) hc hB (by simpa [setAll] using hset) h
  | true :: m, k, o :: l, listed, a, hl, hle, hc, hB, hset, h => by
    have h0 : ops[k]? = some o := by simpa using (hl 0).symm
    simp only [headB, Bool.and_eq_true] at hB
    obtain ⟨⟨⟨⟨hr, hf⟩, hk⟩, ht⟩, hB'⟩ := hB
    have hr' : k ∈ Region.ready md ops listed := by simpa using hr
    have hst : qOpIn F n P ops C k (wpQuietIn F n P ops C Lq (sel m l)) a := by unfold qOpIn; simp only [h0]; exact h
    obtain ⟨v, hy, hK⟩ := yieldsQuiet_of_qOpIn h0 hst
    refine wpAnyHIn_first h0 (Region.noSelect_spec hs) hk (fun _ _ hL => by rw [hL.1]; exact hF) (cnt m) listed a hc (fun t ht1 ht2 ht3 => ?_) (Region.free_spec h0 hf) hr' hy
      (wpAnyHIn_lex hs hF m (k + 1) l _ _ (fun j => by have := hl (j + 1); simpa [Nat.add_assoc, Nat.add_comm 1 j] using this) (by simpa using hle) (hc.set hr') hB' (by simpa [setAll] using hset) hK)
    have h3 := List.all_eq_true.1 ht t (List.mem_range.2 ht1)
    rw [ht2, ht3] at h3
    simpa using h3
/-- The marked operations in one walk, then the others. -/
theorem wpAnyIn_head {l : List Oper} (hnd : noDefer l.toArray = true) (m : List Bool) {g : Nat} {listed : Array Bool} {a : Act} {w : World} {Q' : Exit → Act → World → Prop} (hB : checkB md l.toArray m listed = true) (hC : C w)
    (h : wpQuietIn F n P l.toArray C (fun a' => ∀ w', C w' → wpAnyIn F n P md l.toArray Q' g (setAll m 0 listed) a' w') (sel m l) a) : wpAnyIn F n P md l.toArray Q' (cnt m + g) listed a w := by
  simp only [checkB, Bool.and_eq_true, decide_eq_true_eq] at hB
  obtain ⟨⟨⟨hs, hc⟩, hle⟩, hh⟩ := hB
  refine wpAnyIn_of_headH hnd (fun listed' a' hL w' hw' => ?_) _ _ _ w hC (wpAnyHIn_lex hs (headB_done m 0 listed hh) m 0 l listed a (fun j => by simp) (by simpa using hle) (closed_of hc) hh rfl h)
  rw [hL.1]; exact hL.2 w' hw'
theorem quiet_monoIn {K K' : Act → Prop} (hK : ∀ a, K a → K' a) : ∀ (r : List Oper) (a : Act), wpQuietIn F n P ops C K r a → wpQuietIn F n P ops C K' r a
  | [], a, h => hK a h
  | o :: r, a, h => by
    simp only [wpQuietIn] at h ⊢
    refine ⟨h.1, ?_⟩
    have h := h.2
    split
    · rename_i hw; rw [if_pos hw] at h; exact Oper.quietIn_mono (quiet_monoIn hK r) h
    · rename_i hw; rw [if_neg hw] at h; exact quiet_monoIn hK r _ h
theorem wpAnyIn_of_seq {Q' : Exit → Act → World → Prop} : ∀ (l : List Oper) (k : Nat) (listed : Array Bool) (a : Act) (w : World), (∀ j, l[j]? = ops[k + j]?) →
    Region.seqB md ops l.length k listed = true → wpListIn F n P ops Q' l a w → wpAnyIn F n P md ops Q' l.length listed a w
  | [], _, _, _, _, _, hB, h => ⟨by simpa [Region.seqB] using hB, h⟩
  | o :: l, k, listed, a, w, hl, hB, h => by
    have h0 : ops[k]? = some o := by simpa using (hl 0).symm
    simp only [List.length_cons, Region.seqB, Bool.and_eq_true, decide_eq_true_eq] at hB
    refine ⟨fun h1 => (by rw [hB.1] at h1; cases h1), fun i hi => ?_⟩
    rw [hB.1] at hi
    have hik : i = k := by simpa using hi
    subst hik
    have hw : wpOpIn F n P ops Q' i (wpListIn F n P ops Q' l) a w := by unfold wpOpIn; simp only [h0]; exact h
    exact wpOpIn_mono (fun a' w' h' => wpAnyIn_of_seq l (i + 1) _ a' w' (fun j => by have := hl (j + 1); simpa [Nat.add_assoc, Nat.add_comm 1 j] using this) hB.2 h') hw
/-- a region in a round: its first k operations read, the rest come in the text's order -/
theorem region_tail {id : Nat} {Q : Exit → Act → World → Prop} {a : Act} {w : World} {l : List Oper} (k : Nat) (hnd : noDefer l.toArray = true) (hm : P.follows .mixedOrders = true) (hB : (checkB .any l.toArray (List.replicate k true) (Array.replicate l.length false) && decide (k ≤ l.length) && Region.seqB .any l.toArray (l.drop k).length k (setAll (List.replicate k true) 0 (Array.replicate l.length false))) = true)
    (h : wpQuietIn F n P l.toArray (fun w' => ∃ q, w' = w.drewN q) (fun a' => ∀ w', (∃ q, w' = w.drewN q) → wpListIn F n P l.toArray Q (l.drop k) a' w') (l.take k) a) : (Code.region id l.toArray true).wpIn F n P Q a w := by
  simp only [Bool.and_eq_true, decide_eq_true_eq] at hB
  obtain ⟨⟨h1, h2⟩, h3⟩ := hB
  refine wpIn_region_any hm ?_
  have hcnt : ∀ k, cnt (List.replicate k true) = k := fun k => by induction k with | zero => rfl | succ k ih => simp [List.replicate_succ, cnt, ih]
  have H := wpAnyIn_head (F := F) (n := n) (P := P) (md := .any) (C := fun w' => ∃ q, w' = w.drewN q) (Q' := Q) (g := (l.drop k).length) hnd (List.replicate k true) (l := l) (listed := Array.replicate l.length false) (a := a) (w := w.drew) h1 ⟨1, rfl⟩ ?_
  · rw [hcnt, show k + (l.drop k).length = l.length by simp; omega] at H
    simpa using H
  · rw [sel_all]; exact quiet_monoIn (fun a' ha w' hw' => wpAnyIn_of_seq (l.drop k) k _ a' w' (fun j => by simp [List.getElem?_drop]) h3 (ha w' hw')) _ _ h
end Go.Proofs.YtmbdfoobnkanlaaDoor.inround

/-! ### A region that draws its order, inside a fence (in a round or not): its first k operations read, but for some, marked, that lead the world from stage to stage, one behind the other; the rest comes in the text's order. One walk in the text's order serves every order. No program is named. -/
namespace Go.Proofs.YtmbdfoobnkanlaaDoor.move
open Go Go.RowKit tail stage inround
set_option linter.unusedVariables false
variable {F : Fence} {n : Nat} {P : Program} {ops : Array Oper} {md : Region.Mode} {D : Nat → World → Prop}

/-- an operation that leads to worlds of a class -/
def stepUpon (F : Fence) (n : Nat) (P : Program) (C : World → Prop) (v : Value) : Result Next → Prop
  | .ok (.value u) w' => u = v ∧ C w'
  | .ok .skip w' => undef = v ∧ C w'
  | .ok (.enter f args) w' => (F.depth.isSome = true → 1 ≤ n) ∧ CallsIn F (n - 1) P f args w' fun e w'' => e = .returned v ∧ C w''
  | _ => False
def asked (F : Fence) (P : Program) (D : Nat → World → Prop) (o : Oper) (a : Act) : Prop := ∀ q : Un D, ∀ f, o.about P q.W a.eval = some f → F.fn f
def YR (F : Fence) (P : Program) (ops : Array Oper) (D : Nat → World → Prop) (o : Oper) (v : Value) (a : Act) : Prop :=
  (Region.wanted o (yielded ops a.tmps) = true ∧ ∀ q : Un D, pureUpon q.W v ((execOp a.eval o).run P q.W)) ∨ (Region.wanted o (yielded ops a.tmps) = false ∧ v = undef)
def YM (F : Fence) (n : Nat) (P : Program) (ops : Array Oper) (D : Nat → World → Prop) (s : Nat) (o : Oper) (v : Value) (a : Act) : Prop :=
  Region.wanted o (yielded ops a.tmps) = true ∧ ∀ w, D s w → stepUpon F n P (D (s + 1)) v ((execOp a.eval o).run P w)
def Y (F : Fence) (n : Nat) (P : Program) (ops : Array Oper) (D : Nat → World → Prop) (m : Bool) (s : Nat) (o : Oper) (v : Value) (a : Act) : Prop := asked F P D o a ∧ if m = true then YM F n P ops D s o v a else YR F P ops D o v a
theorem Y.move {m : Bool} {s s' : Nat} {o : Oper} {v : Value} {a a' : Act} (h : Y F n P ops D m s o v a) (hs : m = true → s' = s) (he : execOp a'.eval o = execOp a.eval o) (hw : Region.wanted o (yielded ops a'.tmps) = Region.wanted o (yielded ops a.tmps)) (hb : ∀ w, o.about P w a'.eval = o.about P w a.eval) : Y F n P ops D m s' o v a' := by
  refine ⟨fun q f hf => h.1 q f (by rw [← hb]; exact hf), ?_⟩
  have h := h.2
  cases m
  · simp only [YR, Bool.false_eq_true, if_false] at h ⊢; rw [he, hw]; exact h
  · simp only [YM, if_true] at h ⊢; rw [he, hw, hs rfl]; exact h
theorem opIn_of_Y {m : Bool} {s i : Nat} {o : Oper} {v : Value} {a : Act} {w : World} {K : Act → World → Prop} {Q' : Exit → Act → World → Prop} (hnd : noDefer ops = true) (hi : ops[i]? = some o) (hy : Y F n P ops D m s o v a) (hD : D s w) (hK : ∀ w', D (s + m.toNat) w' → K (a.put o.dst v) w') : wpOpIn F n P ops Q' i K a w := by
  unfold wpOpIn
  simp only [hi]
  obtain ⟨ha, hy⟩ := hy
  have ha' := ha ⟨s, w, hD⟩
  cases m
  · simp only [YR, Bool.false_eq_true, if_false] at hy
    rcases hy with ⟨hw, h⟩ | ⟨hw, rfl⟩
    · simp only [hw, if_true]
      have h3 := h ⟨s, w, hD⟩
      refine ⟨ha', ?_⟩
      rw [Oper.semAt_eq _ _ _ (noDefer_at hnd hi)]
      generalize (execOp a.eval o).run P w = r at *
      match r, h3 with
      | .ok (.value u) w', h3 => obtain ⟨e1, e2⟩ := h3; subst e1; subst e2; exact hK _ hD
      | .ok .skip w', h3 => obtain ⟨e1, e2⟩ := h3; subst e1; subst e2; exact hK _ hD
    · simp only [hw, Bool.false_eq_true, if_false]; exact ⟨ha', hK _ hD⟩
  · simp only [YM, if_true] at hy
    obtain ⟨hw, h⟩ := hy
    simp only [hw, if_true]
    have h3 := h w hD
    refine ⟨ha', ?_⟩
    rw [Oper.semAt_eq _ _ _ (noDefer_at hnd hi)]
    generalize (execOp a.eval o).run P w = r at *
    cases r with
    | halt x w' => exact h3.elim
    | ok x w' =>
      cases x <;> simp only [stepUpon] at h3 <;> simp only [Oper.uponIn]
      case value u => obtain ⟨e1, e2⟩ := h3; rw [e1]; exact hK _ e2
      case skip => obtain ⟨e1, e2⟩ := h3; rw [e1]; exact hK _ e2
      case enter f args =>
        obtain ⟨hd, hc⟩ := h3
        exact ⟨hd, hc.mono fun e w'' ⟨he, hw''⟩ => by subst he; exact hK _ hw''⟩
/-- the head in whatever order -/
def wpM (F : Fence) (n : Nat) (P : Program) (md : Region.Mode) (ops : Array Oper) (D : Nat → World → Prop) (hd mk : Nat → Bool) (L : Array Bool → Act → Nat → Prop) : Nat → Array Bool → Act → Nat → Prop
  | 0, listed, a, s => L listed a s
  | f + 1, listed, a, s => Region.ready md ops listed ≠ [] ∧ ∀ i ∈ Region.ready md ops listed, hd i = true ∧ ∃ o v, ops[i]? = some o ∧ Y F n P ops D (mk i) s o v a ∧ wpM F n P md ops D hd mk L f (listed.setIfInBounds i true) (a.put o.dst v) (s + (mk i).toNat)
theorem anyIn_of_M {hd mk : Nat → Bool} {g : Nat} {L : Array Bool → Act → Nat → Prop} {Q' : Exit → Act → World → Prop} (hnd : noDefer ops = true) (hL : ∀ listed a s, L listed a s → ∀ w, D s w → wpAnyIn F n P md ops Q' g listed a w) :
    ∀ (f : Nat) (listed : Array Bool) (a : Act) (s : Nat) (w : World), D s w → wpM F n P md ops D hd mk L f listed a s → wpAnyIn F n P md ops Q' (f + g) listed a w
  | 0, listed, a, s, w, hw, h => by rw [Nat.zero_add]; exact hL _ _ _ h w hw
  | f + 1, listed, a, s, w, hw, h => by
    rw [show f + 1 + g = (f + g) + 1 by omega]
    refine ⟨fun h0 => absurd h0 h.1, fun i hi => ?_⟩
    obtain ⟨_, o, v, ho, hy, hK⟩ := h.2 i hi
    exact opIn_of_Y hnd ho hy hw fun w' hw' => anyIn_of_M hnd hL f _ _ _ w' hw' hK
theorem wpM_first {hd mk : Nat → Bool} {i : Nat} {oi : Oper} {v : Value} {L : Array Bool → Act → Nat → Prop} (hi : ops[i]? = some oi) (hsel : ∀ (j : Nat) (o : Oper) cs b, ops[j]? = some o → o.op ≠ .select cs b) (hin : hd i = true)
    (hdone : ∀ listed a s, L listed a s → ∀ j ∈ Region.ready md ops listed, hd j = false)
    (hch : mk i = true → ∀ j oj, ops[j]? = some oj → mk j = true → i < j → (ups md ops i ops.size).getD j false = true) :
    ∀ (f : Nat) (listed : Array Bool) (a : Act) (s : Nat), Closed md ops listed → (∀ t, t < ops.size → hd t = false → listed.getD t true = false → (ups md ops i ops.size).getD t false = true) →
      (mk i = true → ∀ j, j < i → mk j = true → listed.getD j true = true) →
      (∀ j oj, ops[j]? = some oj → j ≠ i → listed.getD j true = false → (∀ e ∈ oj.after, Region.binds md e = true → e.on ≠ i) → oi.apart ops oj = true) →
      i ∈ Region.ready md ops listed → Y F n P ops D (mk i) s oi v a →
      wpM F n P md ops D hd mk L f (listed.setIfInBounds i true) (a.put oi.dst v) (s + (mk i).toNat) → wpM F n P md ops D hd mk L (f + 1) listed a s := by
  intro f
  have key : ∀ (listed : Array Bool), Closed md ops listed → (∀ t, t < ops.size → hd t = false → listed.getD t true = false → (ups md ops i ops.size).getD t false = true) → i ∈ Region.ready md ops listed → ∀ j ∈ Region.ready md ops listed, hd j = true := by
    intro listed hc ht hr j hj
    cases hh : hd j with
    | true => rfl
    | false =>
      have hju := (mem_ready.1 hj).1
      obtain ⟨o, ho, _⟩ := (mem_ready.1 hj).2
      have hne : j ≠ i := fun e => by rw [e, hin] at hh; cases hh
      exact absurd hj (not_ready hc (getD_both (mem_ready.1 hr).1) (ht j (Array.getElem?_eq_some_iff.1 ho).1 hh hju) hne)
  induction f with
  | zero =>
    intro listed a s hc ht _ _ hr hy H
    refine ⟨fun h => (by rw [h] at hr; cases hr), fun j hj => ?_⟩
    refine ⟨key listed hc ht hr j hj, ?_⟩
    by_cases hji : j = i
    · subst hji; exact ⟨oi, v, hi, hy, H⟩
    · have h1 := hdone _ _ _ H j (ready_mono hj hji)
      rw [key listed hc ht hr j hj] at h1; cases h1
  | succ f ih =>
    intro listed a s hc ht hbe hfree hr hy H
    refine ⟨fun h => (by rw [h] at hr; cases hr), fun j hj => ?_⟩
    refine ⟨key listed hc ht hr j hj, ?_⟩
    by_cases hji : j = i
    · subst hji; exact ⟨oi, v, hi, hy, H⟩
    · obtain ⟨_, oj, u, hoj, hyj, hK⟩ := H.2 j (ready_mono hj hji)
      obtain ⟨hjun, oj', hoj', hall⟩ := mem_ready.1 hj
      obtain rfl : oj = oj' := Option.some.inj (hoj.symm.trans hoj')
      have hnot : ∀ e ∈ oj.after, Region.binds md e = true → e.on ≠ i := fun e he hb heq => by
        have h1 := hall e he hb
        rw [heq, getD_both (mem_ready.1 hr).1] at h1
        cases h1
      have hap := hfree j oj hoj hji hjun hnot
      obtain ⟨p1, p2, p3⟩ := Oper.apart_spec hap
      have onem : mk i = true → mk j = false := fun hmi => by
        cases hmj : mk j with
        | false => rfl
        | true =>
          rcases Nat.lt_or_ge i j with hl | hl
          · exact absurd hj (not_ready hc (getD_both (mem_ready.1 hr).1) (hch hmi j oj hoj hmj hl) hji)
          · have := hbe hmi j (by omega) hmj
            rw [hjun] at this; cases this
      have hyj' : Y F n P ops D (mk j) s oj u a := hyj.move (fun hmj => by
          cases hmi : mk i with
          | false => rfl
          | true => rw [onem hmi] at hmj; cases hmj) (execOp_put oj (fun cs b => hsel j oj cs b hoj) a oi.dst v p1).symm (wanted_put oj a oi.dst v p1).symm (fun w => (about_put oj w a oi.dst v p1).symm)
      refine ⟨oj, u, hoj, hyj', ?_⟩
      have un : ∀ k, (listed.setIfInBounds j true).getD k true = false → listed.getD k true = false := fun k hk => by
        by_cases hjk : j = k
        · subst hjk; exact hjun
        · rw [getD_set_ne true hjk] at hk; exact hk
      refine ih (listed.setIfInBounds j true) (a.put oj.dst u) (s + (mk j).toNat) (hc.set hj) (fun t ht1 ht2 ht3 => ht t ht1 ht2 (un t ht3)) (fun hmi k hk hmk => ?_) (fun k ok hk hki hun hno => hfree k ok hk hki (un k hun) hno) (ready_mono hr (Ne.symm hji)) (hy.move (fun hmi => by rw [onem hmi]; rfl) (execOp_put oi (fun cs b => hsel i oi cs b hi) a oj.dst u p3) (wanted_put oi a oj.dst u p3) (fun w => about_put oi w a oj.dst u p3)) ?_
      · cases hx : (listed.setIfInBounds j true).getD k true with
        | true => rfl
        | false =>
          have h1 := hbe hmi k hk hmk
          rw [un k hx] at h1; cases h1
      · rw [Array.setIfInBounds_comm _ _ hji, ← Act.put_comm a v u p2, Nat.add_right_comm]
        exact hK
/-- the walk in the text's order -/
def wpT (F : Fence) (n : Nat) (P : Program) (ops : Array Oper) (D : Nat → World → Prop) (Q : Act → Nat → Prop) : List Bool → List Oper → Act → Nat → Prop
  | _, [], a, s => Q a s
  | true :: m, o :: r, a, s => ∃ v, asked F P D o a ∧ YM F n P ops D s o v a ∧ wpT F n P ops D Q m r (a.put o.dst v) (s + 1)
  | false :: m, o :: r, a, s => ∃ v, asked F P D o a ∧ YR F P ops D o v a ∧ wpT F n P ops D Q m r (a.put o.dst v) s
  | [], _ :: _, _, _ => False
def movB (md : Region.Mode) (ops : Array Oper) (hd : Nat → Bool) : Nat → Nat → Array Bool → Bool
  | 0, _, listed => (Region.ready md ops listed).all fun j => !hd j
  | f + 1, k, listed => (Region.ready md ops listed).contains k && Region.free md ops listed k && hd k && ((List.range ops.size).all fun t => hd t || listed.getD t true || (ups md ops k ops.size).getD t false) && movB md ops hd f (k + 1) (listed.setIfInBounds k true)
def setN : Nat → Nat → Array Bool → Array Bool
  | 0, _, listed => listed
  | f + 1, k, listed => setN f (k + 1) (listed.setIfInBounds k true)
theorem movB_done {hd : Nat → Bool} : ∀ (f k : Nat) (listed : Array Bool), movB md ops hd f k listed = true → ∀ j ∈ Region.ready md ops (setN f k listed), hd j = false
  | 0, k, listed, h, j, hj => by
    have := List.all_eq_true.1 h j hj
    simpa using this
  | f + 1, k, listed, h, j, hj => by
    simp only [movB, Bool.and_eq_true] at h
    exact movB_done f (k + 1) _ h.2 j hj
def chainU (md : Region.Mode) (ops : Array Oper) (m : List Bool) : Bool :=
  (List.range ops.size).all fun i => !(m.getD i false) || (List.range ops.size).all fun j => !(m.getD j false) || !(decide (i < j)) || (ups md ops i ops.size).getD j false
theorem wpM_lex {hd mk : Nat → Bool} {Lq : Act → Nat → Prop} {FF : Array Bool} (hs : Region.noSelect ops = true) (hF : ∀ j ∈ Region.ready md ops FF, hd j = false) (hch : ∀ i, mk i = true → ∀ j oj, ops[j]? = some oj → mk j = true → i < j → (ups md ops i ops.size).getD j false = true) :
    ∀ (l : List Oper) (m : List Bool) (k : Nat) (listed : Array Bool) (a : Act) (s : Nat), (∀ j, j < l.length → l[j]? = ops[k + j]?) → (∀ j, j < l.length → m[j]? = some (mk (k + j))) → (∀ j, j < k → listed.getD j true = true) → Closed md ops listed → movB md ops hd l.length k listed = true → setN l.length k listed = FF → wpT F n P ops D Lq m l a s →
    wpM F n P md ops D hd mk (fun listed' a' s' => listed' = FF ∧ Lq a' s') l.length listed a s
  | [], m, _, _, _, _, _, _, _, _, _, hset, h => ⟨hset, by cases m <;> exact h⟩
  | o :: l, m, k, listed, a, s, hl, hm, hbe, hc, hB, hset, h => by
    have h0 : ops[k]? = some o := by simpa using (hl 0 (by simp)).symm
    simp only [List.length_cons, movB, Bool.and_eq_true] at hB
    obtain ⟨⟨⟨⟨hr, hf⟩, hk⟩, ht⟩, hB'⟩ := hB
    have hr' : k ∈ Region.ready md ops listed := by simpa using hr
    have hm0 := hm 0 (by simp)
    have hbe' : ∀ j, j < k + 1 → (listed.setIfInBounds k true).getD j true = true := fun j hj => by
      by_cases hjk : k = j
      · subst hjk
        rcases Nat.lt_or_ge k listed.size with h' | h'
        · simp [h']
        · simp [h']
      · rw [getD_set_ne true hjk]; exact hbe j (by omega)
    have hl' : ∀ j, j < l.length → l[j]? = ops[k + 1 + j]? := fun j hj => by have := hl (j + 1) (by simpa using hj); simpa [Nat.add_assoc, Nat.add_comm 1 j] using this
    have ht' : ∀ t, t < ops.size → hd t = false → listed.getD t true = false → (ups md ops k ops.size).getD t false = true := fun t ht1 ht2 ht3 => by
      have h3 := List.all_eq_true.1 ht t (List.mem_range.2 ht1)
      rw [ht2, ht3] at h3
      simpa using h3
    match m, hm0, hm, h with
    | [], hm0, _, _ => simp at hm0
    | b :: m, hm0, hm, h =>
      have hb : b = mk k := by simpa using hm0
      have hm' : ∀ j, j < l.length → m[j]? = some (mk (k + 1 + j)) := fun j hj => by have := hm (j + 1) (by simpa using hj); simpa [Nat.add_assoc, Nat.add_comm 1 j] using this
      have fin : ∀ v, Y F n P ops D b s o v a → wpT F n P ops D Lq m l (a.put o.dst v) (s + b.toNat) → wpM F n P md ops D hd mk (fun listed' a' s' => listed' = FF ∧ Lq a' s') (l.length + 1) listed a s := fun v hy hK => by
        refine wpM_first h0 (Region.noSelect_spec hs) hk (fun _ _ _ hL => by rw [hL.1]; exact hF) (hch k) l.length listed a s hc ht' (fun _ j hj _ => hbe j hj) (Region.free_spec h0 hf) hr' (v := v) (by rw [← hb]; exact hy) ?_
        rw [← hb]
        exact wpM_lex hs hF hch l m (k + 1) _ _ _ hl' hm' hbe' (hc.set hr') hB' (by simpa [setN] using hset) hK
      cases b with
      | true =>
        obtain ⟨v, ha, hy, hK⟩ := h
        exact fin v ⟨ha, by simpa using hy⟩ hK
      | false =>
        obtain ⟨v, ha, hy, hK⟩ := h
        exact fin v ⟨ha, by simpa using hy⟩ hK
/-- the region -/
theorem region {id : Nat} {Q : Exit → Act → World → Prop} {a : Act} {w : World} {l : List Oper} (k : Nat) (m : List Bool) (hnd : noDefer l.toArray = true) (hm : P.follows .mixedOrders = true)
    (hB : (Region.noSelect l.toArray && closedB .any l.toArray (Array.replicate l.length false) && decide (k ≤ l.length) && chainU .any l.toArray m && m.length == k && movB .any l.toArray (fun t => decide (t < k)) k 0 (Array.replicate l.length false) && Region.seqB .any l.toArray (l.drop k).length k (setN k 0 (Array.replicate l.length false))) = true) (hC : D 0 w.drew)
    (h : wpT F n P l.toArray D (fun a' s => ∀ w', D s w' → wpListIn F n P l.toArray Q (l.drop k) a' w') m (l.take k) a 0) : (Code.region id l.toArray true).wpIn F n P Q a w := by
  simp only [Bool.and_eq_true, decide_eq_true_eq, beq_iff_eq] at hB
  obtain ⟨⟨⟨⟨⟨⟨h1, h2⟩, h3⟩, h4⟩, h5⟩, h6⟩, h7⟩ := hB
  refine wpIn_region_any hm ?_
  have hlen : (l.take k).length = k := by simp; omega
  have X := wpM_lex (F := F) (n := n) (P := P) (D := D) (md := .any) (hd := fun t => decide (t < k)) (mk := fun t => m.getD t false) (Lq := fun a' s => ∀ w', D s w' → wpListIn F n P l.toArray Q (l.drop k) a' w') (FF := setN k 0 (Array.replicate l.length false)) h1 (movB_done k 0 _ h6)
    (fun i hi j oj hoj hj hij => ?_) (l.take k) m 0 (Array.replicate l.length false) a 0 (fun j hj => by rw [List.getElem?_take, if_pos (by omega)]; simp) (fun j hj => by simp [List.getD_eq_getElem?_getD, List.getElem?_eq_getElem (show j < m.length by omega)]) (fun j hj => by omega) (closed_of h2) (by rw [hlen]; exact h6) (by rw [hlen]) h
  · have H := anyIn_of_M (Q' := Q) (g := (l.drop k).length) hnd (fun listed' a' s hL w' hw' => by rw [hL.1]; exact wpAnyIn_of_seq (l.drop k) k _ a' w' (fun j => by simp [List.getElem?_drop]) h7 (hL.2 w' hw')) _ _ _ _ w.drew hC X
    rw [hlen, show k + (l.drop k).length = l.length by simp; omega] at H
    simpa using H
  · have hjl : j < l.toArray.size := (Array.getElem?_eq_some_iff.1 hoj).1
    have hi' : m.getD i false = true := hi
    have hj' : m.getD j false = true := hj
    have hil : i < l.toArray.size := by omega
    have g1 := List.all_eq_true.1 h4 i (List.mem_range.2 hil)
    rw [hi'] at g1
    simp only [Bool.not_true, Bool.false_or] at g1
    have g2 := List.all_eq_true.1 g1 j (List.mem_range.2 hjl)
    rw [hj', decide_eq_true hij] at g2
    simpa using g2
/-! ### the walk, step by step -/
theorem nil_step {Q : Act → Nat → Prop} {m : List Bool} {a : Act} {s : Nat} (h : Q a s) : wpT F n P ops D Q m [] a s := by cases m <;> exact h
theorem pure_step {Q : Act → Nat → Prop} {m : List Bool} {o : Oper} {r : List Oper} {a : Act} {s : Nat} (ha : asked F P D o a)
    (h : ∀ K : Act → Prop, (∀ a, wpT F n P ops D Q m r a s → K a) → if Region.wanted o (yielded ops a.tmps) then (∃ v, (∀ q : Un D, pureUpon q.W v ((execOp a.eval o).run P q.W)) ∧ K (a.put o.dst v)) else K (a.put o.dst undef)) : wpT F n P ops D Q (false :: m) (o :: r) a s := by
  have h' := h _ fun _ h => h
  by_cases hw : Region.wanted o (yielded ops a.tmps) = true
  · simp only [hw, if_true] at h'
    obtain ⟨v, h1, h2⟩ := h'
    exact ⟨v, ha, .inl ⟨hw, h1⟩, h2⟩
  · simp only [hw, Bool.false_eq_true, if_false] at h'
    exact ⟨undef, ha, .inr ⟨by simpa using hw, rfl⟩, h'⟩
theorem move_step {Q : Act → Nat → Prop} {m : List Bool} {o : Oper} {r : List Oper} {a : Act} {s : Nat} {v : Value} (ha : asked F P D o a) (hw : Region.wanted o (yielded ops a.tmps) = true) (h1 : ∀ w, D s w → stepUpon F n P (D (s + 1)) v ((execOp a.eval o).run P w))
    (h : ∀ K : Act → Prop, (∀ a, wpT F n P ops D Q m r a (s + 1) → K a) → K (a.put o.dst v)) : wpT F n P ops D Q (true :: m) (o :: r) a s := ⟨v, ha, ⟨hw, h1⟩, h _ fun _ h => h⟩
end Go.Proofs.YtmbdfoobnkanlaaDoor.move

/-! ### A drawn region with one call that writes: worlds ahead of the call and behind it. What is kept in cells by a step. No program is named. -/
namespace Go.Proofs.YtmbdfoobnkanlaaDoor.call
open Go.RowKit under trap
set_option linter.unusedSimpArgs false
set_option linter.unusedVariables false

def CallD (W : World) (A : World → Prop) : Nat → World → Prop
  | 0 => fun w' => ∃ q, w' = W.drewN q
  | _ => A
theorem CallD.cell {W : World} {A : World → Prop} {p : Addr} {v : Value} (h : W.cell? p = some v) (hA : ∀ w', A w' → w'.cell? p = some v) (q : stage.Un (CallD W A)) : q.W.cell? p = some v := by
  obtain ⟨i, w', h'⟩ := q
  match i, h' with
  | 0, ⟨q, e⟩ => show w'.cell? p = _; rw [e]; exact h
  | i + 1, h' => exact hA w' h'
theorem CallD.frozen {W : World} {A : World → Prop} {p : Addr} {v : Bool} (h : W.frozen? p = v) (hA : ∀ w', A w' → w'.frozen? p = v) (q : stage.Un (CallD W A)) : q.W.frozen? p = v := by
  obtain ⟨i, w', h'⟩ := q
  match i, h' with
  | 0, ⟨q, e⟩ => show w'.frozen? p = _; rw [e]; exact h
  | i + 1, h' => exact hA w' h'
theorem keepc {W w' : World} {p : Addr} {v : Value} (hb : Below W.heap.size W w') (c : W.cell? p = some v) : w'.cell? p = some v := (hb.cell (World.block_lt_of_cell? W p c)).trans c
theorem keepf {W w' : World} {p : Addr} {v : Value} {b : Bool} (hb : Below W.heap.size W w') (c : W.cell? p = some v) (f : W.frozen? p = b) : w'.frozen? p = b := (hb.frozen (World.block_lt_of_cell? W p c)).trans f
theorem pastc {d : List Nat} {W w' : World} {b i : Nat} {v : Value} (hb : Past d W w') (hd : b ∉ d) (c : W.cell? ⟨b, i, none⟩ = some v) : w'.cell? ⟨b, i, none⟩ = some v := hb.cell c hd
theorem pastf {d : List Nat} {W w' : World} {b i : Nat} {v : Value} {f : Bool} (hb : Past d W w') (hd : b ∉ d) (c : W.cell? ⟨b, i, none⟩ = some v) (h : W.frozen? ⟨b, i, none⟩ = f) : w'.frozen? ⟨b, i, none⟩ = f := (hb.frozen (World.block_lt_of_cell? W _ c) hd).trans h
theorem newc (w : World) (v : Value) (t : TypeId) : (w.alloc (.cells #[v] t)).cell? ⟨w.heap.size, 0, none⟩ = some v := (Var.new w v t).cell
theorem newf (w : World) (v : Value) (t : TypeId) : (w.alloc (.cells #[v] t)).frozen? ⟨w.heap.size, 0, none⟩ = false := (Var.new w v t).frozen
end Go.Proofs.YtmbdfoobnkanlaaDoor.call

/-! ### Several allocations one behind the other: where each object lies. A walk's places as numbers below the number of groups. No program is named. -/
namespace Go.Proofs.YtmbdfoobnkanlaaDoor.call
open Go.RowKit under trap
set_option linter.unusedSimpArgs false
set_option linter.unusedVariables false

def allocs : World → List Obj → World
  | w, [] => w
  | w, o :: r => allocs (w.alloc o) r
theorem allocs_size : ∀ (l : List Obj) (w : World), (allocs w l).heap.size = w.heap.size + l.length
  | [], w => rfl
  | o :: r, w => by rw [allocs, allocs_size r, World.size_alloc, List.length_cons]; omega
theorem allocs_below : ∀ (l : List Obj) (w : World), Below w.heap.size w (allocs w l)
  | [], w => Below.refl _ _
  | o :: r, w => below_step ((Below.refl _ w).alloc (Nat.le_refl _) o) (allocs_below r (w.alloc o))
theorem allocs_at : ∀ (l : List Obj) (w : World) (i : Nat) (o : Obj), l[i]? = some o → (allocs w l).heap[w.heap.size + i]? = some o
  | x :: r, w, 0, o, h => by
    obtain rfl : x = o := by simpa using h
    exact ((allocs_below r (w.alloc x)).block _ (by simp)).trans (World.alloc_heap_new w x)
  | x :: r, w, i + 1, o, h => by
    have := allocs_at r (w.alloc x) i o (by simpa using h)
    rw [World.size_alloc] at this
    rw [allocs, show w.heap.size + (i + 1) = w.heap.size + 1 + i by omega]; exact this
/-- the cells of the i-th one -/
theorem allocs_cell (l : List Obj) (w : World) (i : Nat) {c : Array Value} {t : TypeId} (h : l[i]? = some (.cells c t (0, 0))) (b : Nat) (hb : b = w.heap.size + i) (j : Nat) : (allocs w l).cell? ⟨b, j, none⟩ = c[j]? := by
  subst hb; exact cell_of_row _ _ _ _ _ _ (allocs_at l w i _ h)
theorem allocs_frozen (l : List Obj) (w : World) (i : Nat) {c : Array Value} {t : TypeId} (h : l[i]? = some (.cells c t (0, 0))) (b : Nat) (hb : b = w.heap.size + i) (j : Nat) : (allocs w l).frozen? ⟨b, j, none⟩ = false := by
  subst hb; exact frozen_of_row _ _ _ _ _ (allocs_at l w i _ h)
end Go.Proofs.YtmbdfoobnkanlaaDoor.call
