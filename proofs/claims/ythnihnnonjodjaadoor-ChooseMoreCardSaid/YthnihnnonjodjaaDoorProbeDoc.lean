/- ProbeDoc: several texts in one: plain facts and laws for the walks. No program is named. -/
import Derived.Test.YthnihnnonjodjaaDoorProbe
import Derived.RangeFuncOne
import Derived.RangeFuncWrites
import Derived.Maps.AppendAt
import Derived.Test.YthnihnnonjodjaaDoorErrors
import Derived.LoopTactic
import Derived.Deep.QuietTactic

/-! ### Package probe's 'Order': slices.Collect of a walk; two lists of numbers compared. -/
namespace Go.Proofs.YthnihnnonjodjaaDoor.probe
open Go.ChangeShapes Go.WideShapes Go.ChangeAt Go.RowKit Go.Shelf
attribute [local go_sem] Oper.semAt_some

theorem cell_old {W : World} {o : Obj} {b i : Nat} (hb : b < W.heap.size) : (W.alloc o).cell? ⟨b, i, none⟩ = W.cell? ⟨b, i, none⟩ := World.cell?_of_block (Below.heap_alloc W o b hb)
theorem frozen_old {W : World} {o : Obj} {b i : Nat} (hb : b < W.heap.size) : (W.alloc o).frozen? ⟨b, i, none⟩ = W.frozen? ⟨b, i, none⟩ := World.frozen?_of_block (Below.heap_alloc W o b hb)
theorem cell_new {W : World} {v : Value} {t : TypeId} {b : Nat} (hb : b = W.heap.size) : (W.alloc (.cells #[v] t)).cell? ⟨b, 0, none⟩ = some v := by subst hb; exact (Boxed.new W t v).cell
theorem frozen_new {W : World} {v : Value} {t : TypeId} {b : Nat} (hb : b = W.heap.size) : (W.alloc (.cells #[v] t)).frozen? ⟨b, 0, none⟩ = false := by subst hb; exact (Boxed.new W t v).frozen
/-- behind the store of the result's box, and the return -/
theorem once_end {w W : World} {R D : Nat} {u : Value} (hB : Below w.heap.size w W) (cr : W.cell? ⟨R, 0, none⟩ = some u) (hR : w.heap.size ≤ R) (hD : w.heap.size ≤ D) (hne : D ≠ R) (hK : W.heap[D]? = some (.deferred (some []))) :
    (W.setCell ⟨R, 0, none⟩ (.bool true)).heap[D]? = some (.deferred (some [])) ∧ ((W.setCell ⟨R, 0, none⟩ (.bool true)).putObj D (.deferred none)).cell? ⟨R, 0, none⟩ = some (.bool true) ∧ Below w.heap.size w ((W.setCell ⟨R, 0, none⟩ (.bool true)).putObj D (.deferred none)) := by
  have h1 : (W.setCell ⟨R, 0, none⟩ (.bool true)).heap[D]? = some (.deferred (some [])) := (Below.heap_setCell W ⟨R, 0, none⟩ (.bool true) D hne).trans hK
  have h2 : (W.setCell ⟨R, 0, none⟩ (.bool true)).cell? ⟨R, 0, none⟩ = some (.bool true) := World.cell?_setCell_same _ _ _ cr
  have h3 : Below w.heap.size w (W.setCell ⟨R, 0, none⟩ (.bool true)) := hB.setCell (p := ⟨R, 0, none⟩) hR _
  exact ⟨h1, cell_kept h2 (grownBy_putObj' _ D (.deferred none)) (fun r e => by cases e; exact ⟨_, h1, rfl⟩), h3.grown (grownBy_putObj' _ D (.deferred none)) h3.size (fun r e => by cases e; exact hD)⟩


def enc (k : Nat) : Value := .int .i64 (k : Nat)
theorem infoInt : (Tryd.prog.info? 3).map (fun i => (i.zero, i.size, i.bytes)) = some (some (.int .i64 0), 1, 8) := by kernel_rfl
theorem below_step {w W W' : World} (h : Below w.heap.size w W) (h' : Below W.heap.size W W') : Below w.heap.size w W' := h.trans (h'.mono h.size)
/-- a slice of the call's own holds a list of numbers: nil just where the list is empty -/
def Kept (base : Nat) (W : World) (v : Value) (l : List Nat) : Prop := W.ownsRow base 3 1 v l.length (l.map enc) ∧ (v = .slice none 0 0 ↔ l = [])
theorem Kept.cells {base : Nat} {W : World} {v : Value} {l : List Nat} (h : Kept base W v l) (hl : l ≠ []) :
    ∃ g c, v = .slice (some ⟨g, 0, none⟩) l.length c ∧ g < W.heap.size ∧ base ≤ g ∧ ∀ j, j < l.length → W.cell? ⟨g, j, none⟩ = some (.int .i64 (l[j]?.getD 0 : Nat)) := by
  obtain ⟨hrow, hn⟩ := h
  have hlen : 0 < l.length := List.length_pos_iff.2 hl
  obtain ⟨m, hm⟩ : ∃ m, l.length = m + 1 := ⟨l.length - 1, by omega⟩
  have hrow' := hrow
  rw [hm] at hrow'
  obtain ⟨g, c, hv⟩ := ownsRow_succ hrow'
  rw [← hm] at hv
  subst hv
  refine ⟨g, c, rfl, ?_, ?_, fun j hj => ?_⟩
  · rcases hrow.2 with ⟨h, _⟩ | ⟨g', c', cur, h, _, hg, _⟩
    · cases h
    · cases h; exact (Array.getElem?_eq_some_iff.1 hg).1
  · rcases hrow.2 with ⟨h, _⟩ | ⟨g', c', cur, h, hb, _, _⟩
    · cases h
    · cases h; exact hb
  · have hc := hrow.cells (g := g) rfl j (enc l[j]) (by simp [hj])
    have ea : ((⟨g, 0, none⟩ : Addr).add j) = ⟨g, j, none⟩ := by unfold Addr.add; split <;> simp_all
    rw [ea] at hc
    rw [hc, enc, List.getElem?_eq_getElem hj]; rfl

end Go.Proofs.YthnihnnonjodjaaDoor.probe

/-! ### Package probe's 'At' and 'Home', and the document's own Right, At, Order. -/
namespace Go.Proofs.YthnihnnonjodjaaDoor.probe
open Go.ChangeShapes Go.WideShapes Go.ChangeAt Go.RowKit errs

theorem drewN_below (w : World) (q : Nat) : Below w.heap.size w (w.drewN q) := ⟨rfl, rfl, rfl, Nat.le_refl _, fun _ _ => rfl⟩

/-! ### the document's own -/
theorem rright_yes (n : Nat) (h : okN n) (w : World) :
    Calls Tryd.prog 17 #[.int .i64 n] w fun e w' => e = .returned (.bool true) ∧ w = w' := by
  go_enter Tryd.func17, Tryd.ntmps17
  rcases h with rfl | rfl | rfl | rfl | rfl | rfl | rfl
  all_goals
    go_wp2
    refine wp_loop_rounds 8 ?_
    iterate 8 (try (rw [rounds_succ]; go_wp2))
    go_ret
    exact ⟨rfl, rfl⟩
theorem rright_no (g : Int) (hg : ¬ ∃ k : Nat, g = k ∧ okN k) (w : World) :
    Calls Tryd.prog 17 #[.int .i64 g] w fun e w' => e = .returned (.bool false) ∧ w = w' := by
  have h1 : ((1 : Int) == g) = false := beq_eq_false_iff_ne.2 fun e => hg ⟨1, e.symm, by decide⟩
  have h2 : ((2 : Int) == g) = false := beq_eq_false_iff_ne.2 fun e => hg ⟨2, e.symm, by decide⟩
  have h3 : ((4 : Int) == g) = false := beq_eq_false_iff_ne.2 fun e => hg ⟨4, e.symm, by decide⟩
  have h4 : ((8 : Int) == g) = false := beq_eq_false_iff_ne.2 fun e => hg ⟨8, e.symm, by decide⟩
  have h5 : ((16 : Int) == g) = false := beq_eq_false_iff_ne.2 fun e => hg ⟨16, e.symm, by decide⟩
  have h6 : ((32 : Int) == g) = false := beq_eq_false_iff_ne.2 fun e => hg ⟨32, e.symm, by decide⟩
  have h7 : ((64 : Int) == g) = false := beq_eq_false_iff_ne.2 fun e => hg ⟨64, e.symm, by decide⟩
  clear hg
  go_enter Tryd.func17, Tryd.ntmps17
  go_wp2
  refine wp_loop_rounds 8 ?_
  iterate 8 (try (rw [rounds_succ]; go_wp2))
  go_ret
  exact ⟨rfl, rfl⟩
end Go.Proofs.YthnihnnonjodjaaDoor.probe

/-! ### The document's own At and Order for layer 4. -/
namespace Go.Proofs.YthnihnnonjodjaaDoor.probe
open Go.ChangeShapes Go.WideShapes Go.ChangeAt Go.RowKit Go.Shelf errs

/-- 0 + 1 + .. below k -/
def tri : Nat → Nat
  | 0 => 0
  | k + 1 => tri k + k
theorem tri_le : ∀ k, k ≤ 64 → tri k ≤ 2016 := by
  have h : ∀ k : Fin 65, tri k.val ≤ 2016 := by decide
  exact fun k hk => h ⟨k, by omega⟩
theorem tri_eq : ∀ k, tri (k + 1) = k * (k + 1) / 2
  | 0 => rfl
  | k + 1 => by rw [tri, tri_eq k, tri_succ]
/-! ### the document's list -/
/-- a slice of the call's own that holds a list of numbers -/
def Holds (base : Nat) (W : World) (v : Value) (l : List Nat) : Prop := W.ownsRow base 3 1 v l.length (l.map enc) ∧ ∃ g c, v = .slice (some ⟨g, 0, none⟩) l.length c
theorem Holds.base {base : Nat} {W : World} {v : Value} {l : List Nat} (h : Holds base W v l) : ∀ r, v.ownBlock = some r → base ≤ r := by
  obtain ⟨⟨_, h⟩, g, c, rfl⟩ := h
  intro r hr
  simp only [Value.ownBlock, Option.some.injEq] at hr
  subst hr
  rcases h with ⟨h, _⟩ | ⟨g', c', cur, h, hb, _⟩
  · cases h
  · cases h; exact hb
theorem Holds.snoc {base : Nat} {W' : World} {v' : Value} {l : List Nat} {k : Nat} (h : W'.ownsRow base 3 1 v' (l.length + 1) (l.map enc ++ [.int .i64 (k : Nat)])) : Holds base W' v' (l ++ [k]) := by
  obtain ⟨g, c, hv⟩ := ownsRow_succ h
  refine ⟨?_, g, c, by simpa using hv⟩
  rw [List.length_append, List.map_append]
  exact h
theorem Holds.cells {base : Nat} {W : World} {v : Value} {l : List Nat} (h : Holds base W v l) :
    ∃ g c, v = .slice (some ⟨g, 0, none⟩) l.length c ∧ g < W.heap.size ∧ base ≤ g ∧ ∀ j, j < l.length → W.cell? ⟨g, j, none⟩ = some (.int .i64 (l[j]?.getD 0 : Nat)) := by
  obtain ⟨hrow, g, c, rfl⟩ := h
  refine ⟨g, c, rfl, ?_, ?_, fun j hj => ?_⟩
  · rcases hrow.2 with ⟨h, _⟩ | ⟨g', c', cur, h, _, hg, _⟩
    · cases h
    · cases h; exact (Array.getElem?_eq_some_iff.1 hg).1
  · rcases hrow.2 with ⟨h, _⟩ | ⟨g', c', cur, h, hb, _, _⟩
    · cases h
    · cases h; exact hb
  · have hc := hrow.cells (g := g) rfl j (enc l[j]) (by simp [hj])
    have ea : ((⟨g, 0, none⟩ : Addr).add j) = ⟨g, j, none⟩ := by unfold Addr.add; split <;> simp_all
    rw [ea] at hc
    rw [hc, enc, List.getElem?_eq_getElem hj]; rfl
theorem holds_new (w : World) (W : World) (h : Below w.heap.size w W) : Holds w.heap.size (W.alloc (.cells #[] 3)) (.slice (some ⟨W.heap.size, 0, none⟩) 0 0) [] :=
  ⟨⟨rfl, .inr ⟨W.heap.size, 0, #[], rfl, h.size, World.alloc_heap_new W _, Nat.le_refl _, Nat.zero_le _, rfl, rfl⟩⟩, W.heap.size, 0, rfl⟩
end Go.Proofs.YthnihnnonjodjaaDoor.probe
