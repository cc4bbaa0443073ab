/- group: Entries. -/
import Derived.Test.YtplhgcidegngiaaDoorGroupFns
import Derived.Test.YtplhgcidegngiaaDoorKit
namespace Go.Proofs.YtplhgcidegngiaaDoor.group
open Go.ChangeShapes Go.WideShapes Go.ChangeAt Go.RowKit Go.Shelf swar trap under meter tail
attribute [local go_sem] Oper.semAt_some stage.pureUpon move.stepUpon
set_option linter.unusedSimpArgs false
set_option linter.unusedVariables false
/-- the cells of the entries of some slots -/
def ent (s : Sl) : List Value := [.int .u64 (s.key : Nat), .int .u64 (s.val : Nat), .int .u64 (s.hash : Nat)]
def rows (g : Gp) (l : List Nat) : List Value := l.flatMap fun k => ent (g k)
theorem rows_snoc (g : Gp) (l : List Nat) (k : Nat) : rows g (l ++ [k]) = rows g l ++ ent (g k) := by simp [rows]
theorem rows_length (g : Gp) : ∀ l : List Nat, (rows g l).length = l.length * 3
  | [] => rfl
  | k :: l => by have := rows_length g l; simp [rows, ent] at this ⊢; omega
theorem rows_at (g : Gp) : ∀ (l : List Nat) (j d : Nat) (hj : j < l.length), d < 3 → (rows g l)[j * 3 + d]? = (ent (g l[j]))[d]?
  | k :: l, 0, d, _, hd => by
    have h : rows g (k :: l) = ent (g k) ++ rows g l := by simp [rows]
    rw [h, Nat.zero_mul, Nat.zero_add, List.getElem?_append_left (by simp [ent]; omega)]; rfl
  | k :: l, j + 1, d, hj, hd => by
    have h : rows g (k :: l) = ent (g k) ++ rows g l := by simp [rows]
    rw [h, List.getElem?_append_right (by simp [ent]; omega)]
    have e : (j + 1) * 3 + d - (ent (g k)).length = j * 3 + d := by simp [ent]; omega
    rw [e]
    exact rows_at g l j d (by simpa using hj) hd
theorem infoEnt : (Tryd.prog.info? 47).map (fun i => (i.zero, i.size, i.bytes)) = some (some (.agg #[.int .u64 0, .int .u64 0, .int .u64 0]), 3, 24) := by kernel_rfl
/-- a slice of the call's own holds the entries of some slots -/
def Kept (base : Nat) (W : World) (v : Value) (g : Gp) (l : List Nat) : Prop := W.ownsRow base 47 3 v l.length (rows g l)
/-- the worlds of a round's region: ahead of the made slice, behind it -/
def EntD (W : World) (s : Sl) : Nat → World → Prop
  | 0 => fun w' => ∃ q, w' = W.drewN q
  | _ => fun w' => ∃ q, w' = (W.drewN q).alloc (.cells #[.int .u64 (s.key : Nat), .int .u64 (s.val : Nat), .int .u64 (s.hash : Nat)] 47)
theorem EntD.cell {W : World} {s : Sl} {p : Addr} {v : Value} (h : W.cell? p = some v) (q : stage.Un (EntD W s)) : q.W.cell? p = some v := by
  obtain ⟨i, w', h'⟩ := q
  match i, h' with
  | 0, ⟨q, e⟩ => show w'.cell? p = _; rw [e]; exact h
  | i + 1, ⟨q, e⟩ =>
    show w'.cell? p = _
    rw [e]
    have hlt := World.block_lt_of_cell? W p h
    exact ((new_block (W.drewN q) _).cell hlt).trans h
theorem cell_three_new (w : World) (a b c : Value) (t : TypeId) : ∀ j u, [a, b, c][j]? = some u → (w.alloc (.cells #[a, b, c] t)).cell? ((⟨w.heap.size, 0, none⟩ : Addr).add j) = some u := by
  intro j u hj
  have hr := World.alloc_heap_new w (.cells #[a, b, c] t)
  have hadd : (⟨w.heap.size, 0, none⟩ : Addr).add j = ⟨w.heap.size, j, none⟩ := by unfold Addr.add; split <;> simp_all
  rw [hadd, cell_of_row _ _ j _ _ _ hr]
  simpa using hj
end Go.Proofs.YtplhgcidegngiaaDoor.group
