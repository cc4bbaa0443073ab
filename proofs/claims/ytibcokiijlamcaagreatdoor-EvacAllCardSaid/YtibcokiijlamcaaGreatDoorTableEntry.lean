/- table: the laws' acts: the entry of a key by its number; a table without a lens. -/
import Derived.Test.YtibcokiijlamcaaGreatDoorTabNew
namespace Go.Proofs.YtibcokiijlamcaaGreatDoor.table
open Go.ChangeShapes Go.WideShapes Go.ChangeAt Go.RowKit Go.Shelf swar under trap meter group probe lens tail call
attribute [local go_sem] Oper.semAt_some stage.pureUpon move.stepUpon
set_option linter.unusedSimpArgs false
set_option linter.unusedVariables false

/-- the hashes, as they lie -/
def HashAt (s : Option Addr) (la : Nat) (w : World) (hz : Nat → Nat) : Prop := ∀ j, j < la → ∃ x, s = some x ∧ hz j < 18446744073709551616 ∧ ∀ W, Below w.heap.size w W → W.cell? (x.add j) = some (.int .u64 (hz j : Nat))
/-- an act -/
structure Ac where
  kind : Int
  key : Int
  n : Int
def ActAt (s : Option Addr) (la : Nat) (w : World) (az : Nat → Ac) : Prop := ∀ j, j < la → (∃ x, s = some x ∧ ∀ W, Below w.heap.size w W → W.cell? (x.add (j * 3)) = some (.int .i64 (az j).kind) ∧ W.cell? ⟨(x.add (j * 3)).block, (x.add (j * 3)).off + 1, none⟩ = some (.int .i64 (az j).key) ∧ W.cell? ⟨(x.add (j * 3)).block, (x.add (j * 3)).off + 2, none⟩ = some (.int .i64 (az j).n)) ∧
  -9223372036854775808 ≤ (az j).key ∧ (az j).key ≤ 9223372036854775807 ∧ -9223372036854775808 ≤ (az j).n ∧ (az j).n ≤ 9223372036854775807
theorem HashAt.below {s : Option Addr} {la : Nat} {w w' : World} {hz : Nat → Nat} (h : HashAt s la w hz) (hb : Below w.heap.size w w') : HashAt s la w' hz := fun j hj => by
  obtain ⟨x, h1, h2, h3⟩ := h j hj
  exact ⟨x, h1, h2, fun W hW => h3 W (under.below_step hb hW)⟩
theorem ActAt.below {s : Option Addr} {la : Nat} {w w' : World} {az : Nat → Ac} (h : ActAt s la w az) (hb : Below w.heap.size w w') : ActAt s la w' az := fun j hj => by
  obtain ⟨⟨x, h1, h3⟩, h2⟩ := h j hj
  exact ⟨⟨x, h1, fun W hW => h3 W (under.below_step hb hW)⟩, h2⟩
/-- a key's number, a value -/
def uN (x : Int) : Nat := (IntKind.u64.wrap x).toNat
def kN (key : Int) (la : Nat) : Nat := uN key % la
theorem uN_lt (x : Int) : uN x < 18446744073709551616 := by unfold uN; rw [IntKind.wrap_u64]; omega
theorem uN_cast (x : Int) : IntKind.u64.wrap x = ((uN x : Nat) : Int) := by unfold uN; rw [IntKind.wrap_u64]; omega
theorem kN_lt (key : Int) {la : Nat} (h : 1 ≤ la) : kN key la < la := Nat.mod_lt _ h
theorem w64_small (x : Nat) (h : x < 101) : wrap64 (x : Int) = x := by unfold wrap64; omega
theorem u64_small (x : Nat) (h : x < 101) : IntKind.u64.wrap (x : Int) = x := by rw [IntKind.wrap_u64]; omega
theorem ent_num (key : Int) {la : Nat} (h1 : 1 ≤ la) (h2 : la ≤ 100) : ((uN key : Nat) : Int) % (la : Int) = ((kN key la : Nat) : Int) ∧ wrap64 (((uN key : Nat) : Int) % (la : Int)) = ((kN key la : Nat) : Int) ∧ IntKind.u64.wrap ((kN key la : Nat) : Int) = ((kN key la : Nat) : Int) ∧ ((kN key la : Nat) : Int) < (la : Int) := by
  have hk := kN_lt key h1
  have e : ((uN key : Nat) : Int) % (la : Int) = ((kN key la : Nat) : Int) := rfl
  have hs : kN key la < 101 := by omega
  exact ⟨e, by rw [e]; exact w64_small _ hs, u64_small _ hs, by omega⟩
end Go.Proofs.YtibcokiijlamcaaGreatDoor.table
