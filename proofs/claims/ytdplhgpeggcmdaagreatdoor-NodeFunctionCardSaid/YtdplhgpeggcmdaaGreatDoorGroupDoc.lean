/- GroupDoc: several texts in one: plain facts and laws for the walks. No program is named. -/
import Derived.Test.YtdplhgpeggcmdaaGreatDoorGroup
import Derived.Deep.WholeRow
import Derived.LoopTactic

/-! ### group: the document's group (amblerref08): eight cells in a row; what its methods come to. -/
namespace Go.Proofs.YtdplhgpeggcmdaaGreatDoor.group
open Go.ChangeShapes Go.WideShapes Go.ChangeAt Go.RowKit swar trap under meter tail
set_option linter.unusedSimpArgs false
set_option linter.unusedVariables false

def cel (s:Sl):Array Value:=#[.int .i64 (s.kind:Nat),.int .u64 (s.key:Nat),.int .u64 (s.val:Nat),.int .u64 (s.hash:Nat)]
/-- eight cells in a row -/
def rrow (g:Gp):Array Value:=#[.int .i64 ((g 0).kind:Nat),.int .u64 ((g 0).key:Nat),.int .u64 ((g 0).val:Nat),.int .u64 ((g 0).hash:Nat),.int .i64 ((g 1).kind:Nat),.int .u64 ((g 1).key:Nat),.int .u64 ((g 1).val:Nat),.int .u64 ((g 1).hash:Nat),.int .i64 ((g 2).kind:Nat),.int .u64 ((g 2).key:Nat),.int .u64 ((g 2).val:Nat),.int .u64 ((g 2).hash:Nat),.int .i64 ((g 3).kind:Nat),.int .u64 ((g 3).key:Nat),.int .u64 ((g 3).val:Nat),.int .u64 ((g 3).hash:Nat),.int .i64 ((g 4).kind:Nat),.int .u64 ((g 4).key:Nat),.int .u64 ((g 4).val:Nat),.int .u64 ((g 4).hash:Nat),.int .i64 ((g 5).kind:Nat),.int .u64 ((g 5).key:Nat),.int .u64 ((g 5).val:Nat),.int .u64 ((g 5).hash:Nat),.int .i64 ((g 6).kind:Nat),.int .u64 ((g 6).key:Nat),.int .u64 ((g 6).val:Nat),.int .u64 ((g 6).hash:Nat),.int .i64 ((g 7).kind:Nat),.int .u64 ((g 7).key:Nat),.int .u64 ((g 7).val:Nat),.int .u64 ((g 7).hash:Nat)]
/-- the document's group in block R -/
structure RAt (R:Nat) (g:Gp) (w:World):Prop where
 row:w.heap[R]? = some (.cells (rrow g) 188 (0,0))
/-- a step of the document's group -/
structure RStep (R:Nat) (g:Gp) (w w':World):Prop where
 past:Past [R] w w'
 at':RAt R g w'
/-! ### New -/
def half (k:Nat):Gp:=fun j => if j < k then .empty else ⟨0,0,0,0⟩
/-! ### Put, Set, Erase -/
/-! ### what is looked at, slot by slot -/
def cntTo (n:Nat) (g:Gp):Nat → Nat
 | 0 => 0
 | k + 1 => cntTo n g k + (is n g k).toNat
/-! ### Text -/
def preT (g:Gp):Nat → ByteArray
 | 0 => ⟨#[]⟩
 | j + 1 => (preT g j).push (ctrl.sgB (byt (g j)))
end Go.Proofs.YtdplhgpeggcmdaaGreatDoor.group

/-! ### group: the entries of the document's group; two lists of entries that are the same (amblernum.SameEntries). -/
namespace Go.Proofs.YtdplhgpeggcmdaaGreatDoor.group
open Go.ChangeShapes Go.WideShapes Go.ChangeAt Go.RowKit Go.Shelf swar trap under meter tail
set_option linter.unusedSimpArgs false
set_option linter.unusedVariables false

/-- an entry's cells behind an address -/
def ECells (x:Addr) (j:Nat) (e:Sl) (W:World):Prop:=
 W.cell? (x.add (j * 3)) = some (.int .u64 (e.key:Nat)) ∧ W.cell? ⟨(x.add (j * 3)).block,(x.add (j * 3)).off + 1,none⟩ = some (.int .u64 (e.val:Nat)) ∧ W.cell? ⟨(x.add (j * 3)).block,(x.add (j * 3)).off + 2,none⟩ = some (.int .u64 (e.hash:Nat))
/-- a slice holds so many entries -/
def RowsAt (o:Option Addr) (f:Nat → Sl) (n:Nat) (W:World):Prop:=∀ j,j < n → ∃ x,o = some x ∧ ECells x j (f j) W
theorem fulls_succ (g:Gp) (k:Nat):(List.range (k + 1)).filter (is 3 g) = (List.range k).filter (is 3 g) ++ if is 3 g k = true then [k] else []:=by
 rw [List.range_succ,List.filter_append]; simp [List.filter]; split <;> simp_all
theorem range_len (g:Gp) (k:Nat):((List.range k).filter (is 3 g)).length ≤ k:=by have:=List.length_filter_le (is 3 g) (List.range k); simpa using this
end Go.Proofs.YtdplhgpeggcmdaaGreatDoor.group
