/- Many: some tables and the document's, side by side. -/
import Derived.Test.YtdplhgpeggcmdaaGreatDoorTableSpots2
namespace Go.Proofs.YtdplhgpeggcmdaaGreatDoor.table
open Go.ChangeShapes Go.WideShapes Go.ChangeAt Go.RowKit Go.Shelf swar under trap meter group probe lens tail call
attribute [local go_sem] Oper.semAt_some stage.pureUpon move.stepUpon
set_option linter.unusedSimpArgs false
set_option linter.unusedVariables false

/-- what is asked of the program's variables -/
structure Bq (a:String → Addr) (w:World):Prop where
 six:Errs6 a w
 broken : w.cell? ⟨4, 0, none⟩ = some (errs.errV (a "ambler/api.ErrBroken"))
 limit : w.cell? ⟨11, 0, none⟩ = some (errs.errV (a "ambler/api.ErrLimit"))
 bits:TabOk w
 far:18 ≤ w.heap.size
theorem Bq.below {a:String → Addr} {w W:World} (h:Bq a w) (hb:Below w.heap.size w W):Bq a W:=⟨h.six.below hb,keepc hb h.broken,keepc hb h.limit,h.bits.below hb h.bits.lt,Nat.le_trans h.far hb.size⟩
/-- the errors that a table and a meter read -/
def names9 : List String := ["ambler/api.ErrRange", "ambler/api.ErrFull", "ambler/api.ErrForm", "ambler/api.ErrNone", "ambler/api.ErrState", "ambler/api.ErrBroken", "ambler/api.ErrLimit", "ambler/api.ErrKind", "ambler/api.ErrDup"]
theorem nm9 {i:Nat} (h:i < 9):names9[i]'h ∈ names9:=List.getElem_mem _
theorem Bq.of9 {a:String → Addr} {w:World} (h:errs.ErrsOk names9 a w) (hT:TabOk w):Bq a w:=
 ⟨⟨⟨h.at errs.gErrRange (nm9 (i:=0) (by decide)),h.at errs.gErrState (nm9 (i:=4) (by decide))⟩,h.at errs.gErrFull (nm9 (i:=1) (by decide)),h.at errs.gErrNone (nm9 (i:=3) (by decide)),h.at errs.gErrKind (nm9 (i:=7) (by decide)),h.at errs.gErrDup (nm9 (i:=8) (by decide))⟩,h.at errs.gErrBroken (nm9 (i:=5) (by decide)),h.at errs.gErrLimit (nm9 (i:=6) (by decide)),hT,hT.lt⟩
/-- where some tables and the document's lie, and of how many groups they are -/
structure Lay where
 N:Nat
 T:Nat → Nat
 B:Nat → Nat
 F:Nat → Rf
 n:Nat → Nat
/-- the blocks of the document's table, of both -/
def Lay.rb (Y:Lay) (i:Nat):List Nat:=(Y.F i).G :: (Y.F i).d (Y.n i)
def Lay.bs (Y:Lay) (i:Nat):List Nat:=Y.T i :: Y.B i :: Y.rb i
/-- the blocks of all the document's tables, of all the tables -/
def Lay.rall (Y:Lay):List Nat:=(List.range Y.N).flatMap Y.rb
def Lay.tall (Y:Lay):List Nat:=(List.range Y.N).flatMap fun i => [Y.T i,Y.B i]
theorem Lay.tin {Y:Lay} {i b:Nat} (hi:i < Y.N) (h:b ∈ [Y.T i,Y.B i]):b ∈ Y.tall:=List.mem_flatMap.2 ⟨i,List.mem_range.2 hi,h⟩
/-- a block that is none of theirs -/
def Out (Y:Lay) (x:Nat):Prop:=∀ i,i < Y.N → x ∉ Y.bs i
/-- another one at one place -/
def up {α:Type} (t:Nat → α) (i:Nat) (x:α):Nat → α:=fun j => if j = i then x else t j
theorem up_same {α:Type} (t:Nat → α) (i:Nat) (x:α):up t i x i = x:=if_pos rfl
theorem up_ne {α:Type} (t:Nat → α) {i j:Nat} (x:α) (h:j ≠ i):up t i x j = t j:=if_neg h
theorem up_self {α:Type} (t:Nat → α) (i:Nat):up t i (t i) = t:=by
 funext j; unfold up; split
 ·next h => rw [h]
 ·rfl
/-- the tables hold t, the document's u, of which k groups were looked at; all of it is new since w0 -/
structure Many (a:String → Addr) (w0:World) (Y:Lay) (t u:Nat → Tb) (k:Nat → Nat) (W:World):Prop where
 at':∀ i,i < Y.N → TAt (Y.T i) (Y.B i) (t i) W
 ok:∀ i,i < Y.N → (t i).Ok
 tn:∀ i,i < Y.N → (t i).n = Y.n i
 wa:∀ i,i < Y.N → WAt (Y.F i) (u i) (k i) W
 uok:∀ i,i < Y.N → (u i).Ok
 un:∀ i,i < Y.N → (u i).n = Y.n i
 ins:∀ i,i < Y.N → Y.T i ∉ Y.rb i ∧ Y.B i ∉ Y.rb i
 sep:∀ i j,i < Y.N → j < Y.N → i ≠ j → ∀ b ∈ Y.bs i,b ∉ Y.bs j
 new:∀ i,i < Y.N → ∀ b ∈ Y.bs i,w0.heap.size ≤ b
 bel:Below w0.heap.size w0 W
 base:Bq a w0
section
variable {a:String → Addr} {w0:World} {Y:Lay} {t u:Nat → Tb} {k:Nat → Nat} {W W':World}
end
/-- one more table -/
def Lay.add (Y:Lay) (T B:Nat) (f:Rf) (n:Nat):Lay:=⟨Y.N + 1,up Y.T Y.N T,up Y.B Y.N B,up Y.F Y.N f,up Y.n Y.N n⟩
def Lay.no:Lay:=⟨0,fun _ => 0,fun _ => 0,fun _ => ⟨0,0,0,fun _ => 0⟩,fun _ => 0⟩
/-! ### calls -/
section
variable {a:String → Addr} {w0:World} {Y:Lay} {t u:Nat → Tb} {k:Nat → Nat} {W:World}
end
end Go.Proofs.YtdplhgpeggcmdaaGreatDoor.table
