/- TabRef: several texts in one: plain facts and laws for the walks. No program is named. -/
import Derived.Test.YtdplhgpeggcmdaaGreatDoorTabMath
import Derived.Test.YtdplhgpeggcmdaaGreatDoorGroupDoc
import Derived.Test.YtdplhgpeggcmdaaGreatDoorProbeDoc
import Derived.Test.YtdplhgpeggcmdaaGreatDoorTabNew
import Derived.LoopTactic
import Derived.Deep.RegionHeld3
import Derived.Deep.AppendLies
import Derived.Deep.CutRange
import Derived.Deep.CutBlock
import Derived.Test.YtdplhgpeggcmdaaGreatDoorTabSeek
import Derived.Test.YtdplhgpeggcmdaaGreatDoorTableLeast
import Derived.Maps.AppendAt
import Derived.Laws.Rows
import Derived.RegionTactic

/-! ### TableRefA: several texts in one: plain facts and laws for the walks. No program is named. -/
/-! ### table: the document's table (amblerref09): what lies in memory; New. -/
namespace Go.Proofs.YtdplhgpeggcmdaaGreatDoor.table
open Go.ChangeShapes Go.WideShapes Go.ChangeAt Go.RowKit Go.Shelf swar under trap meter group probe lens tail call
attribute [local go_sem] Oper.semAt_some stage.pureUpon move.stepUpon
set_option linter.unusedSimpArgs false
set_option linter.unusedVariables false

/-- where the document's table lies: its own block, the row of its groups, how many may stand there, each group's block -/
structure Rf where
 R:Nat
 G:Nat
 c:Nat
 Q:Nat → Nat
/-- the blocks that are written to -/
def Rf.d (f:Rf) (n:Nat):List Nat:=f.R :: (List.range n).map f.Q
/-- the document's table: its groups are those of t; k groups were looked at -/
structure WAt (f:Rf) (t:Tb) (k:Nat) (w:World):Prop where
 row:w.heap[f.R]? = some (.cells #[.slice (some ⟨f.G,0,none⟩) t.n f.c,.int .i64 (k:Nat)] 129 (0,0))
 pt:∀ j,j < t.n → w.cell? ⟨f.G,j,none⟩ = some (.pointer (some ⟨f.Q j,0,none⟩))
 lt:f.G < w.heap.size
 gs:∀ j,j < t.n → RAt (f.Q j) (t.gs j) w
 inj:∀ i j,i < t.n → j < t.n → f.Q i = f.Q j → i = j
 nr:∀ j,j < t.n → f.Q j ≠ f.R
 ng:∀ j,j < t.n → f.Q j ≠ f.G
 ne:f.G ≠ f.R
section
variable {f:Rf} {t t':Tb} {k k':Nat} {w w':World}
end
/-- a step of the document's table -/
structure WStep (f:Rf) (t:Tb) (k:Nat) (w w':World):Prop where
 past:Past (f.d t.n) w w'
 at':WAt f t k w'
section
variable {f:Rf} {t t' t'':Tb} {k k' k'':Nat} {w w' w'' x y z:World}
end
/-! ### New -/
def ptr (b:Nat):Value:=.pointer (some ⟨b,0,none⟩)
/-- the groups that were made -/
structure NW (w:World) (R:Nat) (ps:List Nat) (v:Value) (W:World):Prop where
 own:W.ownsRow w.heap.size 151 1 v ps.length (ps.map ptr)
 row:W.heap[R]? = some (.cells #[v,.int .i64 0] 129 (0,0))
 gs:∀ b ∈ ps,RAt b .new W ∧ w.heap.size ≤ b
 inc:ps.Pairwise (· < ·)
 below:Below w.heap.size w W
 hR:w.heap.size ≤ R
end Go.Proofs.YtdplhgpeggcmdaaGreatDoor.table

/-! ### table: the document's table: New, Count, Left. -/
namespace Go.Proofs.YtdplhgpeggcmdaaGreatDoor.table
open Go.ChangeShapes Go.WideShapes Go.ChangeAt Go.RowKit Go.Shelf swar under trap meter group probe lens tail call
attribute [local go_sem] Oper.semAt_some stage.pureUpon move.stepUpon
set_option linter.unusedSimpArgs false
set_option linter.unusedVariables false

end Go.Proofs.YtdplhgpeggcmdaaGreatDoor.table

/-! ### table: the document's table: Count, Left, Where. -/
namespace Go.Proofs.YtdplhgpeggcmdaaGreatDoor.table
open Go.ChangeShapes Go.WideShapes Go.ChangeAt Go.RowKit Go.Shelf swar under trap meter group probe lens tail call
attribute [local go_sem] Oper.semAt_some stage.pureUpon move.stepUpon
set_option linter.unusedSimpArgs false
set_option linter.unusedVariables false

end Go.Proofs.YtdplhgpeggcmdaaGreatDoor.table

/-! ### table: the document's table: Where. -/
namespace Go.Proofs.YtdplhgpeggcmdaaGreatDoor.table
open Go.ChangeShapes Go.WideShapes Go.ChangeAt Go.RowKit Go.Shelf swar under trap meter group probe lens tail call
attribute [local go_sem] Oper.semAt_some stage.pureUpon move.stepUpon
set_option linter.unusedSimpArgs false
set_option linter.unusedVariables false

/-! ### the first place with a free slot -/
def frI (t:Tb) (l:List Nat):Int:=match l.find? (free t) with | some i => ((i:Nat):Int) | none => -1
def frK (t:Tb) (l:List Nat):Int:=match l.find? (free t) with | some i => least (t.gs i) | none => -1
/-! ### the walk, place by place -/
def preW (t:Tb) (h j:Nat):List Nat:=(path t h).take j
def atI (t:Tb) (key h:Nat):Int:=if isThere t key h = true then ((lastG t key h:Nat):Int) else -1
/-! ### an array of two in a block of its own -/
structure ABox (X:Nat) (a b:Int) (W:World):Prop where
 row:W.heap[X]? = some (.cells #[.int .i64 a,.int .i64 b] 181 (0,0))
section
variable {X:Nat} {a b:Int} {W W':World}
end
/-- within the walk: X: the four arrays -/
structure WI (w:World) (f:Rf) (t:Tb) (kj key h X g j:Nat) (W:World):Prop where
 at':WAt f t kj W
 past:Past (f.d t.n) w W
 r1:ABox X 0 0 W
 r2:ABox (X + 1) 0 0 W
 av:ABox (X + 2) (-1) (-1) W
 fr:ABox (X + 3) (frI t (preW t h j)) (frK t (preW t h j)) W
 row:∀ i,i < t.n → W.cell? ⟨g,i,none⟩ = some (.int .i64 (plc (h / 128) t.n i:Nat))
 no:∀ i ∈ preW t h j,stp t key h i = false
 gx:X + 4 ≤ g
 hX:w.heap.size ≤ X
 hf:∀ b,b ∈ f.d t.n ∨ b = f.G → b < X
/-- the parts of it that a round carries: between the steps -/
structure WB (w:World) (f:Rf) (t:Tb) (kj h X g:Nat) (fi fk:Int) (W:World):Prop where
 at':WAt f t kj W
 past:Past (f.d t.n) w W
 r1:ABox X 0 0 W
 r2:ABox (X + 1) 0 0 W
 av:ABox (X + 2) (-1) (-1) W
 fr:ABox (X + 3) fi fk W
 row:∀ i,i < t.n → W.cell? ⟨g,i,none⟩ = some (.int .i64 (plc (h / 128) t.n i:Nat))
 gx:X + 4 ≤ g
 hX:w.heap.size ≤ X
 hf:∀ b,b ∈ f.d t.n ∨ b = f.G → b < X
section
variable {w:World} {f:Rf} {t:Tb} {kj key h X g j:Nat} {fi fk:Int} {W W':World}
end
end Go.Proofs.YtdplhgpeggcmdaaGreatDoor.table

/-! ### TableRefB: several texts in one: plain facts and laws for the walks. No program is named. -/
/-! ### table: the document's table: Find, Put, Delete. -/
namespace Go.Proofs.YtdplhgpeggcmdaaGreatDoor.table
open Go.ChangeShapes Go.WideShapes Go.ChangeAt Go.RowKit Go.Shelf swar under trap meter group probe lens tail call
attribute [local go_sem] Oper.semAt_some stage.pureUpon move.stepUpon
set_option linter.unusedSimpArgs false
set_option linter.unusedVariables false

/-- behind Where: the two arrays, the box of the result -/
structure WF (w:World) (f:Rf) (t:Tb) (k ek ev eh E A:Nat) (a0 a1 f0 f1:Int) (W:World):Prop where
 st:WStep f t k w W
 e:EBox E ek ev eh W
 av:ABox A a0 a1 W
 fr:ABox (A + 1) f0 f1 W
 hE:w.heap.size ≤ E
 hA:w.heap.size ≤ A
section
variable {w:World} {f:Rf} {t t':Tb} {k k' ek ev eh E A:Nat} {a0 a1 f0 f1:Int} {W W':World}
end
/-! ### Put -/
end Go.Proofs.YtdplhgpeggcmdaaGreatDoor.table

/-! ### table: the document's table: Delete. -/
namespace Go.Proofs.YtdplhgpeggcmdaaGreatDoor.table
open Go.ChangeShapes Go.WideShapes Go.ChangeAt Go.RowKit Go.Shelf swar under trap meter group probe lens tail call
attribute [local go_sem] Oper.semAt_some stage.pureUpon move.stepUpon
set_option linter.unusedSimpArgs false
set_option linter.unusedVariables false

end Go.Proofs.YtdplhgpeggcmdaaGreatDoor.table

/-! ### TableRefC: several texts in one: plain facts and laws for the walks. No program is named. -/
/-! ### append of a slice of any form ('append(x, y...)'): the second slice may be nil; texts for the walks. No program is named. -/
namespace Go.Proofs.YtdplhgpeggcmdaaGreatDoor.app
open Go
set_option linter.unusedSimpArgs false
set_option linter.unusedVariables false

/-- a slice of m elements holds these cells -/
def HasRow (w:World) (x:Value) (m:Nat) (news:List Value):Prop:=∃ o c,x = .slice o m c ∧ ∀ j u,news[j]? = some u → ∃ a,o = some a ∧ w.cell? (a.add j) = some u
section
variable {P:Program} (w:World)
theorem run_append_val (base:Nat) (t ty e:TypeId) (i:TypeInfo) (z:Value) (size bytes:Nat) (ht:P.underlying t = some (.slice e)) (hi:P.info? e = some i) (hz:i.zero = some z)
  (hsize:i.size = size) (hby:i.bytes = bytes) (hzs:z.cells.size = size) (hsz:0 < size)
  (v:Value) (n:Nat) (xs:List Value) (hown:w.ownsRow base e size v n xs)
  (x:Value) (m:Nat) (news:List Value) (hx:HasRow w x m news) (hl:news.length = m * size) (h1:∀ u ∈ news,u.oneCell' = true)
  (h63:n + m ≤ maxLen) (hbytes:(n + m) * bytes ≤ 140737488355328) (hbase:base ≤ w.heap.size) :
  ∃ v' w',(Builtin.append_ #[t,t] ty #[v,x]).run P w = .ok v' w' ∧ w'.ownsRow base e size v' (n + m) (xs ++ news) ∧ w.grownBy w' v.ownBlock:=by
 obtain ⟨o,c,rfl,hc⟩:=hx
 cases o with
 | some a =>
  obtain ⟨v',w',h1',h2,h3,_⟩:=run_append_own (P:=P) w base t ty e i z size bytes ht hi hz hsize hby hzs hsz v n xs hown a m c news hl (fun j u hj => by obtain ⟨a',e,h⟩:=hc j u hj; cases e; exact h) h1 h63 hbytes hbase
  exact ⟨v',w',h1',h2,h3⟩
 | none =>
  have hn:news = []:=by
   cases hnw:news with
   | nil => rfl
   | cons u l => obtain ⟨a,e,_⟩:=hc 0 u (by rw [hnw]; rfl); cases e
  subst hn
  have hm:m = 0:=by
   rcases Nat.eq_zero_or_pos m with h | h
   ·exact h
   ·have:=Nat.mul_pos h hsz
    simp only [List.length_nil] at hl; omega
  subst hm
  refine ⟨v,w, ?_,by simpa using hown,⟨rfl,rfl,rfl,Nat.le_refl _,fun _ _ _ => rfl⟩⟩
  rcases hown.2 with ⟨rfl,rfl⟩ | ⟨g,cap,cur,rfl,hbg,hg,hnc,hcm,hcs,htake⟩
  ·simp [Builtin.append_,run_underlying ht,sizeOf,typeInfo,hi,Builtin.lenOf,Builtin.firstCells,loadCells,loadCellsFrom]
  ·simp [Builtin.append_,run_underlying ht,sizeOf,typeInfo,hi,Builtin.lenOf,Builtin.firstCells,loadCells,loadCellsFrom,hnc,storeCells]
theorem wp_append_val {o:Oper} {a:Act} {K:Act → World → Prop} {Q:Exit → Act → World → Prop} (s x:Operand) (t:TypeId)
  (ho:o.op = .call { callee:=.builtin .append,args:=#[s,x],argTypes:=#[t,t] })
  (base:Nat) (e:TypeId) (i:TypeInfo) (z:Value) (size bytes:Nat) (ht:P.underlying t = some (.slice e)) (hi:P.info? e = some i) (hz:i.zero = some z)
  (hsize:i.size = size) (hby:i.bytes = bytes) (hzs:z.cells.size = size) (hsz:0 < size)
  (v:Value) (n:Nat) (xs:List Value) (hs:a.eval s = v) (hown:w.ownsRow base e size v n xs)
  (y:Value) (m:Nat) (news:List Value) (hx:a.eval x = y) (hy:HasRow w y m news) (hl:news.length = m * size) (h1:∀ u ∈ news,u.oneCell' = true)
  (h63:n + m ≤ maxLen) (hbytes:(n + m) * bytes ≤ 140737488355328) (hbase:base ≤ w.heap.size)
  (h:∀ v' w',w'.ownsRow base e size v' (n + m) (xs ++ news) → w.grownBy w' v.ownBlock → K (a.put o.dst v') w'):o.wp P a w K Q:=by
 obtain ⟨v',w',hr,h2,h3⟩:=run_append_val (P:=P) w base t o.type e i z size bytes ht hi hz hsize hby hzs hsz v n xs hown y m news hy hl h1 h63 hbytes hbase
 unfold Oper.wp execOp
 simp only [ho,resolve,invoke,builtin,Sem.run_bind,Sem.run_pure,Result.andThen_ok,List.map_toArray,List.map_cons,List.map_nil,hs,hx,hr]
 exact h v' w' h2 h3
theorem step_append_val {ops:Array Oper} {o:Oper} {a:Act} {K:Act → World → Prop} {Q:Exit → Act → World → Prop} {E:Prop} (hgd:o.guard = none) (s x:Operand) (t:TypeId)
  (ho:o.op = .call { callee:=.builtin .append,args:=#[s,x],argTypes:=#[t,t] })
  (base:Nat) (e:TypeId) (i:TypeInfo) (z:Value) (size bytes:Nat) (ht:P.underlying t = some (.slice e)) (hi:P.info? e = some i) (hz:i.zero = some z)
  (hsize:i.size = size) (hby:i.bytes = bytes) (hzs:z.cells.size = size) (hsz:0 < size)
  (v:Value) (n:Nat) (xs:List Value) (hs:a.eval s = v) (hown:w.ownsRow base e size v n xs)
  (y:Value) (m:Nat) (news:List Value) (hx:a.eval x = y) (hy:HasRow w y m news) (hl:news.length = m * size) (h1:∀ u ∈ news,u.oneCell' = true)
  (h63:n + m ≤ maxLen) (hbytes:(n + m) * bytes ≤ 140737488355328) (hbase:base ≤ w.heap.size)
  (h:∀ v' w',w'.ownsRow base e size v' (n + m) (xs ++ news) → w.grownBy w' v.ownBlock → K (a.put o.dst v') w') :
  if Region.wanted o (yielded ops a.tmps) = true then Oper.wp P o a w K Q else E:=by
 have hw:Region.wanted o (yielded ops a.tmps) = true:=by simp [Region.wanted,hgd]
 rw [if_pos hw]
 exact wp_append_val w s x t ho base e i z size bytes ht hi hz hsize hby hzs hsz v n xs hs hown y m news hx hy hl h1 h63 hbytes hbase h
end
end Go.Proofs.YtdplhgpeggcmdaaGreatDoor.app

/-! ### table: the document's table: Take, All, Text. -/
namespace Go.Proofs.YtdplhgpeggcmdaaGreatDoor.table
open Go.ChangeShapes Go.WideShapes Go.ChangeAt Go.RowKit Go.Shelf swar under trap meter group probe lens tail call
attribute [local go_sem] Oper.semAt_some stage.pureUpon move.stepUpon
set_option linter.unusedSimpArgs false
set_option linter.unusedVariables false

theorem row_past {w w':World} {base:Nat} {e:TypeId} {size n:Nat} {v:Value} {xs:List Value} {d:List Nat} (h:w.ownsRow base e size v n xs) (hp:Past d w w') (hd:∀ b ∈ d,b < base):w'.ownsRow base e size v n xs:=by
 refine ⟨h.1, ?_⟩
 rcases h.2 with h2 | ⟨g,cap,cur,h1,h2,h3,h4⟩
 ·exact .inl h2
 ·exact .inr ⟨g,cap,cur,h1,h2,(hp.block g (Array.getElem?_eq_some_iff.1 h3).1 fun hm => by have:=hd g hm; omega).trans h3,h4⟩
/-- a group's first k slots, taken -/
def tk (t:Tb) (a:Nat):Nat → Tb
 | 0 => t
 | k + 1 => if ((tk t a k).gs a k).kind = 3 then (tk t a k).era a k else tk t a k
theorem tk_succ (t:Tb) (a k:Nat):tk t a (k + 1) = if ((tk t a k).gs a k).kind = 3 then (tk t a k).era a k else tk t a k:=rfl
theorem tk_n (t:Tb) (a:Nat):∀ k,(tk t a k).n = t.n
 | 0 => rfl
 | k + 1 => by rw [tk_succ]; split; exact tk_n t a k; exact tk_n t a k
theorem tk_ok {t:Tb} (h:t.Ok) {a:Nat} (ha:a < t.n):∀ k,k ≤ 8 → (tk t a k).Ok
 | 0,_ => h
 | k + 1,hk => by
  rw [tk_succ]; split
  ·next h3 => exact (tk_ok h ha k (by omega)).era (by rw [tk_n]; exact ha) (by omega) h3
  ·exact tk_ok h ha k (by omega)
/-- what stands behind slot k is as it was -/
theorem tk_far (t:Tb) (a:Nat):∀ k j,k ≤ j → (tk t a k).gs a j = t.gs a j
 | 0,j,_ => rfl
 | k + 1,j,hj => by
  rw [tk_succ]; split
  ·show (upd (tk t a k).gs a (((tk t a k).gs a).put k (erased ((tk t a k).gs a)))) a j = _
   rw [slot_other (by omega)]; exact tk_far t a k j (by omega)
  ·exact tk_far t a k j (by omega)
/-! ### All -/
/-- the cells of some entries -/
def rowsS (l:List Sl):List Value:=l.flatMap ent
/-- a slice of the call's own holds some entries -/
def KeptE (base:Nat) (W:World) (v:Value) (l:List Sl):Prop:=W.ownsRow base 44 3 v l.length (rowsS l)
/-! ### Text -/
end Go.Proofs.YtdplhgpeggcmdaaGreatDoor.table
