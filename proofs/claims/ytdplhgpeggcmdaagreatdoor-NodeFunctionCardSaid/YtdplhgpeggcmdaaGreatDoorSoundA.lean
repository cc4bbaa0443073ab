/- SoundA: several texts in one: plain facts and laws for the walks. No program is named. -/
import Derived.Test.YtdplhgpeggcmdaaGreatDoorTabMath
import Derived.Test.YtdplhgpeggcmdaaGreatDoorTabRef
import Derived.Lib.Bytealg
import Derived.Test.YtdplhgpeggcmdaaGreatDoorTableSpots2
import Derived.LoopTactic
import Derived.Test.YtdplhgpeggcmdaaGreatDoorProbe

/-! ### sound: a table's shape, its entries one by one, the path of a hash. No function is walked here. -/
namespace Go.Proofs.YtdplhgpeggcmdaaGreatDoor.sound
open group probe swar table
set_option linter.unusedSimpArgs false
set_option linter.unusedVariables false

/-! ### the signs of a group -/
def txt (g:Gp):ByteArray:=ctrl.textN (word g)
/-! ### a shape -/
def oc (t:Tb) (k:Nat):Nat:=sumN k fun i => (opens (t.gs i)).toNat
def lks (t:Tb) (l:List Sl):List Nat:=l.map fun e => looks t e.key e.hash
def mx (l:List Nat):Nat:=l.foldl max 0
/-! ### entries are found, and no two have one key -/
def at_ (t:Tb) (p:Nat × Nat):Sl:=t.gs p.1 p.2
def poss (t:Tb) (n:Nat):List (Nat × Nat):=(List.range n).flatMap fun i => (fulls (t.gs i)).map fun k => (i,k)
/-! ### a path -/
def po (t:Tb) (h:Nat):List Nat:=table.seen (fun i => opens (t.gs i)) (path t h)
/-! ### Take: a row of removes -/
end Go.Proofs.YtdplhgpeggcmdaaGreatDoor.sound

/-! ### sound: strings.Count and strings.Contains at one byte; isOpen, slots, countsItsSlots. -/
namespace Go.Proofs.YtdplhgpeggcmdaaGreatDoor.sound
open Go.ChangeShapes Go.WideShapes Go.ChangeAt Go.RowKit Go.Shelf swar under trap meter group probe lens tail call table
attribute [local go_sem] Oper.semAt_some stage.pureUpon move.stepUpon
set_option linter.unusedSimpArgs false
set_option linter.unusedVariables false

/-! ### slots -/
abbrev shV (a b c d e f:Nat):Value:=.agg #[.int .i64 (a:Nat),.int .i64 (b:Nat),.int .i64 (c:Nat),.int .i64 (d:Nat),.int .i64 (e:Nat),.int .i64 (f:Nat)]
section
variable {X a b c d e f:Nat} {W W':World}
end
section
variable {w:World} {X:Nat} {v:Value} {l:List ByteArray} {a b c d:Nat} {W W':World}
end
/-! ### countsItsSlots -/
end Go.Proofs.YtdplhgpeggcmdaaGreatDoor.sound

/-! ### sound: the iterator over a table's entries, for every loop body. -/
namespace Go.Proofs.YtdplhgpeggcmdaaGreatDoor.sound
open Go.ChangeShapes Go.WideShapes Go.ChangeAt Go.RowKit Go.Shelf swar under trap meter group probe lens tail call table
attribute [local go_sem] Oper.semAt_some
set_option linter.unusedSimpArgs false
set_option linter.unusedVariables false

/-- the cells of all blocks but those of d are as they were -/
structure KpD (d:List Nat) (W W':World):Prop where
 size:W.heap.size ≤ W'.heap.size
 same:∀ (k:Nat) (o:Obj),k ∉ d → W.heap[k]? = some o → o.isCells = true → W'.heap[k]? = some o
theorem KpD.of {d:List Nat} {W W':World} (h:Past d W W'):KpD d W W':=⟨h.size,fun k o hk ho _ => (h.block k (Array.getElem?_eq_some_iff.1 ho).1 hk).trans ho⟩
theorem cells_of {W:World} {p:Addr} {v:Value} (h:W.cell? p = some v):∃ o,W.heap[p.block]? = some o ∧ o.isCells = true:=by
 unfold World.cell? at h
 cases ho:W.heap[p.block]? with
 | none => rw [ho] at h; simp at h
 | some o =>
  refine ⟨o,rfl, ?_⟩
  rw [ho] at h
  cases o <;> first | rfl | (simp at h)
theorem KpD.block {d:List Nat} {W W':World} (h:KpD d W W') {p:Addr} {v:Value} (hc:W.cell? p = some v) (hd:p.block ∉ d):W'.heap[p.block]? = W.heap[p.block]?:=by
 obtain ⟨o,h1,h2⟩:=cells_of hc
 exact (h.same p.block o hd h1 h2).trans h1.symm
theorem KpD.cell {d:List Nat} {W W':World} (h:KpD d W W') {p:Addr} {v:Value} (hc:W.cell? p = some v) (hd:p.block ∉ d):W'.cell? p = some v:=(World.cell?_of_block (w:=W) (h.block hc hd)).trans hc
/-- what the iterator asks of the world -/
structure It (ae:String → Addr) (T B:Nat) (t:Tb) (Bt:Nat) (W:World):Prop where
 rd:Ready ae T B t .nil Mt.zero W
 bt:W.cell? ⟨Bt,0,none⟩ = some (.pointer (some ⟨T,0,none⟩))
/-- the entries as far as entry number c -/
def pf (N c:Nat):List (Fin N):=(List.finRange N).take c
def entN (t:Tb) (x:Fin (ents t t.n).length):Sl:=(ents t t.n)[x.val]
theorem list_kp {b:Nat} {o:Option Addr} {l:List Sl} {W W':World} {d:List Nat} (h:ListAt b o l W) (hk:KpD d W W') (hd:∀ x ∈ d,x < b):ListAt b o l W':=fun j hj => by
 obtain ⟨x,e,hb,h1,h2,h3⟩:=h j hj
 have hn:(x.add (j * 3)).block ∉ d:=fun e => by have:=hd _ e; omega
 exact ⟨x,e,hb,hk.cell h1 hn,hk.cell h2 hn,hk.cell h3 hn⟩
end Go.Proofs.YtdplhgpeggcmdaaGreatDoor.sound
