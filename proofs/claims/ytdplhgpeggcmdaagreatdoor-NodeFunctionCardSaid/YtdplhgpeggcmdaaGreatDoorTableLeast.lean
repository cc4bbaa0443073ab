/- table: Least. -/
import Derived.Test.YtdplhgpeggcmdaaGreatDoorTabSeek
import Derived.Test.YtdplhgpeggcmdaaGreatDoorTabMath
import Derived.LoopTactic
namespace Go.Proofs.YtdplhgpeggcmdaaGreatDoor.table
open Go.ChangeShapes Go.WideShapes Go.ChangeAt Go.RowKit Go.Shelf swar under trap meter group probe lens tail call split
attribute [local go_sem] Oper.semAt_some stage.pureUpon move.stepUpon
set_option linter.unusedSimpArgs false
set_option linter.unusedVariables false

/-- an entry's cells behind an address -/
def ECells (x:Addr) (j:Nat) (e:Sl) (W:World):Prop:=
 W.cell? (x.add (j * 3)) = some (.int .u64 (e.key:Nat)) ∧ W.cell? ⟨(x.add (j * 3)).block,(x.add (j * 3)).off + 1,none⟩ = some (.int .u64 (e.val:Nat)) ∧ W.cell? ⟨(x.add (j * 3)).block,(x.add (j * 3)).off + 2,none⟩ = some (.int .u64 (e.hash:Nat))
theorem ECells.read {x:Addr} {j:Nat} {e:Sl} {W W':World} (h:ECells x j e W) (hb:Below W.heap.size W W'):ECells x j e W':=⟨keepc hb h.1,keepc hb h.2.1,keepc hb h.2.2⟩
/-- a slice holds the entries of a list, in a block from b on -/
def ListAt (b:Nat) (o:Option Addr) (l:List Sl) (W:World):Prop:=∀ j (hj:j < l.length),∃ x,o = some x ∧ b ≤ (x.add (j * 3)).block ∧ ECells x j l[j] W
theorem ListAt.read {b:Nat} {o:Option Addr} {l:List Sl} {W W':World} (h:ListAt b o l W) (hb:Below W.heap.size W W'):ListAt b o l W':=fun j hj => by
 obtain ⟨x,e,h1,hc⟩:=h j hj; exact ⟨x,e,h1,hc.read hb⟩
theorem Kept.list {base:Nat} {W:World} {v:Value} {g:Gp} {l:List Nat} (h:group.Kept base W v g l):∃ o c,v = .slice o l.length c ∧ ListAt base o (l.map g) W:=by
 obtain ⟨hl,h⟩:=h
 rcases h with ⟨rfl,hn⟩ | ⟨B,c,cur,rfl,hbase,hB,hn,_,hs,ht⟩
 ·exact ⟨none,0,by rw [hn],fun j hj => by rw [List.length_map] at hj; omega⟩
 ·have hadd:∀ j,(⟨B,0,none⟩:Addr).add (j * 3) = ⟨B,j * 3,none⟩:=fun j => by unfold Addr.add; split <;> simp_all
  refine ⟨_,_,rfl,fun j hj => ⟨_,rfl,by rw [hadd]; exact hbase, ?_⟩⟩
  rw [List.length_map] at hj
  have hc:∀ d,d < 3 → W.cell? ⟨B,j * 3 + d,none⟩ = (ent (g l[j]))[d]?:=fun d hd => by
   rw [cell_of_row _ _ _ _ _ _ hB]
   have h1:=rows_at g l j d hj hd
   rw [← h1,← ht,List.getElem?_take,if_pos (by omega)]
   simp
  rw [List.getElem_map]
  unfold ECells
  rw [hadd]
  exact ⟨hc 0 (by decide),hc 1 (by decide),hc 2 (by decide)⟩
def sK (s:Option Sl):Nat:=match s with | some e => e.key | none => 0
def sV (s:Option Sl):Nat:=match s with | some e => e.val | none => 0
def sH (s:Option Sl):Nat:=match s with | some e => e.hash | none => 0
/-- what lies in memory between two rounds: the boxes from x on -/
structure LK (key hash:Nat) (L:Ln) (m:Mt) (w:World) (x k:Nat) (s:Option Sl) (W:World):Prop where
 ln:LnStep [] L (L.see m k) w W
 cl:W.cell? ⟨x,0,none⟩ = some (.pointer L.p)
 r:EBox (x + 1) 0 0 0 W
 f:EBox (x + 1 + 1) key 0 hash W
 b:EBox (x + 1 + 1 + 1) (sK s) (sV s) (sH s) W
section
variable {key hash:Nat} {L:Ln} {m:Mt} {w:World} {x k:Nat} {s:Option Sl} {W W':World}
theorem EBox.set {X a b c:Nat} {w:World} (h:EBox X a b c w) (a' b' c':Nat):EBox X a' b' c' (set3 X a' b' c' w):=by
 obtain ⟨h0,h1,h2,hf⟩:=h
 refine ⟨?_, ?_, ?_,fun i => by unfold set3; simp [go_sem,hf]⟩ <;> unfold set3 <;> simp [World.cell?_setCell_same',World.cell?_setCell_other,h0,h1,h2]
end
/-- the boxes, when they are new -/
abbrev boxE (k v h:Nat) (w:World):World:=w.alloc (.cells #[.int .u64 (k:Nat),.int .u64 (v:Nat),.int .u64 (h:Nat)] 44)
abbrev boxes (key hash:Nat) (L:Ln) (w:World):World:=boxE 0 0 0 (boxE key 0 hash (boxE 0 0 0 (w.alloc (.cells #[.pointer L.p] 52))))
end Go.Proofs.YtdplhgpeggcmdaaGreatDoor.table
