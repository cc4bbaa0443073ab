/- DualFunA: several texts in one: plain facts and laws for the walks. No program is named. -/
import Derived.Test.YtdplhgpeggcmdaaGreatDoorDualNk
import Derived.Test.YtdplhgpeggcmdaaGreatDoorDualEx
import Derived.Test.YtdplhgpeggcmdaaGreatDoorTableFun0
import Derived.LoopTactic

/-! ### DualFunction: what lies in memory: the old table, the dual, the meter, a row of what is there and one of the values. -/
namespace Go.Proofs.YtdplhgpeggcmdaaGreatDoor.dual
open Go.ChangeShapes Go.WideShapes Go.ChangeAt Go.RowKit Go.Shelf swar under trap meter group probe lens tail call table evac
set_option linter.unusedSimpArgs false
set_option linter.unusedVariables false

/-- the old table, and those that are to come -/
def kT (t0:Tb) (n1:Nat):Nat → Tb:=fun i => if i = 0 then t0 else Tb.new n1
theorem kT_far {t0:Tb} {n1 j:Nat} (hj:1 ≤ j):kT t0 n1 j = Tb.new n1:=if_neg (by omega)
/-- what a row of values says of a partial function -/
def Vals (F:Nat → Option Nat) (V:Nat → Nat):Prop:=∀ k v,F k = some v → V k = v
theorem Vals.put {F:Nat → Option Nat} {V:Nat → Nat} (h:Vals F V) (k v:Nat):Vals (set F k (some v)) (fun j => if j = k then v else V j):=fun j u hj => by
 by_cases e:j = k
 ·subst e; rw [set_same] at hj; simpa using hj
 ·rw [set_ne _ _ e] at hj
  show (if j = k then v else V j) = u
  rw [if_neg e]; exact h j u hj
theorem Vals.del {F:Nat → Option Nat} {V:Nat → Nat} (h:Vals F V) (k:Nat):Vals (set F k none) V:=fun j u hj => by
 by_cases e:j = k
 ·subst e; rw [set_same] at hj; cases hj
 ·rw [set_ne _ _ e] at hj; exact h j u hj
/-! ### while keys are put into the old table -/
/-- F: what the table holds; G: what the rows say -/
structure KB (a:String → Addr) (w1:World) (H:Nat → Nat) (la T B n0 n1 Bt Bv k:Nat) (t0:Tb) (F G:Nat → Option Nat) (V:Nat → Nat) (W:World):Prop where
 re:Real a w1 (lay1 T B n0) (kT t0 n1) W
 rep:RepN H la t0 F
 rows:table.Rows Bt Bv la G V W
 len:t0.len ≤ (k:Int)
 bt:Bt ≠ T ∧ Bt ≠ B
 bv:Bv ≠ T ∧ Bv ≠ B
 ht:w1.heap.size ≤ Bt
 hv:w1.heap.size ≤ Bv
section
variable {a:String → Addr} {w1:World} {H:Nat → Nat} {la T B n0 n1 Bt Bv k:Nat} {t0:Tb} {F G:Nat → Option Nat} {V:Nat → Nat} {W W':World}
end
/-! ### the dual -/
structure DB (a:String → Addr) (w1:World) (H:Nat → Nat) (la:Nat) (Y:Lay) (D n1 d:Nat) (dp:Int) (q c:Nat) (t:Nat → Tb) (F:Nat → Option Nat) (fp:List Nat) (Bm Bt Bv p v:Nat) (G:Nat → Option Nat) (V:Nat → Nat) (W:World):Prop where
 dm:DM a w1 H la Y D n1 d dp q c t F fp W
 ma:MAt Bm 0 (Mk p v q) W
 rows:table.Rows Bt Bv la G V W
 nm:Bm ∉ fp
 nt:Bt ∉ fp
 nv:Bv ∉ fp
 mt:Bm ≠ Bt
 mv:Bm ≠ Bv
 hm:w1.heap.size ≤ Bm
 ht:w1.heap.size ≤ Bt
 hv:w1.heap.size ≤ Bv
section
variable {a:String → Addr} {w1:World} {H:Nat → Nat} {la:Nat} {Y:Lay} {D n1 d:Nat} {dp:Int} {q c:Nat} {t:Nat → Tb} {F:Nat → Option Nat} {fp:List Nat} {Bm Bt Bv p v:Nat} {G:Nat → Option Nat} {V:Nat → Nat} {W W':World}
/-- blocks that are there are no new ones -/
theorem DAt.flt {tk:Bool} (h:DAt a w1 Y D n1 d dp q tk t fp W):∀ b ∈ fp,b < W.heap.size:=fun b hb => by
 have hN:=h.N
 rcases h with ⟨hq,_,Q,GB,cB,GT,cT,h,rfl⟩ | ⟨hq,_,Q,GT,cT,GU,cU,Vv,h,rfl⟩
 ·have tl:∀ b ∈ Y.tall,b < W.heap.size:=fun b hb => by
   obtain ⟨i,hi,hb⟩:=List.mem_flatMap.1 hb
   have hi:=List.mem_range.1 hi
   by_cases e:i = 0
   ·subst e
    have h0:=h.re.at' 0 Nat.one_pos
    have l1:=h0.lt
    have l2:=h0.lb
    have hb':b = Y.T 0 ∨ b = Y.B 0:=by simpa using hb
    rcases hb' with rfl | rfl
    ·exact l1
    ·exact l2
   ·have h0:=h.tb i (by omega) hi
    have l1:=h0.lt
    have l2:=h0.lb
    have hb':b = Y.T i ∨ b = Y.B i:=by simpa using hb
    rcases hb' with rfl | rfl
    ·exact l1
    ·exact l2
  simp only [fpP,List.mem_cons] at hb
  rcases hb with rfl | rfl | rfl | rfl | rfl | hb
  ·exact World.block_lt_of_cell? _ _ (h.gb 1 (by omega) (by omega))
  ·exact World.block_lt_of_cell? _ _ h.gt
  ·exact h.row.lt
  ·exact (h.bx 1 (by omega) (by omega)).lt
  ·exact (h.bx (Y.N - 1) (by omega) (by omega)).lt
  ·exact tl b hb
 ·simp only [fpM,List.mem_cons] at hb
  obtain ⟨sB,hr⟩:=h.row
  rcases hb with rfl | rfl | rfl | rfl | hb
  ·exact World.block_lt_of_cell? _ _ (h.gt 0 (by omega))
  ·exact World.block_lt_of_cell? _ _ (h.gu 1 (by omega) (by omega))
  ·exact h.ev.lt
  ·exact hr.lt
  ·exact h.re.lt b hb
end
/-- between two acts: k acts and q steps are done -/
def DS (a:String → Addr) (w1:World) (H:Nat → Nat) (la:Nat) (Y:Lay) (D n1 d:Nat) (dp:Int) (Bm Bt Bv lk q k:Nat) (W:World):Prop:=
 ∃ t F fp p v V,DB a w1 H la Y D n1 d dp q (lk + k) t F fp Bm Bt Bv p v F V W ∧ Vals F V ∧ p ≤ 200 * k ∧ v ≤ 600 * q
end Go.Proofs.YtdplhgpeggcmdaaGreatDoor.dual

/-! ### DualFunction: where more is in it than is asked. -/
namespace Go.Proofs.YtdplhgpeggcmdaaGreatDoor.dual
open Go.ChangeShapes Go.WideShapes Go.ChangeAt Go.RowKit Go.Shelf swar under trap meter group probe lens tail call table evac
attribute [local go_sem] Oper.semAt_some stage.pureUpon move.stepUpon
set_option linter.unusedSimpArgs false
set_option linter.unusedVariables false

/-- a row of numbers -/
def IntsAt (s:Option Addr) (la:Nat) (w:World) (zs:Nat → Int):Prop:=∀ j,j < la → ∃ x,s = some x ∧ ∀ W,Below w.heap.size w W → W.cell? (x.add j) = some (.int .i64 (zs j))
end Go.Proofs.YtdplhgpeggcmdaaGreatDoor.dual

/-! ### DualFunction: Delete, however often it is called. -/
namespace Go.Proofs.YtdplhgpeggcmdaaGreatDoor.dual
open Go.ChangeShapes Go.WideShapes Go.ChangeAt Go.RowKit Go.Shelf swar under trap meter group probe lens tail call table evac
set_option linter.unusedSimpArgs false
set_option linter.unusedVariables false

def hOf (la:Nat) (hz:Nat → Nat) (k:Nat):Nat:=if k < la then hz k else 0
theorem hOf_lt {la:Nat} {hz:Nat → Nat} {k:Nat} (h:k < la):hOf la hz k = hz k:=if_pos h
/-- the entry that a dual has of a key -/
def entD (t:Nat → Tb) (key hs:Nat) (J:List Nat):Nat × Nat × Nat:=((fndE t key hs J).key,(fndE t key hs J).val,(fndE t key hs J).hash)
/-- behind so many calls of Delete of the same key -/
def GD (a:String → Addr) (w1:World) (H:Nat → Nat) (la:Nat) (Y:Lay) (D n1 d:Nat) (dp:Int) (q c:Nat) (t:Nat → Tb) (F:Nat → Option Nat) (fp:List Nat) (Bm Bt Bv p v:Nat) (V:Nat → Nat) (key:Nat):Nat → World → Prop
 | 0,W => DB a w1 H la Y D n1 d dp q c t F fp Bm Bt Bv p v F V W
 | 1,W => ∃ p' t',p' ≤ p + 128 ∧ DB a w1 H la Y D n1 d dp q c t' (set F key none) fp Bm Bt Bv p' v F V W
 | _ + 2,W => ∃ t' m',DAt a w1 Y D n1 d dp q false t' fp W ∧ MAt Bm 0 m' W
section
variable {a:String → Addr} {w1:World} {H:Nat → Nat} {la:Nat} {Y:Lay} {D n1 d:Nat} {dp:Int} {q c:Nat} {t:Nat → Tb} {F:Nat → Option Nat} {fp:List Nat} {Bm Bt Bv p v:Nat} {V:Nat → Nat} {key:Nat} {W W':World}
end
end Go.Proofs.YtdplhgpeggcmdaaGreatDoor.dual
