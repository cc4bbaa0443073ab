/- DualFunA: several texts in one: plain facts and laws for the walks. No program is named. -/
import Derived.Test.YtapndkabgjeofaaGreatDoorDualNk
import Derived.Test.YtapndkabgjeofaaGreatDoorDualEx
import Derived.Test.YtapndkabgjeofaaGreatDoorTableFun0
import Derived.LoopTactic

/-! ### DualFunction: what lies in memory: the old table, the dual, the meter, a row of what is there and one of the values. -/
namespace Go.Proofs.YtapndkabgjeofaaGreatDoor.dual
open Go.ChangeShapes Go.WideShapes Go.ChangeAt Go.RowKit Go.Shelf swar under trap meter group probe lens tail call table evac
set_option linter.unusedSimpArgs false
set_option linter.unusedVariables false

/-- the old table, and those that are to come -/
def kT (t0:Tb) (n1:Nat):Nat → Tb:=fun i => if i = 0 then t0 else Tb.new n1
theorem kT_up (t0 t':Tb) (n1:Nat):up (kT t0 n1) 0 t' = kT t' n1:=by
 funext i; unfold up kT
 by_cases h:i = 0
 ·rw [if_pos h,if_pos h]
 ·rw [if_neg h,if_neg h,if_neg h]
theorem kT_far {t0:Tb} {n1 j:Nat} (hj:1 ≤ j):kT t0 n1 j = Tb.new n1:=if_neg (by omega)
/-- what a row of values says of a partial function -/
def Vals (F:Nat → Option Nat) (V:Nat → Nat):Prop:=∀ k v,F k = some v → V k = v
/-! ### while keys are put into the old table -/
/-- F: what the table holds; G: what the rows say -/
structure KB (a:String → Addr) (w1:World) (H:Nat → Nat) (la T B n0 n1 Bt Bv k:Nat) (t0:Tb) (F G:Nat → Option Nat) (V:Nat → Nat) (W:World):Prop where
 re:Real a w1 (lay1 T B n0) (kT t0 n1) W
 rep:RepN H la t0 F
 rows:table.Rows Bt Bv la G V W
 len:t0.len ≤ (k:Int)
 bt:Bt ≠ T ∧ Bt ≠ B
 bv:Bv ≠ T ∧ Bv ≠ B
 ht:w1.heap.size ≤ Bt
 hv:w1.heap.size ≤ Bv
section
variable {a:String → Addr} {w1:World} {H:Nat → Nat} {la T B n0 n1 Bt Bv k:Nat} {t0:Tb} {F G:Nat → Option Nat} {V:Nat → Nat} {W W':World}
end
/-! ### the dual -/
structure DB (a:String → Addr) (w1:World) (H:Nat → Nat) (la:Nat) (Y:Lay) (D n1 d:Nat) (dp:Int) (q c:Nat) (t:Nat → Tb) (F:Nat → Option Nat) (fp:List Nat) (Bm Bt Bv p v:Nat) (G:Nat → Option Nat) (V:Nat → Nat) (W:World):Prop where
 dm:DM a w1 H la Y D n1 d dp q c t F fp W
 ma:MAt Bm 0 (Mk p v q) W
 rows:table.Rows Bt Bv la G V W
 nm:Bm ∉ fp
 nt:Bt ∉ fp
 nv:Bv ∉ fp
 mt:Bm ≠ Bt
 mv:Bm ≠ Bv
 hm:w1.heap.size ≤ Bm
 ht:w1.heap.size ≤ Bt
 hv:w1.heap.size ≤ Bv
section
variable {a:String → Addr} {w1:World} {H:Nat → Nat} {la:Nat} {Y:Lay} {D n1 d:Nat} {dp:Int} {q c:Nat} {t:Nat → Tb} {F:Nat → Option Nat} {fp:List Nat} {Bm Bt Bv p v:Nat} {G:Nat → Option Nat} {V:Nat → Nat} {W W':World}
end
/-- between two acts: k acts and q steps are done -/
def DS (a:String → Addr) (w1:World) (H:Nat → Nat) (la:Nat) (Y:Lay) (D n1 d:Nat) (dp:Int) (Bm Bt Bv lk q k:Nat) (W:World):Prop:=
 ∃ t F fp p v V,DB a w1 H la Y D n1 d dp q (lk + k) t F fp Bm Bt Bv p v F V W ∧ Vals F V ∧ p ≤ 200 * k ∧ v ≤ 600 * q
end Go.Proofs.YtapndkabgjeofaaGreatDoor.dual

/-! ### DualFunction: where more is in it than is asked. -/
namespace Go.Proofs.YtapndkabgjeofaaGreatDoor.dual
open Go.ChangeShapes Go.WideShapes Go.ChangeAt Go.RowKit Go.Shelf swar under trap meter group probe lens tail call table evac
attribute [local go_sem] Oper.semAt_some stage.pureUpon move.stepUpon
set_option linter.unusedSimpArgs false
set_option linter.unusedVariables false

/-- a row of numbers -/
def IntsAt (s:Option Addr) (la:Nat) (w:World) (zs:Nat → Int):Prop:=∀ j,j < la → ∃ x,s = some x ∧ ∀ W,Below w.heap.size w W → W.cell? (x.add j) = some (.int .i64 (zs j))
theorem IntsAt.below {s:Option Addr} {la:Nat} {w w':World} {zs:Nat → Int} (h:IntsAt s la w zs) (hb:Below w.heap.size w w'):IntsAt s la w' zs:=fun j hj => by
 obtain ⟨x,h1,h2⟩:=h j hj
 exact ⟨x,h1,fun W hW => h2 W (under.below_step hb hW)⟩
end Go.Proofs.YtapndkabgjeofaaGreatDoor.dual

/-! ### DualFunction: Delete, however often it is called. -/
namespace Go.Proofs.YtapndkabgjeofaaGreatDoor.dual
open Go.ChangeShapes Go.WideShapes Go.ChangeAt Go.RowKit Go.Shelf swar under trap meter group probe lens tail call table evac
set_option linter.unusedSimpArgs false
set_option linter.unusedVariables false

theorem act3 (kd ky nn:Int) (w:World):(w.alloc (.cells #[.int .i64 kd,.int .i64 ky,.int .i64 nn] 40)).cell? ⟨w.heap.size,0,none⟩ = some (.int .i64 kd) ∧ (w.alloc (.cells #[.int .i64 kd,.int .i64 ky,.int .i64 nn] 40)).cell? ⟨w.heap.size,1,none⟩ = some (.int .i64 ky) ∧ (w.alloc (.cells #[.int .i64 kd,.int .i64 ky,.int .i64 nn] 40)).cell? ⟨w.heap.size,2,none⟩ = some (.int .i64 nn):=by
 have h:=World.alloc_heap_new w (.cells #[.int .i64 kd,.int .i64 ky,.int .i64 nn] 40)
 exact ⟨by rw [cell_of_row _ _ _ _ _ _ h]; rfl,by rw [cell_of_row _ _ _ _ _ _ h]; rfl,by rw [cell_of_row _ _ _ _ _ _ h]; rfl⟩
def hOf (la:Nat) (hz:Nat → Nat) (k:Nat):Nat:=if k < la then hz k else 0
/-- the entry that a dual has of a key -/
def entD (t:Nat → Tb) (key hs:Nat) (J:List Nat):Nat × Nat × Nat:=((fndE t key hs J).key,(fndE t key hs J).val,(fndE t key hs J).hash)
/-- behind so many calls of Delete of the same key -/
def GD (a:String → Addr) (w1:World) (H:Nat → Nat) (la:Nat) (Y:Lay) (D n1 d:Nat) (dp:Int) (q c:Nat) (t:Nat → Tb) (F:Nat → Option Nat) (fp:List Nat) (Bm Bt Bv p v:Nat) (V:Nat → Nat) (key:Nat):Nat → World → Prop
 | 0,W => DB a w1 H la Y D n1 d dp q c t F fp Bm Bt Bv p v F V W
 | 1,W => ∃ p' t',p' ≤ p + 128 ∧ DB a w1 H la Y D n1 d dp q c t' (set F key none) fp Bm Bt Bv p' v F V W
 | _ + 2,W => ∃ t' m',DAt a w1 Y D n1 d dp q false t' fp W ∧ MAt Bm 0 m' W
section
variable {a:String → Addr} {w1:World} {H:Nat → Nat} {la:Nat} {Y:Lay} {D n1 d:Nat} {dp:Int} {q c:Nat} {t:Nat → Tb} {F:Nat → Option Nat} {fp:List Nat} {Bm Bt Bv p v:Nat} {V:Nat → Nat} {key:Nat} {W W':World}
end
end Go.Proofs.YtapndkabgjeofaaGreatDoor.dual
