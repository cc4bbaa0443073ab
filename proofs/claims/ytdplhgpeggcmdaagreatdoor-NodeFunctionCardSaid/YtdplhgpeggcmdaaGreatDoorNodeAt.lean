/- node: where a node lies; the functions that hand on to its table or dual. -/
import Derived.Test.YtdplhgpeggcmdaaGreatDoorDualAt
import Derived.Test.YtdplhgpeggcmdaaGreatDoorTableLeast
import Derived.Handy
import Derived.LoopTactic
import Derived.BigQuiet
namespace Go.Proofs.YtdplhgpeggcmdaaGreatDoor.node
open Go.ChangeShapes Go.WideShapes Go.ChangeAt Go.RowKit Go.Shelf swar under trap meter group probe lens tail call table evac dual
attribute [local go_sem] Oper.semAt_some stage.pureUpon move.stepUpon
set_option linter.unusedSimpArgs false
set_option linter.unusedVariables false

/-! ### a node's box -/
structure NRow (X p d T:Nat) (k:Int) (pd:Option Addr) (W:World):Prop where
 row:W.heap[X]? = some (.cells #[.int .i64 (p:Nat),.int .i64 (d:Nat),.pointer (some ⟨T,0,none⟩),.int .i64 k,.pointer pd] 92 (0,0))
section
variable {X p d T:Nat} {k:Int} {pd:Option Addr} {W W':World}
theorem NRow.lt (h:NRow X p d T k pd W):X < W.heap.size:=(Array.getElem?_eq_some_iff.1 h.row).1
theorem NRow.keep (h:NRow X p d T k pd W) (hb:Below W.heap.size W W'):NRow X p d T k pd W':=⟨(hb.block X h.lt).trans h.row⟩
theorem NRow.past {l:List Nat} (h:NRow X p d T k pd W) (hp:Past l W W') (hX:X ∉ l):NRow X p d T k pd W':=⟨(hp.block X h.lt hX).trans h.row⟩
theorem NRow.fz (h:NRow X p d T k pd W) (i:Nat):W.frozen? ⟨X,i,none⟩ = false:=frozen_of_row _ _ i _ _ h.row
theorem NRow.c0 (h:NRow X p d T k pd W):W.cell? ⟨X,0,none⟩ = some (.int .i64 (p:Nat)):=by rw [cell_of_row _ _ _ _ _ _ h.row]; rfl
theorem NRow.c1 (h:NRow X p d T k pd W):W.cell? ⟨X,1,none⟩ = some (.int .i64 (d:Nat)):=by rw [cell_of_row _ _ _ _ _ _ h.row]; rfl
theorem NRow.c2 (h:NRow X p d T k pd W):W.cell? ⟨X,2,none⟩ = some (.pointer (some ⟨T,0,none⟩)):=by rw [cell_of_row _ _ _ _ _ _ h.row]; rfl
theorem NRow.c3 (h:NRow X p d T k pd W):W.cell? ⟨X,3,none⟩ = some (.int .i64 k):=by rw [cell_of_row _ _ _ _ _ _ h.row]; rfl
theorem NRow.c4 (h:NRow X p d T k pd W):W.cell? ⟨X,4,none⟩ = some (.pointer pd):=by rw [cell_of_row _ _ _ _ _ _ h.row]; rfl
theorem NRow.set0 (h:NRow X p d T k pd W) (x:Nat):NRow X x d T k pd (W.setCell ⟨X,0,none⟩ (.int .i64 (x:Nat))):=⟨heap_setCell_same W X 0 _ _ _ h.row⟩
theorem NRow.set1 (h:NRow X p d T k pd W) (x:Nat):NRow X p x T k pd (W.setCell ⟨X,1,none⟩ (.int .i64 (x:Nat))):=⟨heap_setCell_same W X 1 _ _ _ h.row⟩
theorem NRow.set2 (h:NRow X p d T k pd W) (x:Nat):NRow X p d x k pd (W.setCell ⟨X,2,none⟩ (.pointer (some ⟨x,0,none⟩))):=⟨heap_setCell_same W X 2 _ _ _ h.row⟩
theorem NRow.set3 (h:NRow X p d T k pd W) (x:Int):NRow X p d T x pd (W.setCell ⟨X,3,none⟩ (.int .i64 x)):=⟨heap_setCell_same W X 3 _ _ _ h.row⟩
theorem NRow.set4 (h:NRow X p d T k pd W) (x:Option Addr):NRow X p d T k x (W.setCell ⟨X,4,none⟩ (.pointer x)):=⟨heap_setCell_same W X 4 _ _ _ h.row⟩
theorem NRow.of_box (p d T:Nat) (k:Int) (pd:Option Addr) (w:World):NRow w.heap.size p d T k pd (w.alloc (.cells #[.int .i64 (p:Nat),.int .i64 (d:Nat),.pointer (some ⟨T,0,none⟩),.int .i64 k,.pointer pd] 92)):=⟨World.alloc_heap_new w _⟩
end
theorem szNode:(Tryz.prog.info? 92).map (·.size) = some 5:=by kernel_rfl
theorem node_some (x:Addr) (w:World):(Op.equalIn 10000 25 (.pointer (some x)) (.pointer none)).run Tryz.prog w = .ok false w:=by
 obtain ⟨j,hj,_⟩:=Option.map_eq_some_iff.1 szNode
 have h:∀ d:Nat,(Op.equalIn (d + 1) 25 (.pointer (some x)) (.pointer none)).run Tryz.prog w = .ok false w:=fun d => by
  simp [Op.equalIn,run_underlying Tryz.underlying25,sizeOf,typeInfo,hj,sameAddr]
 exact h 9999
theorem node_none (w:World):(Op.equalIn 10000 25 (.pointer none) (.pointer none)).run Tryz.prog w = .ok true w:=by
 obtain ⟨j,hj,_⟩:=Option.map_eq_some_iff.1 szNode
 have h:∀ d:Nat,(Op.equalIn (d + 1) 25 (.pointer none) (.pointer none)).run Tryz.prog w = .ok true w:=fun d => by
  simp [Op.equalIn,run_underlying Tryz.underlying25,sizeOf,typeInfo,hj,sameAddr]
 exact h 9999
theorem szDl:(Tryz.prog.info? 197).map (·.size) = some 7:=by kernel_rfl
theorem dl_some (x:Addr) (w:World):(Op.equalIn 10000 90 (.pointer (some x)) (.pointer none)).run Tryz.prog w = .ok false w:=by
 obtain ⟨j,hj,_⟩:=Option.map_eq_some_iff.1 szDl
 have h:∀ d:Nat,(Op.equalIn (d + 1) 90 (.pointer (some x)) (.pointer none)).run Tryz.prog w = .ok false w:=fun d => by
  simp [Op.equalIn,run_underlying Tryz.underlying90,sizeOf,typeInfo,hj,sameAddr]
 exact h 9999
theorem dl_none (w:World):(Op.equalIn 10000 90 (.pointer none) (.pointer none)).run Tryz.prog w = .ok true w:=by
 obtain ⟨j,hj,_⟩:=Option.map_eq_some_iff.1 szDl
 have h:∀ d:Nat,(Op.equalIn (d + 1) 90 (.pointer none) (.pointer none)).run Tryz.prog w = .ok true w:=fun d => by
  simp [Op.equalIn,run_underlying Tryz.underlying90,sizeOf,typeInfo,hj,sameAddr]
 exact h 9999
/-! ### what has the entries: its table, or its dual -/
section
variable {X p d T:Nat} {k:Int} {w:World}
theorem cur_off (h:NRow X p d T k none w):Calls Tryz.prog 52 #[.pointer (some ⟨X,0,none⟩)] w fun e w' => e = .returned (.iface 86 (.pointer (some ⟨T,0,none⟩))) ∧ w = w':=by
 have c2:=h.c2
 have c4:=h.c4
 have hn:=dl_none
 clear h
 go_enter Tryz.func52,Tryz.ntmps52
 go_wp2
 go_ret
 exact ⟨rfl,rfl⟩
theorem cur_on {D:Nat} (h:NRow X p d T k (some ⟨D,0,none⟩) w):Calls Tryz.prog 52 #[.pointer (some ⟨X,0,none⟩)] w fun e w' => e = .returned (.iface 90 (.pointer (some ⟨D,0,none⟩))) ∧ w = w':=by
 have c4:=h.c4
 have hn:=dl_some
 clear h
 go_enter Tryz.func52,Tryz.ntmps52
 go_wp2
 go_ret
 exact ⟨rfl,rfl⟩
/-! ### Find, Delete, Least: as the table or the dual tells them -/
theorem pnew {l:List Nat} {w W:World} (hp:Past l w W) {B:Nat} (hB:w.heap.size ≤ B) (i:Nat) (u:Value):Past l w (W.setCell ⟨B,i,none⟩ u):=⟨hp.os,hp.tape,hp.output,by simpa [World.setCell] using hp.size,fun k hk hn => (Below.heap_setCell _ _ _ _ (by show k ≠ B; omega)).trans (hp.block k hk hn)⟩
set_option maxRecDepth 20000 in
theorem find_off {Q0:Nat} (h:NRow X p d T k none w) (lp:Option Addr) (key hs:Nat) {l:List Nat} {R:Nat → Nat → Nat → Bool → World → Prop} (hl:∀ b ∈ l,b < w.heap.size)
  (hc:∀ W,Below w.heap.size w W → Calls Tryz.prog 212 #[.pointer (some ⟨T,0,none⟩),.agg #[.pointer lp],.int .u64 (key:Nat),.int .u64 (hs:Nat)] W fun e w' => ∃ x y z b,e = .returned (.tuple #[group.entV x y z,.bool b]) ∧ Past l W w' ∧ R x y z b w')
  (hR:∀ x y z b w' B i u,R x y z b w' → w.heap.size ≤ B → R x y z b (w'.setCell ⟨B,i,none⟩ u)) :
  Calls Tryz.prog 16 #[.pointer (some ⟨X,0,none⟩),.agg #[.pointer lp],.int .u64 (key:Nat),.int .u64 (hs:Nat)] w fun e w' => ∃ x y z b,e = .returned (.tuple #[group.entV x y z,.bool b]) ∧ Past l w w' ∧ R x y z b w':=by
 have HH:=Lib.hid h
 have hb2:=two_new w (.cells #[.pointer lp] 52) (.cells #[.int .u64 0,.int .u64 0,.int .u64 0] 44)
 have cU:=fun W (hb:Below w.heap.size w W) => cur_off (HH.out.keep hb)
 have hV:=(EBox.second 0 0 0 w (.cells #[.pointer lp] 52)).keep (under.drew_below _)
 have hL0:((w.alloc (.cells #[.pointer lp] 52)).alloc (.cells #[.int .u64 0,.int .u64 0,.int .u64 0] 44)).cell? ⟨w.heap.size,0,none⟩ = some (.pointer lp):=keepc (new_block _ _) (newc w _ _)
 have hL1:=keepc (under.drew_below _) hL0
 have hb3:=under.below_step hb2 (under.drew_below _)
 have HC:=Lib.hid hc
 have HL:=Lib.hid hl
 have HR:=Lib.hid hR
 clear h hc hl hR hb2 hL0
 go_enter Tryz.func16,Tryz.ntmps16
 go_upto_region 1 with (fail)
 go_region_with (first
  | (go_at_call 52; refine (cU _ hb3).mono ?_; rintro e w1 ⟨rfl,rfl⟩)
  | (go_at_call 212; refine (HC.out _ hb3).mono ?_; rintro e w2 ⟨x,y,z,b,rfl,hp2,hr2⟩; have hV2:=hV.past hp2 (fun e => by have:=HL.out _ e; omega); have y0:=hV2.c0; have y1:=hV2.c1; have y2:=hV2.c2; have y3:=hV2.fz))
 all_goals
  have hV3:=hV2.set x y z
  unfold set3 at hV3
  have z0:=hV3.c0
  have z1:=hV3.c1
  have z2:=hV3.c2
  have hp3:=pnew (pnew (pnew ((Past.of hb3).trans hp2) (Nat.le_succ _) 0 (.int .u64 (x:Nat))) (Nat.le_succ _) 1 (.int .u64 (y:Nat))) (Nat.le_succ _) 2 (.int .u64 (z:Nat))
  have hr3:=HR.out _ _ _ _ _ _ 2 (.int .u64 (z:Nat)) (HR.out _ _ _ _ _ _ 1 (.int .u64 (y:Nat)) (HR.out _ _ _ _ _ _ 0 (.int .u64 (x:Nat)) hr2 (Nat.le_succ _)) (Nat.le_succ _)) (Nat.le_succ _)
  clear y0 y1 y2 hV3 hV2 hp2 hr2 hV hL1
  go_wp2
  exact bodyPost_ret (v:=.tuple #[group.entV x y z,.bool b]) (by simp [results,Tryz.results16,go_sem,z0,z1,z2]) rfl ⟨x,y,z,b,rfl,hp3,hr3⟩
set_option maxRecDepth 20000 in
theorem find_on {D:Nat} (h:NRow X p d T k (some ⟨D,0,none⟩) w) (lp:Option Addr) (key hs:Nat) {l:List Nat} {R:Nat → Nat → Nat → Bool → World → Prop} (hl:∀ b ∈ l,b < w.heap.size)
  (hc:∀ W,Below w.heap.size w W → Calls Tryz.prog 216 #[.pointer (some ⟨D,0,none⟩),.agg #[.pointer lp],.int .u64 (key:Nat),.int .u64 (hs:Nat)] W fun e w' => ∃ x y z b,e = .returned (.tuple #[group.entV x y z,.bool b]) ∧ Past l W w' ∧ R x y z b w')
  (hR:∀ x y z b w' B i u,R x y z b w' → w.heap.size ≤ B → R x y z b (w'.setCell ⟨B,i,none⟩ u)) :
  Calls Tryz.prog 16 #[.pointer (some ⟨X,0,none⟩),.agg #[.pointer lp],.int .u64 (key:Nat),.int .u64 (hs:Nat)] w fun e w' => ∃ x y z b,e = .returned (.tuple #[group.entV x y z,.bool b]) ∧ Past l w w' ∧ R x y z b w':=by
 have HH:=Lib.hid h
 have hb2:=two_new w (.cells #[.pointer lp] 52) (.cells #[.int .u64 0,.int .u64 0,.int .u64 0] 44)
 have cU:=fun W (hb:Below w.heap.size w W) => cur_on (HH.out.keep hb)
 have hV:=(EBox.second 0 0 0 w (.cells #[.pointer lp] 52)).keep (under.drew_below _)
 have hL0:((w.alloc (.cells #[.pointer lp] 52)).alloc (.cells #[.int .u64 0,.int .u64 0,.int .u64 0] 44)).cell? ⟨w.heap.size,0,none⟩ = some (.pointer lp):=keepc (new_block _ _) (newc w _ _)
 have hL1:=keepc (under.drew_below _) hL0
 have hb3:=under.below_step hb2 (under.drew_below _)
 have HC:=Lib.hid hc
 have HL:=Lib.hid hl
 have HR:=Lib.hid hR
 clear h hc hl hR hb2 hL0
 go_enter Tryz.func16,Tryz.ntmps16
 go_upto_region 1 with (fail)
 go_region_with (first
  | (go_at_call 52; refine (cU _ hb3).mono ?_; rintro e w1 ⟨rfl,rfl⟩)
  | (go_at_call 216; refine (HC.out _ hb3).mono ?_; rintro e w2 ⟨x,y,z,b,rfl,hp2,hr2⟩; have hV2:=hV.past hp2 (fun e => by have:=HL.out _ e; omega); have y0:=hV2.c0; have y1:=hV2.c1; have y2:=hV2.c2; have y3:=hV2.fz))
 all_goals
  have hV3:=hV2.set x y z
  unfold set3 at hV3
  have z0:=hV3.c0
  have z1:=hV3.c1
  have z2:=hV3.c2
  have hp3:=pnew (pnew (pnew ((Past.of hb3).trans hp2) (Nat.le_succ _) 0 (.int .u64 (x:Nat))) (Nat.le_succ _) 1 (.int .u64 (y:Nat))) (Nat.le_succ _) 2 (.int .u64 (z:Nat))
  have hr3:=HR.out _ _ _ _ _ _ 2 (.int .u64 (z:Nat)) (HR.out _ _ _ _ _ _ 1 (.int .u64 (y:Nat)) (HR.out _ _ _ _ _ _ 0 (.int .u64 (x:Nat)) hr2 (Nat.le_succ _)) (Nat.le_succ _)) (Nat.le_succ _)
  clear y0 y1 y2 hV3 hV2 hp2 hr2 hV hL1
  go_wp2
  exact bodyPost_ret (v:=.tuple #[group.entV x y z,.bool b]) (by simp [results,Tryz.results16,go_sem,z0,z1,z2]) rfl ⟨x,y,z,b,rfl,hp3,hr3⟩
set_option maxRecDepth 20000 in
theorem delete_off {Q0:Nat} (h:NRow X p d T k none w) (lp:Option Addr) (key hs:Nat) {l:List Nat} {R:Nat → Nat → Nat → Bool → World → Prop} (hl:∀ b ∈ l,b < w.heap.size)
  (hc:∀ W,Below w.heap.size w W → Calls Tryz.prog 185 #[.pointer (some ⟨T,0,none⟩),.agg #[.pointer lp],.int .u64 (key:Nat),.int .u64 (hs:Nat)] W fun e w' => ∃ x y z b,e = .returned (.tuple #[group.entV x y z,.bool b]) ∧ Past l W w' ∧ R x y z b w')
  (hR:∀ x y z b w' B i u,R x y z b w' → w.heap.size ≤ B → R x y z b (w'.setCell ⟨B,i,none⟩ u)) :
  Calls Tryz.prog 14 #[.pointer (some ⟨X,0,none⟩),.agg #[.pointer lp],.int .u64 (key:Nat),.int .u64 (hs:Nat)] w fun e w' => ∃ x y z b,e = .returned (.tuple #[group.entV x y z,.bool b]) ∧ Past l w w' ∧ R x y z b w':=by
 have HH:=Lib.hid h
 have hb2:=two_new w (.cells #[.pointer lp] 52) (.cells #[.int .u64 0,.int .u64 0,.int .u64 0] 44)
 have cU:=fun W (hb:Below w.heap.size w W) => cur_off (HH.out.keep hb)
 have hV:=(EBox.second 0 0 0 w (.cells #[.pointer lp] 52)).keep (under.drew_below _)
 have hL0:((w.alloc (.cells #[.pointer lp] 52)).alloc (.cells #[.int .u64 0,.int .u64 0,.int .u64 0] 44)).cell? ⟨w.heap.size,0,none⟩ = some (.pointer lp):=keepc (new_block _ _) (newc w _ _)
 have hL1:=keepc (under.drew_below _) hL0
 have hb3:=under.below_step hb2 (under.drew_below _)
 have HC:=Lib.hid hc
 have HL:=Lib.hid hl
 have HR:=Lib.hid hR
 clear h hc hl hR hb2 hL0
 go_enter Tryz.func14,Tryz.ntmps14
 go_upto_region 1 with (fail)
 go_region_with (first
  | (go_at_call 52; refine (cU _ hb3).mono ?_; rintro e w1 ⟨rfl,rfl⟩)
  | (go_at_call 185; refine (HC.out _ hb3).mono ?_; rintro e w2 ⟨x,y,z,b,rfl,hp2,hr2⟩; have hV2:=hV.past hp2 (fun e => by have:=HL.out _ e; omega); have y0:=hV2.c0; have y1:=hV2.c1; have y2:=hV2.c2; have y3:=hV2.fz))
 all_goals
  have hV3:=hV2.set x y z
  unfold set3 at hV3
  have z0:=hV3.c0
  have z1:=hV3.c1
  have z2:=hV3.c2
  have hp3:=pnew (pnew (pnew ((Past.of hb3).trans hp2) (Nat.le_succ _) 0 (.int .u64 (x:Nat))) (Nat.le_succ _) 1 (.int .u64 (y:Nat))) (Nat.le_succ _) 2 (.int .u64 (z:Nat))
  have hr3:=HR.out _ _ _ _ _ _ 2 (.int .u64 (z:Nat)) (HR.out _ _ _ _ _ _ 1 (.int .u64 (y:Nat)) (HR.out _ _ _ _ _ _ 0 (.int .u64 (x:Nat)) hr2 (Nat.le_succ _)) (Nat.le_succ _)) (Nat.le_succ _)
  clear y0 y1 y2 hV3 hV2 hp2 hr2 hV hL1
  go_wp2
  exact bodyPost_ret (v:=.tuple #[group.entV x y z,.bool b]) (by simp [results,Tryz.results14,go_sem,z0,z1,z2]) rfl ⟨x,y,z,b,rfl,hp3,hr3⟩
set_option maxRecDepth 20000 in
theorem delete_on {D:Nat} (h:NRow X p d T k (some ⟨D,0,none⟩) w) (lp:Option Addr) (key hs:Nat) {l:List Nat} {R:Nat → Nat → Nat → Bool → World → Prop} (hl:∀ b ∈ l,b < w.heap.size)
  (hc:∀ W,Below w.heap.size w W → Calls Tryz.prog 215 #[.pointer (some ⟨D,0,none⟩),.agg #[.pointer lp],.int .u64 (key:Nat),.int .u64 (hs:Nat)] W fun e w' => ∃ x y z b,e = .returned (.tuple #[group.entV x y z,.bool b]) ∧ Past l W w' ∧ R x y z b w')
  (hR:∀ x y z b w' B i u,R x y z b w' → w.heap.size ≤ B → R x y z b (w'.setCell ⟨B,i,none⟩ u)) :
  Calls Tryz.prog 14 #[.pointer (some ⟨X,0,none⟩),.agg #[.pointer lp],.int .u64 (key:Nat),.int .u64 (hs:Nat)] w fun e w' => ∃ x y z b,e = .returned (.tuple #[group.entV x y z,.bool b]) ∧ Past l w w' ∧ R x y z b w':=by
 have HH:=Lib.hid h
 have hb2:=two_new w (.cells #[.pointer lp] 52) (.cells #[.int .u64 0,.int .u64 0,.int .u64 0] 44)
 have cU:=fun W (hb:Below w.heap.size w W) => cur_on (HH.out.keep hb)
 have hV:=(EBox.second 0 0 0 w (.cells #[.pointer lp] 52)).keep (under.drew_below _)
 have hL0:((w.alloc (.cells #[.pointer lp] 52)).alloc (.cells #[.int .u64 0,.int .u64 0,.int .u64 0] 44)).cell? ⟨w.heap.size,0,none⟩ = some (.pointer lp):=keepc (new_block _ _) (newc w _ _)
 have hL1:=keepc (under.drew_below _) hL0
 have hb3:=under.below_step hb2 (under.drew_below _)
 have HC:=Lib.hid hc
 have HL:=Lib.hid hl
 have HR:=Lib.hid hR
 clear h hc hl hR hb2 hL0
 go_enter Tryz.func14,Tryz.ntmps14
 go_upto_region 1 with (fail)
 go_region_with (first
  | (go_at_call 52; refine (cU _ hb3).mono ?_; rintro e w1 ⟨rfl,rfl⟩)
  | (go_at_call 215; refine (HC.out _ hb3).mono ?_; rintro e w2 ⟨x,y,z,b,rfl,hp2,hr2⟩; have hV2:=hV.past hp2 (fun e => by have:=HL.out _ e; omega); have y0:=hV2.c0; have y1:=hV2.c1; have y2:=hV2.c2; have y3:=hV2.fz))
 all_goals
  have hV3:=hV2.set x y z
  unfold set3 at hV3
  have z0:=hV3.c0
  have z1:=hV3.c1
  have z2:=hV3.c2
  have hp3:=pnew (pnew (pnew ((Past.of hb3).trans hp2) (Nat.le_succ _) 0 (.int .u64 (x:Nat))) (Nat.le_succ _) 1 (.int .u64 (y:Nat))) (Nat.le_succ _) 2 (.int .u64 (z:Nat))
  have hr3:=HR.out _ _ _ _ _ _ 2 (.int .u64 (z:Nat)) (HR.out _ _ _ _ _ _ 1 (.int .u64 (y:Nat)) (HR.out _ _ _ _ _ _ 0 (.int .u64 (x:Nat)) hr2 (Nat.le_succ _)) (Nat.le_succ _)) (Nat.le_succ _)
  clear y0 y1 y2 hV3 hV2 hp2 hr2 hV hL1
  go_wp2
  exact bodyPost_ret (v:=.tuple #[group.entV x y z,.bool b]) (by simp [results,Tryz.results14,go_sem,z0,z1,z2]) rfl ⟨x,y,z,b,rfl,hp3,hr3⟩
end
end Go.Proofs.YtdplhgpeggcmdaaGreatDoor.node
