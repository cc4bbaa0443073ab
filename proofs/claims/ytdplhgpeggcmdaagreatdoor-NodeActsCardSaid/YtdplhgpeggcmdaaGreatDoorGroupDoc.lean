/- GroupDoc: facts and laws for the walks. -/
import Derived.Test.YtdplhgpeggcmdaaGreatDoorGroup
namespace Go.Proofs.YtdplhgpeggcmdaaGreatDoor
set_option linter.unusedSimpArgs false
set_option linter.unusedVariables false
namespace group
open Go.ChangeShapes Go.WideShapes Go.ChangeAt Go.RowKit swar trap under meter tail
def cel(s:Sl):Array Value:=#[.int .i64 (s.kind:Nat),.int .u64 (s.key:Nat),.int .u64 (s.val:Nat),.int .u64 (s.hash:Nat)]
def rrow(g:Gp):Array Value:=#[.int .i64 ((g 0).kind:Nat),.int .u64 ((g 0).key:Nat),.int .u64 ((g 0).val:Nat),.int .u64 ((g 0).hash:Nat),.int .i64 ((g 1).kind:Nat),.int .u64 ((g 1).key:Nat),.int .u64 ((g 1).val:Nat),.int .u64 ((g 1).hash:Nat),.int .i64 ((g 2).kind:Nat),.int .u64 ((g 2).key:Nat),.int .u64 ((g 2).val:Nat),.int .u64 ((g 2).hash:Nat),.int .i64 ((g 3).kind:Nat),.int .u64 ((g 3).key:Nat),.int .u64 ((g 3).val:Nat),.int .u64 ((g 3).hash:Nat),.int .i64 ((g 4).kind:Nat),.int .u64 ((g 4).key:Nat),.int .u64 ((g 4).val:Nat),.int .u64 ((g 4).hash:Nat),.int .i64 ((g 5).kind:Nat),.int .u64 ((g 5).key:Nat),.int .u64 ((g 5).val:Nat),.int .u64 ((g 5).hash:Nat),.int .i64 ((g 6).kind:Nat),.int .u64 ((g 6).key:Nat),.int .u64 ((g 6).val:Nat),.int .u64 ((g 6).hash:Nat),.int .i64 ((g 7).kind:Nat),.int .u64 ((g 7).key:Nat),.int .u64 ((g 7).val:Nat),.int .u64 ((g 7).hash:Nat)]
theorem rrow_size(g:Gp):(rrow g).size=32:=rfl
theorem rrow_0(g:Gp){i:Nat}(hi:i<8):(rrow g)[i*4]?=some (.int .i64 ((g i).kind:Nat)):=by
 rcases lane8 hi with rfl|rfl|rfl|rfl|rfl|rfl|rfl|rfl <;> rfl
theorem rrow_1(g:Gp){i:Nat}(hi:i<8):(rrow g)[i*4+1]?=some (.int .u64 ((g i).key:Nat)):=by
 rcases lane8 hi with rfl|rfl|rfl|rfl|rfl|rfl|rfl|rfl <;> rfl
theorem rrow_2(g:Gp){i:Nat}(hi:i<8):(rrow g)[i*4+2]?=some (.int .u64 ((g i).val:Nat)):=by
 rcases lane8 hi with rfl|rfl|rfl|rfl|rfl|rfl|rfl|rfl <;> rfl
theorem rrow_3(g:Gp){i:Nat}(hi:i<8):(rrow g)[i*4+3]?=some (.int .u64 ((g i).hash:Nat)):=by
 rcases lane8 hi with rfl|rfl|rfl|rfl|rfl|rfl|rfl|rfl <;> rfl
theorem rrow_put(g:Gp){i:Nat}(hi:i<8)(s:Sl):((((rrow g).setIfInBounds (i*4) (.int .i64 (s.kind:Nat))).setIfInBounds (i*4+1) (.int .u64 (s.key:Nat))).setIfInBounds (i*4+2) (.int .u64 (s.val:Nat))).setIfInBounds (i*4+3) (.int .u64 (s.hash:Nat))=rrow (g.put i s):=by
 rcases lane8 hi with rfl|rfl|rfl|rfl|rfl|rfl|rfl|rfl <;> rfl
theorem rrow_val(g:Gp){i:Nat}(hi:i<8)(v:Nat):(rrow g).setIfInBounds (i*4+2) (.int .u64 (v:Nat))=rrow (g.put i { g i with val:=v }):=by
 rcases lane8 hi with rfl|rfl|rfl|rfl|rfl|rfl|rfl|rfl <;> rfl
theorem rrow_kind(g:Gp){i:Nat}(hi:i<8)(k:Nat):(rrow g).setIfInBounds (i*4) (.int .i64 (k:Nat))=rrow (g.put i { g i with kind:=k }):=by
 rcases lane8 hi with rfl|rfl|rfl|rfl|rfl|rfl|rfl|rfl <;> rfl
structure RAt(R:Nat)(g:Gp)(w:World):Prop where
 row:w.heap[R]?=some (.cells (rrow g) 188 (0,0))
theorem RAt.lt{R:Nat}{g:Gp}{w:World}(h:RAt R g w):R<w.heap.size:=(Array.getElem?_eq_some_iff.1 h.row).1
theorem RAt.of_block{R:Nat}{g:Gp}{w w':World}(h:RAt R g w)(he:w'.heap[R]?=w.heap[R]?):RAt R g w':=⟨he.trans h.row⟩
theorem RAt.below{R:Nat}{g:Gp}{w w':World}(h:RAt R g w)(hb:Below w.heap.size w w'):RAt R g w':=h.of_block (hb.block R h.lt)
theorem RAt.past{R:Nat}{g:Gp}{w w':World}{d:List Nat}(h:RAt R g w)(hb:Past d w w')(hd:R∉d):RAt R g w':=h.of_block (hb.block R h.lt hd)
theorem RAt.kind{R:Nat}{g:Gp}{w:World}(h:RAt R g w){i:Nat}(hi:i<8):w.cell? ⟨R,i*4,none⟩=some (.int .i64 ((g i).kind:Nat)):=by rw [cell_of_row _ _ _ _ _ _ h.row];exact rrow_0 g hi
theorem RAt.key{R:Nat}{g:Gp}{w:World}(h:RAt R g w){i:Nat}(hi:i<8):w.cell? ⟨R,i*4+1,none⟩=some (.int .u64 ((g i).key:Nat)):=by rw [cell_of_row _ _ _ _ _ _ h.row];exact rrow_1 g hi
theorem RAt.val{R:Nat}{g:Gp}{w:World}(h:RAt R g w){i:Nat}(hi:i<8):w.cell? ⟨R,i*4+2,none⟩=some (.int .u64 ((g i).val:Nat)):=by rw [cell_of_row _ _ _ _ _ _ h.row];exact rrow_2 g hi
theorem RAt.hash{R:Nat}{g:Gp}{w:World}(h:RAt R g w){i:Nat}(hi:i<8):w.cell? ⟨R,i*4+3,none⟩=some (.int .u64 ((g i).hash:Nat)):=by rw [cell_of_row _ _ _ _ _ _ h.row];exact rrow_3 g hi
theorem RAt.fz{R:Nat}{g:Gp}{w:World}(h:RAt R g w)(i:Nat):w.frozen? ⟨R,i,none⟩=false:=frozen_of_row _ _ i _ _ h.row
theorem RAt.put{R:Nat}{g:Gp}{w:World}(h:RAt R g w){i:Nat}(hi:i<8)(s:Sl) :
  RAt R (g.put i s) ((((w.setCell ⟨R,i*4,none⟩ (.int .i64 (s.kind:Nat))).setCell ⟨R,i*4+1,none⟩ (.int .u64 (s.key:Nat))).setCell ⟨R,i*4+2,none⟩ (.int .u64 (s.val:Nat))).setCell ⟨R,i*4+3,none⟩ (.int .u64 (s.hash:Nat))):=by
 have e:=heap_setCell_same _ R (i*4+3) _ _ (.int .u64 (s.hash:Nat)) (heap_setCell_same _ R (i*4+2) _ _ (.int .u64 (s.val:Nat)) (heap_setCell_same _ R (i*4+1) _ _ (.int .u64 (s.key:Nat)) (heap_setCell_same w R (i*4) _ _ (.int .i64 (s.kind:Nat)) h.row)));rw [rrow_put g hi s] at e;exact⟨e⟩
theorem RAt.putV{R:Nat}{g:Gp}{w:World}(h:RAt R g w){i:Nat}(hi:i<8)(v:Nat):RAt R (g.put i { g i with val:=v }) (w.setCell ⟨R,i*4+2,none⟩ (.int .u64 (v:Nat))):=by
 have e:=heap_setCell_same w R (i*4+2) _ _ (.int .u64 (v:Nat)) h.row;rw [rrow_val g hi v] at e;exact⟨e⟩
theorem RAt.putK{R:Nat}{g:Gp}{w:World}(h:RAt R g w){i:Nat}(hi:i<8)(k:Nat):RAt R (g.put i { g i with kind:=k }) (w.setCell ⟨R,i*4,none⟩ (.int .i64 (k:Nat))):=by
 have e:=heap_setCell_same w R (i*4) _ _ (.int .i64 (k:Nat)) h.row;rw [rrow_kind g hi k] at e;exact⟨e⟩
structure RStep(R:Nat)(g:Gp)(w w':World):Prop where
 past:Past [R] w w'
 at':RAt R g w'
theorem RStep.of{R:Nat}{g:Gp}{w w':World}(h:RAt R g w)(hb:Below w.heap.size w w'):RStep R g w w':=⟨Past.of hb,h.below hb⟩
theorem past_put{R:Nat}{x w:World}(h:Past [R] x w)(p0 p1 p2 p3:Nat)(v0 v1 v2 v3:Value):Past [R] x ((((w.setCell ⟨R,p0,none⟩ v0).setCell ⟨R,p1,none⟩ v1).setCell ⟨R,p2,none⟩ v2).setCell ⟨R,p3,none⟩ v3):=
 (((h.store (p:=⟨R,p0,none⟩) (.inl (by simp)) _).store (p:=⟨R,p1,none⟩) (.inl (by simp)) _).store (p:=⟨R,p2,none⟩) (.inl (by simp)) _).store (p:=⟨R,p3,none⟩) (.inl (by simp)) _
theorem info32(g:Gp):(Tryz.prog.info? 186).map (·.size)=some (rrow g).size:=by rw [rrow_size];kernel_rfl
theorem index_cel(g:Gp){i:Nat}(hi:i<8)(w:World):(Instr.index 186 (.agg (rrow g)) (.int .i64 i)).run Tryz.prog w=.ok (.agg (cel (g i))) w:=by
 rcases lane8 hi with rfl|rfl|rfl|rfl|rfl|rfl|rfl|rfl <;> kernel_rfl
def half(k:Nat):Gp:=fun j=>if j<k then .empty else⟨0,0,0,0⟩
theorem half_put{k:Nat}(hk:k<8):(half k).put k { half k k with kind:=1 }=half (k+1):=by
 funext j;unfold half Gp.put
 by_cases h:j=k
 ·subst h;simp [Sl.empty]
 ·by_cases h2:j<k
  ·simp [h,h2];omega
  ·simp [h,h2];omega
set_option maxRecDepth 100000 in
theorem rnew_any(w:World):Calls Tryz.prog 89 #[] w fun e w'=>e=.returned (.pointer (some ⟨w.heap.size,0,none⟩))∧Below w.heap.size w w'∧RAt w.heap.size .new w':=by
 go_enter Tryz.func89,Tryz.ntmps89
 go_wp2
 go_loopw [5] (fun i wr=>∃k:Nat,k≤8∧i=.int .i64 k∧Hid (Below w.heap.size w wr∧RAt w.heap.size (half k) wr)) (fun i _=>8-(intOf i).toNat)
 case atStart=>exact⟨0,by omega,rfl,Lib.hid ⟨new_block w _,⟨World.alloc_heap_new w _⟩⟩⟩
 case round =>
  obtain⟨k,hk,rfl,HR⟩:=hrel
  rcases Nat.lt_or_ge k 8 with h8|h8
  ·have hki:(k:Int)<8:=by omega
   have hc:=HR.out.2.kind h8;have hf:=HR.out.2.fz (k*4);go_wp2
   go_roundw
   case rel => 
    refine⟨k+1,by omega,by simp,Lib.hid ⟨HR.out.1.setCell (p:=⟨w.heap.size,k*4,none⟩) (Nat.le_refl _) _, ?_⟩⟩;have h:=HR.out.2.putK h8 1;rw [half_put h8] at h;exact h
   case measure=>simp [intOf];omega
  ·obtain rfl:k=8:=by omega
   go_wp2
   go_ret
   exact⟨rfl,HR.out.1,⟨HR.out.2.row⟩⟩
theorem kd3(g:Gp)(i:Nat):((((g i).kind:Nat):Int)==3)=is 3 g i:=by
 unfold is;rw [Bool.eq_iff_iff,decide_eq_true_eq,beq_iff_eq];omega
theorem kd2(g:Gp)(i:Nat):((((g i).kind:Nat):Int)==2)=is 2 g i:=by
 unfold is;rw [Bool.eq_iff_iff,decide_eq_true_eq,beq_iff_eq];omega
theorem rput_off(R:Nat)(i:Int)(k v h:Nat)(hi:i<0∨8≤i)(w:World) :
  Calls Tryz.prog 112 #[.pointer (some ⟨R,0,none⟩),.int .i64 i,entV k v h] w fun e w'=>e=.returned (.tuple #[.bool false,.int .i64 1])∧Below w.heap.size w w':=by
 rcases hi with hi|hi
 ·have d1:decide (i<0)=true:=decide_eq_true hi
  go_enter Tryz.func112,Tryz.ntmps112
  go_wp2
  go_ret2
  exact⟨rfl,new_block w _⟩
 ·have d1:decide (i<0)=false:=decide_eq_false (by omega)
  have d2:decide (7<i)=true:=decide_eq_true (by omega)
  go_enter Tryz.func112,Tryz.ntmps112
  go_wp2
  go_ret2
  exact⟨rfl,new_block w _⟩
theorem rput_full(R:Nat)(g:Gp)(i k v h:Nat)(hi:i<8)(hf:is 3 g i=true)(w:World)(ha:RAt R g w) :
  Calls Tryz.prog 112 #[.pointer (some ⟨R,0,none⟩),.int .i64 i,entV k v h] w fun e w'=>e=.returned (.tuple #[.bool false,.int .i64 5])∧Below w.heap.size w w':=by
 have d1:decide ((i:Int)<0)=false:=decide_eq_false (by omega);have d2:decide (7<(i:Int))=false:=decide_eq_false (by omega);have hi':(i:Int)<8:=by omega
 have b3:=kd3 g i;rw [hf] at b3;have hc:=((ha.below (new_block w (.cells #[.int .u64 (k:Nat),.int .u64 (v:Nat),.int .u64 (h:Nat)] 44))).kind hi)
 go_enter Tryz.func112,Tryz.ntmps112
 go_wp2
 go_ret2
 exact⟨rfl,new_block w _⟩
theorem rput_free(R:Nat)(g:Gp)(i k v h:Nat)(hi:i<8)(hf:is 3 g i=false)(w:World)(ha:RAt R g w) :
  Calls Tryz.prog 112 #[.pointer (some ⟨R,0,none⟩),.int .i64 i,entV k v h] w fun e w'=>e=.returned (.tuple #[.bool (is 2 g i),.int .i64 0])∧RStep R (g.put i ⟨3,k,v,h⟩) w w':=by
 have d1:decide ((i:Int)<0)=false:=decide_eq_false (by omega);have d2:decide (7<(i:Int))=false:=decide_eq_false (by omega);have hi':(i:Int)<8:=by omega
 have b3:=kd3 g i;have b2:=kd2 g i;rw [hf] at b3;have hb:=new_block w (.cells #[.int .u64 (k:Nat),.int .u64 (v:Nat),.int .u64 (h:Nat)] 44);have ha1:=ha.below hb;have hr:=heap_alloc_new w (.cells #[.int .u64 (k:Nat),.int .u64 (v:Nat),.int .u64 (h:Nat)] 44)
 go_enter Tryz.func112,Tryz.ntmps112
 generalize hW:w.alloc (.cells #[.int .u64 (k:Nat),.int .u64 (v:Nat),.int .u64 (h:Nat)] 44)=w1 at hb ha1 hr;have e0:w1.cell? ⟨w.heap.size,0,none⟩=some (.int .u64 (k:Nat)):=by rw [cell_of_row _ _ _ _ _ _ hr];rfl
 have e1:w1.cell? ⟨w.heap.size,1,none⟩=some (.int .u64 (v:Nat)):=by rw [cell_of_row _ _ _ _ _ _ hr];rfl
 have e2:w1.cell? ⟨w.heap.size,2,none⟩=some (.int .u64 (h:Nat)):=by rw [cell_of_row _ _ _ _ _ _ hr];rfl
 clear hr;have c0:=ha1.kind hi;have c1:=ha1.key hi;have c2:=ha1.val hi;have c3:=ha1.hash hi;have f0:=ha1.fz;go_wp2;refine wp_region_tail_drew 7 (by kernel_rfl) (by kernel_rfl) ?_;simp only [List.take_succ_cons,List.take_zero,List.drop_succ_cons,List.drop_zero]
 repeat (quiet_step (fail))
 refine wpQuiet_nil ?_;intro w4 hw4;obtain⟨n4,rfl⟩:=hw4;go_wp2
 go_ret2
 have hb4:=under.below_step hb (below_drewN' w1 n4);exact⟨rfl,past_put (Past.of hb4) _ _ _ _ _ _ _ _,(ha.below hb4).put hi ⟨3,k,v,h⟩⟩
theorem rput_any(R:Nat)(g:Gp)(i:Int)(k v h:Nat)(w:World)(ha:RAt R g w) :
  Calls Tryz.prog 112 #[.pointer (some ⟨R,0,none⟩),.int .i64 i,entV k v h] w fun e w'=>e=.returned (.tuple #[.bool (putB g i),.int .i64 (putE g i:Nat)])∧RStep R (putG g i ⟨3,k,v,h⟩) w w':=by
 rcases inR_cases i with⟨hr,hi⟩|⟨hr,j,hj,rfl⟩
 ·refine (rput_off R i k v h hi w).mono fun e w' ⟨he,hb⟩=>?_
  have e1:putE g i=1:=by simp [putE,hr]
  have e2:putB g i=false:=by simp [putB,hr]
  have e3:putG g i ⟨3,k,v,h⟩=g:=by simp [putG,e1]
  rw [e1,e2,e3];exact⟨he,.of ha hb⟩
 ·cases hf:is 3 g j
  ·refine (rput_free R g j k v h hj hf w ha).mono fun e w' ⟨he,hb⟩=>?_
   have e1:putE g (j:Int)=0:=by simp [putE,hr,hf]
   have e2:putB g (j:Int)=is 2 g j:=by simp [putB,hr]
   have e3:putG g (j:Int) ⟨3,k,v,h⟩=g.put j ⟨3,k,v,h⟩:=by simp [putG,e1]
   rw [e1,e2,e3];exact⟨he,hb⟩
  ·refine (rput_full R g j k v h hj hf w ha).mono fun e w' ⟨he,hb⟩=>?_
   have e1:putE g (j:Int)=5:=by simp [putE,hr,hf]
   have e2:putB g (j:Int)=false:=by simp [putB,hr,is_excl hf]
   have e3:putG g (j:Int) ⟨3,k,v,h⟩=g:=by simp [putG,e1]
   rw [e1,e2,e3];exact⟨he,.of ha hb⟩
theorem rval_any(R:Nat)(g:Gp)(i:Int)(v:Nat)(w:World)(ha:RAt R g w) :
  Calls Tryz.prog 110 #[.pointer (some ⟨R,0,none⟩),.int .i64 i,.int .u64 v] w fun e w'=>e=.returned (.int .i64 (valE g i:Nat))∧RStep R (valG g i v) w w':=by
 rcases inR_cases i with⟨hr,hi⟩|⟨hr,j,hj,rfl⟩
 ·have e1:valE g i=1:=by simp [valE,hr]
  have e3:valG g i v=g:=by simp [valG,fullAt,hr]
  rw [e1,e3]
  have d1:decide (i<0)=true∨(decide (i<0)=false∧decide (7<i)=true):=by
   rcases hi with hi|hi
   ·exact .inl (decide_eq_true hi)
   ·exact .inr ⟨decide_eq_false (by omega),decide_eq_true (by omega)⟩
  clear e1 e3 hr hi
  rcases d1 with d1|⟨d1,d2⟩
  ·go_enter Tryz.func110,Tryz.ntmps110
   go_wp2
   go_ret
   exact⟨rfl,.of ha (Below.refl _ _)⟩
  ·go_enter Tryz.func110,Tryz.ntmps110
   go_wp2
   go_ret
   exact⟨rfl,.of ha (Below.refl _ _)⟩
 ·have d1:decide ((j:Int)<0)=false:=decide_eq_false (by omega)
  have d2:decide (7<(j:Int))=false:=decide_eq_false (by omega);have hi':(j:Int)<8:=by omega
  have b3:=kd3 g j;have hc:=ha.kind hj;have c2:=ha.val hj;have f0:=ha.fz;cases hf:is 3 g j
  ·have e1:valE g (j:Int)=5:=by simp [valE,hr,hf]
   have e3:valG g (j:Int) v=g:=by simp [valG,fullAt,hr,hf]
   rw [e1,e3];rw [hf] at b3;clear e1 e3 hr hf
   go_enter Tryz.func110,Tryz.ntmps110
   go_wp2
   go_ret
   exact⟨rfl,.of ha (Below.refl _ _)⟩
  ·have e1:valE g (j:Int)=0:=by simp [valE,hr,hf]
   have e3:valG g (j:Int) v=g.put j { g j with val:=v }:=by simp [valG,fullAt,hr,hf]
   rw [e1,e3];rw [hf] at b3;clear e1 e3 hr hf
   go_enter Tryz.func110,Tryz.ntmps110
   go_wp2
   go_ret
   exact⟨rfl,(Past.refl _ _).store (p:=⟨R,j*4+2,none⟩) (.inl (by simp)) _,ha.putV hj v⟩
def cntTo(n:Nat)(g:Gp):Nat→Nat
 | 0=>0
 | k+1=>cntTo n g k+(is n g k).toNat
theorem cntTo_le(n:Nat)(g:Gp):∀k,cntTo n g k≤k
  | 0=>Nat.le_refl _
  | k + 1 => by have := cntTo_le n g k; have : (is n g k).toNat ≤ 1 := by cases is n g k <;> decide
                unfold cntTo;omega
theorem cntTo_all(n:Nat)(g:Gp):cntTo n g 8=count n g:=by simp only [cntTo,count,cntB];omega
set_option maxRecDepth 100000 in
theorem rcount_any(R:Nat)(g:Gp)(n:Nat)(w:World)(ha:RAt R g w) :
  Calls Tryz.prog 146 #[.pointer (some ⟨R,0,none⟩),.int .i64 n] w fun e w'=>e=.returned (.int .i64 (count n g:Nat))∧Below w.heap.size w w':=by
 have HA:=Lib.hid ha;clear ha
 go_enter Tryz.func146,Tryz.ntmps146
 go_wp2_with (refine wpList_load_row (by rfl) 186 _ (by rfl) _ (by rfl) _ _ _ (.array 8 185) HA.out.row (by kernel_rfl) (by rfl) (info32 g) ?_)
 go_loopw [12,5] (fun i s wr=>∃k:Nat,k≤8∧i=.int .i64 k∧s=.int .i64 (cntTo n g k:Nat)∧Hid (Below w.heap.size w wr)) (fun i _ _=>8-(intOf i).toNat)
 case atStart=>exact⟨0,by omega,rfl,rfl,Lib.hid (Below.refl _ _)⟩
 case round =>
  obtain⟨k,hk,rfl,rfl,HR⟩:=hrel
  rcases Nat.lt_or_ge k 8 with h8|h8
  ·have hki:(k:Int)<8:=by omega
   have hi:=index_cel g h8
   have hn:((((g k).kind:Nat):Int)==(n:Int))=is n g k:=by
    unfold is;rw [Bool.eq_iff_iff,decide_eq_true_eq,beq_iff_eq];omega
   have hcl:=cntTo_le n g k;have hcs:cntTo n g (k+1)=cntTo n g k+(is n g k).toNat:=rfl;have HC:=Lib.hid hcs;clear hcs;unfold cel at hi;generalize (g k).kind=kd at hi hn;generalize (g k).key=ky at hi;generalize (g k).val=vl at hi;generalize (g k).hash=hs at hi;generalize cntTo n g k=cn at hcl HC ⊢;cases hb:is n g k
   ·rw [hb] at hn HC
    clear hb;go_wp2
    go_roundw
    case rel =>
     refine⟨k+1,by omega,by simp, ?_,Lib.hid (under.below_step HR.out (new_block wr _))⟩;rw [HC.out];simp
    case measure=>simp [intOf];omega
   ·rw [hb] at hn HC
    clear hb;go_wp2
    go_roundw
    case rel =>
     refine⟨k+1,by omega,by simp, ?_,Lib.hid (under.below_step HR.out (new_block wr _))⟩;rw [HC.out];simp
    case measure=>simp [intOf];omega
  ·obtain rfl:k=8:=by omega
   go_wp2
   go_ret
   exact⟨by rw [cntTo_all];rfl,HR.out⟩
theorem rerase_any(R:Nat)(g:Gp)(i:Int)(w:World)(ha:RAt R g w) :
  Calls Tryz.prog 113 #[.pointer (some ⟨R,0,none⟩),.int .i64 i] w fun e w'=>e=.returned (.tuple #[.bool (eraB g i),.int .i64 (valE g i:Nat)])∧RStep R (eraG g i) w w':=by
 rcases inR_cases i with⟨hr,hi⟩|⟨hr,j,hj,rfl⟩
 ·have e1:valE g i=1:=by simp [valE,hr]
  have e2:eraB g i=false:=by simp [eraB,fullAt,hr]
  have e3:eraG g i=g:=by simp [eraG,fullAt,hr]
  rw [e1,e2,e3]
  have d1:decide (i<0)=true∨(decide (i<0)=false∧decide (7<i)=true):=by
   rcases hi with hi|hi
   ·exact .inl (decide_eq_true hi)
   ·exact .inr ⟨decide_eq_false (by omega),decide_eq_true (by omega)⟩
  clear e1 e2 e3 hr hi
  rcases d1 with d1|⟨d1,d2⟩
  ·go_enter Tryz.func113,Tryz.ntmps113
   go_wp2
   go_ret2
   exact⟨rfl,.of ha (Below.refl _ _)⟩
  ·go_enter Tryz.func113,Tryz.ntmps113
   go_wp2
   go_ret2
   exact⟨rfl,.of ha (Below.refl _ _)⟩
 ·have d1:decide ((j:Int)<0)=false:=decide_eq_false (by omega)
  have d2:decide (7<(j:Int))=false:=decide_eq_false (by omega);have hi':(j:Int)<8:=by omega
  have b3:=kd3 g j;have hc:=ha.kind hj;cases hf:is 3 g j
  ·have e1:valE g (j:Int)=5:=by simp [valE,hr,hf]
   have e2:eraB g (j:Int)=false:=by simp [eraB,fullAt,hr,hf]
   have e3:eraG g (j:Int)=g:=by simp [eraG,fullAt,hr,hf]
   rw [e1,e2,e3];rw [hf] at b3;clear e1 e2 e3 hr hf
   go_enter Tryz.func113,Tryz.ntmps113
   go_wp2
   go_ret2
   exact⟨rfl,.of ha (Below.refl _ _)⟩
  ·have e1:valE g (j:Int)=0:=by simp [valE,hr,hf]
   have e2:eraB g (j:Int)=!opens g:=by simp [eraB,fullAt,hr,hf]
   have e3:eraG g (j:Int)=g.put j (erased g):=by simp [eraG,fullAt,hr,hf]
   rw [e1,e2,e3];rw [hf] at b3;have ho:decide (0<count 1 g)=opens g:=(opens_count g).symm;have cc:=rcount_any R g 1 w ha;cases hO:opens g
   ·have e4:erased g=.gone:=by unfold erased;rw [hO];rfl
    rw [e4];rw [hO] at ho;generalize count 1 g=cn at ho cc;clear e1 e2 e3 e4 hr hf hO;have HA:=Lib.hid ha;clear ha
    go_enter Tryz.func113,Tryz.ntmps113
    go_wp2_with (go_at_call 146;refine cc.mono ?_;rintro e w1 ⟨rfl,hb1⟩;have ha1:=HA.out.below hb1;have g0:=ha1.kind hj;have g1:=ha1.key hj;have g2:=ha1.val hj;have g3:=ha1.hash hj;have f0:=ha1.fz)
    go_ret2
    exact⟨rfl,past_put (Past.of hb1) _ _ _ _ _ _ _ _,ha1.put hj .gone⟩
   ·have e4:erased g=.empty:=by unfold erased;rw [hO];rfl
    rw [e4];rw [hO] at ho;generalize count 1 g=cn at ho cc;clear e1 e2 e3 e4 hr hf hO;have HA:=Lib.hid ha;clear ha
    go_enter Tryz.func113,Tryz.ntmps113
    go_wp2_with (go_at_call 146;refine cc.mono ?_;rintro e w1 ⟨rfl,hb1⟩;have ha1:=HA.out.below hb1;have g0:=ha1.kind hj;have g1:=ha1.key hj;have g2:=ha1.val hj;have g3:=ha1.hash hj;have f0:=ha1.fz)
    go_ret2
    exact⟨rfl,past_put (Past.of hb1) _ _ _ _ _ _ _ _,ha1.put hj .empty⟩
set_option maxRecDepth 100000 in
theorem rleast_any(R:Nat)(g:Gp)(w:World)(ha:RAt R g w) :
  Calls Tryz.prog 144 #[.pointer (some ⟨R,0,none⟩)] w fun e w'=>e=.returned (.int .i64 (least g))∧Below w.heap.size w w':=by
 have HA:=Lib.hid ha;clear ha
 go_enter Tryz.func144,Tryz.ntmps144
 go_wp2_with (refine wpList_load_row (by rfl) 186 _ (by rfl) _ (by rfl) _ _ _ (.array 8 185) HA.out.row (by kernel_rfl) (by rfl) (info32 g) ?_)
 go_loopw [9] (fun i wr=>∃k:Nat,k≤8∧i=.int .i64 k∧Hid ((∀j,j<k→(!is 3 g j)=false)∧Below w.heap.size w wr)) (fun i _=>8-(intOf i).toNat)
 case atStart=>exact⟨0,by omega,rfl,Lib.hid ⟨fun j h=>by omega,Below.refl _ _⟩⟩
 case round =>
  obtain⟨k,hk,rfl,HR⟩:=hrel
  rcases Nat.lt_or_ge k 8 with h8|h8
  ·have hki:(k:Int)<8:=by omega
   have hi:=index_cel g h8;have hn:=kd3 g k;unfold cel at hi;generalize (g k).kind=kd at hi hn;generalize (g k).key=ky at hi;generalize (g k).val=vl at hi;generalize (g k).hash=hs at hi;cases hb:is 3 g k
   ·rw [hb] at hn
    have HB:=Lib.hid hb;clear hb;go_wp2
    go_ret
    refine⟨?_,under.below_step HR.out.2 (new_block wr _)⟩;unfold least;rw [scan_at h8 HR.out.1 (by rw [HB.out];rfl)]
    rfl
   ·rw [hb] at hn
    have HB:=Lib.hid hb;clear hb;go_wp2
    go_roundw
    case rel =>
     refine⟨k+1,by omega,by simp,Lib.hid ⟨fun j hj=>?_,under.below_step HR.out.2 (new_block wr _)⟩⟩
     rcases Nat.lt_or_ge j k with h|h
     ·exact HR.out.1 j h
     ·obtain rfl:j=k:=by omega
      rw [HB.out];rfl
    case measure=>simp [intOf];omega
  ·obtain rfl:k=8:=by omega
   go_wp2
   go_ret
   refine⟨?_,HR.out.2⟩;unfold least;rw [scan_none fun j hj=>HR.out.1 j hj]
   rfl
set_option maxRecDepth 100000 in
theorem rfind_any(R:Nat)(g:Gp)(key h:Nat)(w:World)(ha:RAt R g w) :
  Calls Tryz.prog 145 #[.pointer (some ⟨R,0,none⟩),.int .u64 key,.int .u64 h] w fun e w'=>e=.returned (.int .i64 (find key h g))∧Below w.heap.size w w':=by
 have HA:=Lib.hid ha;clear ha
 go_enter Tryz.func145,Tryz.ntmps145
 go_wp2_with (refine wpList_load_row (by rfl) 186 _ (by rfl) _ (by rfl) _ _ _ (.array 8 185) HA.out.row (by kernel_rfl) (by rfl) (info32 g) ?_)
 go_loopw [13] (fun i wr=>∃k:Nat,k≤8∧i=.int .i64 k∧Hid ((∀j,j<k→hit key h g j=false)∧Below w.heap.size w wr)) (fun i _=>8-(intOf i).toNat)
 case atStart=>exact⟨0,by omega,rfl,Lib.hid ⟨fun j h=>by omega,Below.refl _ _⟩⟩
 case round =>
  obtain⟨k,hk,rfl,HR⟩:=hrel
  rcases Nat.lt_or_ge k 8 with h8|h8
  ·have hki:(k:Int)<8:=by omega
   have hi:=index_cel g h8;have hn:=kd3 g k;have hq:((((g k).key:Nat):Int)==(key:Int))=decide ((g k).key=key):=by rw [Bool.eq_iff_iff,decide_eq_true_eq,beq_iff_eq];omega
   have hm:((((g k).hash:Nat):Int)%128==((h:Nat):Int)%128)=decide ((g k).hash%128=h%128):=by
    rw [Bool.eq_iff_iff,decide_eq_true_eq,beq_iff_eq];omega
   have HH:Hid (hit key h g k=(is 3 g k&&decide ((g k).hash%128=h%128)&&decide ((g k).key=key))):=Lib.hid rfl;unfold cel at hi;generalize is 3 g k=p3 at hn HH;generalize decide ((g k).hash%128=h%128)=pm at hm HH;generalize decide ((g k).key=key)=pq at hq HH;generalize (g k).kind=kd at hi hn;generalize (g k).key=ky at hi hq;generalize (g k).val=vl at hi;generalize (g k).hash=hs at hi hm;cases p3
   ·go_wp2
    go_roundw
    case rel =>
     refine⟨k+1,by omega,by simp,Lib.hid ⟨fun j hj=>?_,under.below_step HR.out.2 (new_block wr _)⟩⟩
     rcases Nat.lt_or_ge j k with h|h
     ·exact HR.out.1 j h
     ·obtain rfl:j=k:=by omega
      rw [HH.out];simp
    case measure=>simp [intOf];omega
   ·cases pq
    ·go_wp2
     go_roundw
     case rel =>
      refine⟨k+1,by omega,by simp,Lib.hid ⟨fun j hj=>?_,under.below_step HR.out.2 (new_block wr _)⟩⟩
      rcases Nat.lt_or_ge j k with h|h
      ·exact HR.out.1 j h
      ·obtain rfl:j=k:=by omega
       rw [HH.out];simp
     case measure=>simp [intOf];omega
    ·cases pm
     ·go_wp2
      go_roundw
      case rel =>
       refine⟨k+1,by omega,by simp,Lib.hid ⟨fun j hj=>?_,under.below_step HR.out.2 (new_block wr _)⟩⟩
       rcases Nat.lt_or_ge j k with h|h
       ·exact HR.out.1 j h
       ·obtain rfl:j=k:=by omega
        rw [HH.out];simp
      case measure=>simp [intOf];omega
     ·go_wp2
      go_ret
      refine⟨?_,under.below_step HR.out.2 (new_block wr _)⟩;unfold find;rw [scan_at h8 HR.out.1 (by rw [HH.out];rfl)]
      rfl
  ·obtain rfl:k=8:=by omega
   go_wp2
   go_ret
   refine⟨?_,HR.out.2⟩;unfold find;rw [scan_none fun j hj=>HR.out.1 j hj]
   rfl
end group
namespace group
open Go.ChangeShapes Go.WideShapes Go.ChangeAt Go.RowKit Go.Shelf swar trap under meter tail
def ECells(x:Addr)(j:Nat)(e:Sl)(W:World):Prop:=
 W.cell? (x.add (j*3))=some (.int .u64 (e.key:Nat))∧W.cell? ⟨(x.add (j*3)).block,(x.add (j*3)).off+1,none⟩=some (.int .u64 (e.val:Nat))∧W.cell? ⟨(x.add (j*3)).block,(x.add (j*3)).off+2,none⟩=some (.int .u64 (e.hash:Nat))
theorem ECells.read{x:Addr}{j:Nat}{e:Sl}{W W':World}(h:ECells x j e W)(hb:Below W.heap.size W W'):ECells x j e W':=
 have c:∀{p v},W.cell? p=some v→W'.cell? p=some v:=fun {p v} hc=>(hb.cell (World.block_lt_of_cell? W p hc)).trans hc
 ⟨c h.1,c h.2.1,c h.2.2⟩
def RowsAt(o:Option Addr)(f:Nat→Sl)(n:Nat)(W:World):Prop:=∀j,j<n→∃x,o=some x∧ECells x j (f j) W
theorem RowsAt.read{o:Option Addr}{f:Nat→Sl}{n:Nat}{W W':World}(h:RowsAt o f n W)(hb:Below W.heap.size W W'):RowsAt o f n W':=fun j hj=>by
 obtain⟨x,e,hc⟩:=h j hj;exact⟨x,e,hc.read hb⟩
theorem fulls_succ(g:Gp)(k:Nat):(List.range (k+1)).filter (is 3 g)=(List.range k).filter (is 3 g)++if is 3 g k=true then [k] else []:=by
 rw [List.range_succ,List.filter_append];simp [List.filter];split <;> simp_all
theorem range_len(g:Gp)(k:Nat):((List.range k).filter (is 3 g)).length≤k:=by have:=List.length_filter_le (is 3 g) (List.range k);simpa using this
set_option maxRecDepth 100000 in
set_option maxHeartbeats 1000000 in
theorem rentries_any(R:Nat)(g:Gp)(w:World)(ha:RAt R g w) :
  Calls Tryz.prog 114 #[.pointer (some ⟨R,0,none⟩)] w fun e w'=>∃v,e=.returned v∧Kept w.heap.size w' v g (fulls g)∧Below w.heap.size w w':=by
 obtain⟨i0,hi0,hq0,hq1,hq2⟩:=info_parts infoEnt;have hb0:=new_block w (.cells #[] 44);have HA:=Lib.hid (ha.below hb0);have HK:Hid (Kept w.heap.size (w.alloc (.cells #[] 44)) (.slice (some ⟨w.heap.size,0,none⟩) 0 0) g []):=Lib.hid (World.ownsRow_lit w #[] 0 (Nat.le_refl _) (by decide) rfl);clear ha
 go_enter Tryz.func114,Tryz.ntmps114
 go_wp2_with (refine wpList_load_row (by rfl) 186 _ (by rfl) _ (by rfl) _ _ _ (.array 8 185) HA.out.row (by kernel_rfl) (by rfl) (info32 g) ?_)
 go_loopw [11,3] (fun i v wr=>∃k:Nat,k≤8∧i=.int .i64 k∧Hid (Kept w.heap.size wr v g ((List.range k).filter (is 3 g))∧Below w.heap.size w wr)) (fun i _ _=>8-(intOf i).toNat)
 case atStart=>exact⟨0,by omega,rfl,Lib.hid ⟨HK.out,hb0⟩⟩
 case round =>
  obtain⟨k,hk,rfl,HR⟩:=hrel
  rcases Nat.lt_or_ge k 8 with h8|h8
  ·have hki:(k:Int)<8:=by omega
   have hi:=index_cel g h8;have hn:=kd3 g k;have hr:=HR.out.1;have hs:=fulls_succ g k;have hl:=range_len g k;have hz:=HR.out.2.size;have he:ent (g k)=[.int .u64 ((g k).key:Nat),.int .u64 ((g k).val:Nat),.int .u64 ((g k).hash:Nat)]:=rfl;have hrs:=rows_snoc g ((List.range k).filter (is 3 g)) k;rw [he] at hrs;unfold Kept at hr;unfold cel at hi;have HS:=Lib.hid hs;have HRS:=Lib.hid hrs;clear hs hrs he;generalize hkd:(g k).kind=kd at hi hn;generalize hky:(g k).key=ky at hi HRS;generalize hvl:(g k).val=vl at hi HRS;generalize hhs:(g k).hash=hs at hi HRS;clear hkd hky hvl hhs;cases hb:is 3 g k
   ·rw [hb] at hn HS
    clear hb hr;go_wp2
    go_roundw
    case rel =>
     refine⟨k+1,by omega,by simp,Lib.hid ⟨?_,under.below_step HR.out.2 (new_block wr _)⟩⟩;rw [HS.out];have h:=HR.out.1;unfold Kept at h ⊢
     simpa using h.alloc _
    case measure=>simp [intOf];omega
   ·rw [hb] at hn HS
    clear hb;have hr5:=hr.alloc (.cells #[.int .i64 (kd:Nat),.int .u64 (ky:Nat),.int .u64 (vl:Nat),.int .u64 (hs:Nat)] 185);have hn5:=cell_three_new (wr.alloc (.cells #[.int .i64 (kd:Nat),.int .u64 (ky:Nat),.int .u64 (vl:Nat),.int .u64 (hs:Nat)] 185)) (.int .u64 (ky:Nat)) (.int .u64 (vl:Nat)) (.int .u64 (hs:Nat)) 44;have hz5:(wr.alloc (.cells #[.int .i64 (kd:Nat),.int .u64 (ky:Nat),.int .u64 (vl:Nat),.int .u64 (hs:Nat)] 185)).heap.size=wr.heap.size+1:=World.size_alloc _ _;rw [hz5] at hn5;have hb5:=under.below_step HR.out.2 (new_block wr (.cells #[.int .i64 (kd:Nat),.int .u64 (ky:Nat),.int .u64 (vl:Nat),.int .u64 (hs:Nat)] 185));have HN:=Lib.hid hn5;have HB5:=Lib.hid hb5;have H5:=Lib.hid hr5;have H0:=Lib.hid hr;clear hn5 hr5 hz5 hr hb5
    go_wp2_with (at_builtin;refine wpList_append_own _ rfl _ _ 60 rfl w.heap.size 44 i0 (.agg #[.int .u64 0,.int .u64 0,.int .u64 0]) 3 24 Tryz.underlying60 hi0 hq0 hq1 hq2 rfl (by decide) _ _ _ rfl (H5.out.alloc _) ⟨wr.heap.size+1,0,none⟩ 1 1 [.int .u64 (ky:Nat),.int .u64 (vl:Nat),.int .u64 (hs:Nat)] rfl rfl HN.out (by simp [Value.oneCell']) (by simp only [maxLen];omega) (by omega) (by simp;omega) ?_;intro v' w1 hown' hgrow _;have HO:=Lib.hid hown';have HG:=Lib.hid hgrow;clear hown' hgrow)
    go_roundw
    case rel =>
     refine⟨k+1,by omega,by simp,Lib.hid ⟨?_, ?_⟩⟩
     ·rw [HS.out]
      unfold Kept;simp only [if_true];rw [HRS.out,List.length_append];exact HO.out
     ·have hb6:=under.below_step HB5.out (new_block _ (.cells #[.int .u64 (ky:Nat),.int .u64 (vl:Nat),.int .u64 (hs:Nat)] 44))
      exact hb6.grown HG.out hb6.size fun j e=>(H0.out.lt j e).1
    case measure=>simp [intOf];omega
  ·obtain rfl:k=8:=by omega
   go_wp2
   go_ret
   exact⟨_,rfl,HR.out.1,HR.out.2⟩
end group
end Go.Proofs.YtdplhgpeggcmdaaGreatDoor
