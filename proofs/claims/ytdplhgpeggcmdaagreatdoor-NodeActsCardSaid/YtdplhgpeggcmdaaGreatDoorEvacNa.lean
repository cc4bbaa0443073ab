/- EvacNa: facts and laws for the walks. -/
import Derived.Test.YtdplhgpeggcmdaaGreatDoorEvac
namespace Go.Proofs.YtdplhgpeggcmdaaGreatDoor
set_option linter.unusedSimpArgs false
set_option linter.unusedVariables false
open Go.ChangeShapes Go.WideShapes Go.ChangeAt Go.RowKit Go.Shelf swar under trap meter group probe lens tail call table
namespace evac
attribute [local go_sem] Oper.semAt_some stage.pureUpon move.stepUpon Option.isNone_some Option.isNone_none
theorem szTab:(Tryz.prog.info? 164).map (·.size)=some 3:=by kernel_rfl
theorem tab_some(x:Addr)(w:World):(Op.equalIn 10000 86 (.pointer (some x)) (.pointer none)).run Tryz.prog w=.ok false w:=by
 obtain⟨j,hj,_⟩:=Option.map_eq_some_iff.1 szTab
 have h:∀d:Nat,(Op.equalIn (d+1) 86 (.pointer (some x)) (.pointer none)).run Tryz.prog w=.ok false w:=fun d=>by
  simp [Op.equalIn,run_underlying Tryz.underlying86,sizeOf,typeInfo,hj,sameAddr]
 exact h 9999
theorem tab_some'(x:Addr)(w:World):(Op.equalIn 10000 86 (.pointer none) (.pointer (some x))).run Tryz.prog w=.ok false w:=by
 obtain⟨j,hj,_⟩:=Option.map_eq_some_iff.1 szTab
 have h:∀d:Nat,(Op.equalIn (d+1) 86 (.pointer none) (.pointer (some x))).run Tryz.prog w=.ok false w:=fun d=>by
  simp [Op.equalIn,run_underlying Tryz.underlying86,sizeOf,typeInfo,hj,sameAddr]
 exact h 9999
theorem tab_none(w:World):(Op.equalIn 10000 86 (.pointer none) (.pointer none)).run Tryz.prog w=.ok true w:=by
 obtain⟨j,hj,_⟩:=Option.map_eq_some_iff.1 szTab
 have h:∀d:Nat,(Op.equalIn (d+1) 86 (.pointer none) (.pointer none)).run Tryz.prog w=.ok true w:=fun d=>by
  simp [Op.equalIn,run_underlying Tryz.underlying86,sizeOf,typeInfo,hj,sameAddr]
 exact h 9999
theorem infoTab:(Tryz.prog.info? 86).map (fun i=>(i.zero,i.size,i.bytes))=some (some (.pointer none),1,8):=by kernel_rfl
theorem array_ok(x:Addr)(c:Nat)(w:World):(Instr.arrayAt 231 (.slice (some x) 2 c)).run Tryz.prog w=.ok (.pointer (some x)) w:=by
 simp [Instr.arrayAt,run_underlying Tryz.underlying231,go_sem]
def PtrsAt(so:Option Addr)(ps:List (Option Addr))(w:World):Prop:=∀j (hj:j<ps.length),∃x,so=some x∧w.cell? (x.add j)=some (.pointer ps[j])
theorem PtrsAt.below{so:Option Addr}{ps:List (Option Addr)}{w w':World}(h:PtrsAt so ps w)(hb:Below w.heap.size w w'):PtrsAt so ps w':=fun j hj=>by
 obtain⟨x,h1,h2⟩:=h j hj;exact⟨x,h1,keepc hb h2⟩
theorem add_at(A k j:Nat):(⟨A,k,none⟩:Addr).add j=⟨A,k+j,none⟩:=by unfold Addr.add;split <;> simp_all
theorem eq_ptr(p:Option Addr)(w:World):(binOp BinOp.eql 86 (.pointer none) (.pointer p)).run Tryz.prog w=.ok (.bool p.isNone) w:=by
 have hs':=tab_some';have hn:=tab_none;cases p
 ·simp [binOp,go_sem,Op.equal]
  rw [show Op.maxDepth=10000 from rfl,hn];rfl
 ·simp [binOp,go_sem,Op.equal]
  rw [show Op.maxDepth=10000 from rfl,hs'];rfl
set_option maxRecDepth 20000 in
theorem index_any(so:Option Addr)(ps:List (Option Addr))(h8:ps.length≤8)(c:Nat)(w:World)(h:PtrsAt so ps w) :
  Calls Tryz.prog 194 #[.slice so ps.length c,.pointer none] w fun e w'=>∃i:Int,e=.returned (.int .i64 i)∧decide (0≤i)=ps.any Option.isNone∧w=w':=by
 have hs:=tab_some;have hs':=tab_some';have hn:=tab_none
 go_enter Tryz.func194,Tryz.ntmps194
 go_wp2_with (fail)
 go_loopw [8] (fun i wr=>∃j:Nat,j≤ps.length∧i=.int .i64 j∧wr=w∧(ps.take j).any Option.isNone=false) (fun i _=>ps.length-(intOf i).toNat)
 case atStart=>exact⟨0,by omega,rfl,rfl,rfl⟩
 case round =>
  obtain⟨j,hj,rfl,rfl,hA⟩:=hrel
  rcases Nat.lt_or_ge j ps.length with hjl|hjl
  ·have hji:(j:Int)<(ps.length:Int):=by omega
   obtain⟨x,rfl,hc⟩:=h j hjl
   have ht:(ps.take (j+1)).any Option.isNone=ps[j].isNone:=by
    rw [take_next ps hjl,List.any_append,hA];simp
   have hall:ps[j].isNone=true→ps.any Option.isNone=true:=fun e=>List.any_eq_true.2 ⟨_,List.getElem_mem hjl,e⟩
   generalize ps[j]=p at *
   obtain⟨b,hb⟩:∃b,p.isNone=b:=⟨_,rfl⟩;have hq:=eq_ptr p;rw [hb] at hq;cases b with
   | true =>
    clear hA ht;go_wp2
    go_ret
    exact⟨(j:Int),rfl,by rw [hall hb];exact decide_eq_true (by omega),rfl⟩
   | false =>
    rw [hb] at ht;clear hall hA;go_wp2
    go_roundw
    case rel=>exact⟨j+1,by omega,by simp,trivial,ht⟩
    case measure=>simp [intOf];omega
  ·obtain rfl:j=ps.length:=by omega
   rw [List.take_length] at hA;go_wp2
   go_ret
   refine⟨-1, ?_, ?_, ?_⟩ <;> simp [hA]
theorem contains_any(so:Option Addr)(ps:List (Option Addr))(h8:ps.length≤8)(c:Nat)(w:World)(h:PtrsAt so ps w) :
  Calls Tryz.prog 187 #[.slice so ps.length c,.pointer none] w fun e w'=>e=.returned (.bool (ps.any Option.isNone))∧w=w':=by
 have cI:=index_any so ps h8 c w h
 go_enter Tryz.func187,Tryz.ntmps187
 go_wp2_with (go_at_call 194;refine cI.mono ?_;rintro e w1 ⟨i,rfl,hi,rfl⟩)
 go_ret
 exact⟨by rw [←hi];rfl,rfl⟩
set_option maxRecDepth 20000 in
theorem new_one(T0 B0:Nat)(t0:Tb)(d:Int)(A k:Nat)(y:Addr)(c:Nat)(w:World)(hT:TAt T0 B0 t0 w)(hx:w.cell? ⟨A,k,none⟩=some (.pointer (some y))) :
  Calls Tryz.prog 177 #[.pointer (some ⟨T0,0,none⟩),.int .i64 d,.slice (some ⟨A,k,none⟩) 1 c] w fun e w'=>∃V,e=.returned (.tuple #[.pointer (some ⟨V,0,none⟩),.nilIface])∧w'.heap[V]?=some (.cells #[.pointer (some ⟨T0,0,none⟩),.int .i64 (t0.n:Nat),.int .i64 0,.int .i64 0,.pointer (some y),.pointer (some y)] 233 (0,0))∧w.heap.size≤V∧Below w.heap.size w w':=by
 have hs:=tab_some
 have hP:PtrsAt (some ⟨A,k,none⟩) [some y] w:=fun j hj=>by
  obtain rfl:j=0:=by simpa using hj
  exact⟨_,rfl,by rw [add_at];exact hx⟩
 have cC:=contains_any (some ⟨A,k,none⟩) [some y] (by simp) c w hP;have cG:=groups_any T0 B0 t0 w hT;have e1:([some y]:List (Option Addr)).any Option.isNone=false:=rfl;have e2:([some y]:List (Option Addr)).length=1:=rfl;rw [e1,e2] at cC;have hb:=new_block w (.cells #[.pointer (some ⟨T0,0,none⟩),.int .i64 (t0.n:Nat),.int .i64 0,.int .i64 0,.pointer none,.pointer none] 233);have hr:=World.alloc_heap_new w (.cells #[.pointer (some ⟨T0,0,none⟩),.int .i64 (t0.n:Nat),.int .i64 0,.int .i64 0,.pointer none,.pointer none] 233);have hx1:=Under.cell (keepc hb hx);clear hP hT e1 e2;generalize t0.n=n0 at *
 go_enter Tryz.func177,Tryz.ntmps177
 go_wp2_with (first
  | (go_at_call 187;refine cC.mono ?_;rintro e w1 ⟨rfl,rfl⟩)
  | (go_at_call 63;refine cG.mono ?_;rintro e w1 ⟨rfl,rfl⟩))
 refine tail.wp_region_tail_under 10 (by kernel_rfl) (by kernel_rfl) ?_;simp only [List.take_succ_cons,List.take_zero,List.drop_succ_cons,List.drop_zero]
 repeat (quiet_step (fail))
 refine wpQuiet_nil ?_;intro wz hwz;obtain⟨z,rfl⟩:=hwz;have hr2:=(z.below.block _ (by simp)).trans hr;have hbz:=under.below_step hb z.below;clear hx1 hr hb;generalize z.W=w4 at *
 have f4:=frozen_of_row w4 w.heap.size 4 _ _ hr2;have f5:=frozen_of_row w4 w.heap.size 5 _ _ hr2;have k4:w4.cell? ⟨w.heap.size,4,none⟩=some (.pointer none):=by rw [cell_of_row _ _ _ _ _ _ hr2];rfl
 have k5:w4.cell? ⟨w.heap.size,5,none⟩=some (.pointer none):=by rw [cell_of_row _ _ _ _ _ _ hr2];rfl
 go_wp2
 go_ret2
 refine⟨w.heap.size,rfl, ?_,Nat.le_refl _, ?_⟩
 ·rw [heap_setCell_same _ _ 5 _ _ _ (heap_setCell_same w4 w.heap.size 4 _ _ _ hr2)];rfl
 ·exact bset (bset hbz _ _ (Nat.le_refl _) _) _ _ (Nat.le_refl _) _
set_option maxRecDepth 20000 in
theorem new_two(T0 B0:Nat)(t0:Tb)(d:Nat)(hd:d≤15)(A k:Nat)(y z:Addr)(c:Nat)(w:World)(hT:TAt T0 B0 t0 w)(hx:w.cell? ⟨A,k,none⟩=some (.pointer (some y)))(hy:w.cell? ⟨A,k+1,none⟩=some (.pointer (some z))) :
  Calls Tryz.prog 177 #[.pointer (some ⟨T0,0,none⟩),.int .i64 (d:Nat),.slice (some ⟨A,k,none⟩) 2 c] w fun e w'=>∃V,e=.returned (.tuple #[.pointer (some ⟨V,0,none⟩),.nilIface])∧w'.heap[V]?=some (.cells #[.pointer (some ⟨T0,0,none⟩),.int .i64 (t0.n:Nat),.int .i64 0,.int .i64 (d:Nat),.pointer (some y),.pointer (some z)] 233 (0,0))∧w.heap.size≤V∧Below w.heap.size w w':=by
 have hs:=tab_some
 have hP:PtrsAt (some ⟨A,k,none⟩) [some y,some z] w:=fun j hj=>by
  obtain rfl|rfl:j=0∨j=1:=by simp at hj;omega
  ·exact⟨_,rfl,by rw [add_at];exact hx⟩
  ·exact⟨_,rfl,by rw [add_at];exact hy⟩
 have cC:=contains_any (some ⟨A,k,none⟩) [some y,some z] (by simp) c w hP;have cG:=groups_any T0 B0 t0 w hT;have e1:([some y,some z]:List (Option Addr)).any Option.isNone=false:=rfl;have e2:([some y,some z]:List (Option Addr)).length=2:=rfl;rw [e1,e2] at cC;have hb:=new_block w (.cells #[.pointer (some ⟨T0,0,none⟩),.int .i64 (t0.n:Nat),.int .i64 0,.int .i64 0,.pointer none,.pointer none] 233);have hr:=World.alloc_heap_new w (.cells #[.pointer (some ⟨T0,0,none⟩),.int .i64 (t0.n:Nat),.int .i64 0,.int .i64 0,.pointer none,.pointer none] 233);have q1:=keepc hb hx;have q2:=keepc hb hy;have l1:=World.block_lt_of_cell? _ _ hx;have l2:=World.block_lt_of_cell? _ _ hy;have d1:decide ((0:Int)≤(d:Int))=true:=decide_eq_true (by omega);have d2:decide ((d:Int)≤15)=true:=decide_eq_true (by omega);have d3:decide (d≤15)=true:=decide_eq_true (by omega);have hA:=array_ok;clear hP hT e1 e2;generalize t0.n=n0 at *
 have f3:=frozen_of_row _ w.heap.size 3 _ _ hr;have f4:=frozen_of_row _ w.heap.size 4 _ _ hr;have f5:=frozen_of_row _ w.heap.size 5 _ _ hr;have k3:(w.alloc (.cells #[.pointer (some ⟨T0,0,none⟩),.int .i64 (n0:Nat),.int .i64 0,.int .i64 0,.pointer none,.pointer none] 233)).cell? ⟨w.heap.size,3,none⟩=some (.int .i64 0):=by rw [cell_of_row _ _ _ _ _ _ hr];rfl
 have k4:(w.alloc (.cells #[.pointer (some ⟨T0,0,none⟩),.int .i64 (n0:Nat),.int .i64 0,.int .i64 0,.pointer none,.pointer none] 233)).cell? ⟨w.heap.size,4,none⟩=some (.pointer none):=by rw [cell_of_row _ _ _ _ _ _ hr];rfl
 have k5:(w.alloc (.cells #[.pointer (some ⟨T0,0,none⟩),.int .i64 (n0:Nat),.int .i64 0,.int .i64 0,.pointer none,.pointer none] 233)).cell? ⟨w.heap.size,5,none⟩=some (.pointer none):=by rw [cell_of_row _ _ _ _ _ _ hr];rfl
 go_enter Tryz.func177,Tryz.ntmps177
 go_wp2_with (first
  | (go_at_call 187;refine cC.mono ?_;rintro e w1 ⟨rfl,rfl⟩)
  | (go_at_call 63;refine cG.mono ?_;rintro e w1 ⟨rfl,rfl⟩))
 go_ret2
 refine⟨w.heap.size,rfl, ?_,Nat.le_refl _, ?_⟩
 ·exact World.alloc_heap_new w _
 ·exact new_block w _
theorem row_past2{w w':World}{base:Nat}{e:TypeId}{size n:Nat}{v:Value}{xs:List Value}{d:List Nat}(h:w.ownsRow base e size v n xs)(hp:Past d w w')(hd:∀g,v.ownBlock=some g→g∉d):w'.ownsRow base e size v n xs:=by
 refine⟨h.1, ?_⟩
 rcases h.2 with h2|⟨g,cap,cur,h1,h2,h3,h4⟩
 ·exact .inl h2
 ·subst h1
  exact .inr ⟨g,cap,cur,rfl,h2,(hp.block g (Array.getElem?_eq_some_iff.1 h3).1 (hd g rfl)).trans h3,h4⟩
theorem row_lt{w:World}{base:Nat}{e:TypeId}{size n:Nat}{v:Value}{xs:List Value}(h:w.ownsRow base e size v n xs){g:Nat}(hg:v.ownBlock=some g):base≤g∧g<w.heap.size:=by
 rcases h.2 with⟨rfl,_⟩|⟨g',cap,cur,h1,h2,h3,h4⟩
 ·cases hg
 ·subst h1
  obtain rfl:g'=g:=by injection hg
  exact⟨h2,(Array.getElem?_eq_some_iff.1 h3).1⟩
end evac
namespace evac
attribute [local go_sem] Oper.semAt_some stage.pureUpon move.stepUpon
def Mk(p v k:Nat):Mt:=⟨p,p,v,v,k,k,0,false⟩
theorem szEv:(Tryz.prog.info? 233).map (·.size)=some 6:=by kernel_rfl
theorem ev_some(x:Addr)(w:World):(Op.equalIn 10000 195 (.pointer (some x)) (.pointer none)).run Tryz.prog w=.ok false w:=by
 obtain⟨j,hj,_⟩:=Option.map_eq_some_iff.1 szEv
 have h:∀d:Nat,(Op.equalIn (d+1) 195 (.pointer (some x)) (.pointer none)).run Tryz.prog w=.ok false w:=fun d=>by
  simp [Op.equalIn,run_underlying Tryz.underlying195,sizeOf,typeInfo,hj,sameAddr]
 exact h 9999
theorem ev_none(w:World):(Op.equalIn 10000 195 (.pointer none) (.pointer none)).run Tryz.prog w=.ok true w:=by
 obtain⟨j,hj,_⟩:=Option.map_eq_some_iff.1 szEv
 have h:∀d:Nat,(Op.equalIn (d+1) 195 (.pointer none) (.pointer none)).run Tryz.prog w=.ok true w:=fun d=>by
  simp [Op.equalIn,run_underlying Tryz.underlying195,sizeOf,typeInfo,hj,sameAddr]
 exact h 9999
def aE:Nat→Tb
 | 0=>Tb.new 1
 | k+1=>(aE k).puts k k 0
def aT(k:Nat):Nat→Tb:=fun i=>if i=0 then aE k else Tb.new 2
section
variable {a:String→Addr} {w0:World} {Y:Lay} {t:Nat→Tb} {W W':World}
end
theorem MAt.zero_new(w:World):MAt w.heap.size 0 (Mk 0 0 0) (w.alloc (.cells #[.int .i64 0,.int .i64 0,.int .i64 0,.int .i64 0,.int .i64 0,.int .i64 0,.int .i64 0,.bool false] 38)):=MAt.new w
end evac
end Go.Proofs.YtdplhgpeggcmdaaGreatDoor
