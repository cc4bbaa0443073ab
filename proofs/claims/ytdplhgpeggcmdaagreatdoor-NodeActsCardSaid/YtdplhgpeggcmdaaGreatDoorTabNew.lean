/- TabNew: facts and laws for the walks. -/
import Derived.Test.YtdplhgpeggcmdaaGreatDoorProbeSk
namespace Go.Proofs.YtdplhgpeggcmdaaGreatDoor
set_option linter.unusedSimpArgs false
set_option linter.unusedVariables false
namespace table
open Go.ChangeShapes Go.WideShapes Go.ChangeAt Go.RowKit Go.Shelf swar under trap meter group probe lens tail call
attribute [local go_sem] Oper.semAt_some stage.pureUpon move.stepUpon
def texts(t:Tb)(k:Nat):List ByteArray:=(List.range k).map fun i=>ctrl.textN (group.word (t.gs i))
theorem row_below{w w':World}{base:Nat}{e:TypeId}{size n:Nat}{v:Value}{xs:List Value}(h:w.ownsRow base e size v n xs)(hb:Below w.heap.size w w'):w'.ownsRow base e size v n xs:=by
 refine⟨h.1, ?_⟩
 rcases h.2 with h2|⟨g,cap,cur,h1,h2,h3,h4⟩
 ·exact .inl h2
 ·exact .inr ⟨g,cap,cur,h1,h2,(hb.block g (Array.getElem?_eq_some_iff.1 h3).1).trans h3,h4⟩
theorem cell_one_new(w:World)(a:Value)(t:TypeId):∀j u,[a][j]?=some u→(w.alloc (.cells #[a] t)).cell? ((⟨w.heap.size,0,none⟩:Addr).add j)=some u:=by
 intro j u hj;have hr:=World.alloc_heap_new w (.cells #[a] t);have hadd:(⟨w.heap.size,0,none⟩:Addr).add j=⟨w.heap.size,j,none⟩:=by unfold Addr.add;split <;> simp_all
 rw [hadd,cell_of_row _ _ j _ _ _ hr]
 simpa using hj
end table
namespace table
open Go.ChangeShapes Go.WideShapes Go.ChangeAt Go.RowKit swar under trap meter group probe lens tail call
attribute [local go_sem] Oper.semAt_some stage.pureUpon move.stepUpon
def zeroG:Value:=.agg #[.int .u64 0,.int .u64 0,.int .u64 0,.int .u64 0,.int .u64 0,.int .u64 0,.int .u64 0,.int .u64 0,.int .u64 0,.int .u64 0,.int .u64 0,.int .u64 0,.int .u64 0,.int .u64 0,.int .u64 0,.int .u64 0,.int .u64 0,.int .u64 0,.int .u64 0,.int .u64 0,.int .u64 0,.int .u64 0,.int .u64 0,.int .u64 0,.int .u64 0]
theorem infoGroup:(Tryz.prog.info? 168).map (fun i=>(i.zero,i.size,i.bytes))=some (some zeroG,25,200):=by kernel_rfl
def madeG(n:Nat):Array Value:=madeCells zeroG.cells (n*25)
theorem make_groups(n:Nat)(hn:n≤64)(w:World):(Instr.makeSlice 162 (.int .i64 n) (.int .i64 n)).run Tryz.prog w=.ok (.slice (some ⟨w.heap.size,0,none⟩) n n) (w.alloc (.cells (madeG n) 168)):=by
 obtain⟨i,hi,h0,h1,h2⟩:=info_parts infoGroup;have h:=run_make (P:=Tryz.prog) w 162 168 i zeroG Tryz.underlying162 hi h0 .i64 .i64 n n (by omega) (by omega) (by rw [h2];omega) (by omega);rw [h1] at h
 simpa [madeG] using h
structure PAt(T B n k:Nat)(w:World):Prop where
 row:w.cell? ⟨T,0,none⟩=some (.slice (some ⟨B,0,none⟩) n n)
 len:w.cell? ⟨T,1,none⟩=some (.int .i64 0)
 tombs:w.cell? ⟨T,2,none⟩=some (.int .i64 0)
 fz:∀i,w.frozen? ⟨T,i,none⟩=false
 room:∀i,i<n→Room B (i*25) w
 done:∀i,i<k→i<n→GAt B (i*25) .new w
 ne:T≠B
 lb:B<w.heap.size
theorem PAt.lt{T B n k:Nat}{w:World}(h:PAt T B n k w):T<w.heap.size:=World.block_lt_of_cell? w _ h.row
theorem PAt.of_blocks{T B n k:Nat}{w w':World}(h:PAt T B n k w)(hT:w'.heap[T]?=w.heap[T]?)(hB:w'.heap[B]?=w.heap[B]?)(hz:w.heap.size≤w'.heap.size):PAt T B n k w':=
 have c:∀i v,w.cell? ⟨T,i,none⟩=some v→w'.cell? ⟨T,i,none⟩=some v:=fun i v hc=>(World.cell?_of_block (w:=w) hT).trans hc
 ⟨c _ _ h.row,c _ _ h.len,c _ _ h.tombs,fun i=>(World.frozen?_of_block (w:=w) hT).trans (h.fz i),fun i hi=>⟨fun j hj=>by rw [World.cell?_of_block (w:=w) hB];exact (h.room i hi).cells j hj,fun j=>(World.frozen?_of_block (w:=w) hB).trans ((h.room i hi).fz j)⟩,fun i hi hn=>(h.done i hi hn).of_block hB,h.ne,Nat.lt_of_lt_of_le h.lb hz⟩
theorem PAt.below{T B n k:Nat}{w w':World}(h:PAt T B n k w)(hb:Below w.heap.size w w'):PAt T B n k w':=h.of_blocks (hb.block T h.lt) (hb.block B h.lb) hb.size
theorem PAt.past{T B n k:Nat}{w w':World}{d:List Nat}(h:PAt T B n k w)(hp:Past d w w')(hT:T∉d)(hB:B∉d):PAt T B n k w':=h.of_blocks (hp.block T h.lt hT) (hp.block B h.lb hB) hp.size
theorem GAt.beside{B j:Nat}{g:Gp}{w w':World}(hg:GAt B (j*25) g w){i:Nat}(hs:Beside B (i*25) 25 w w')(e:j≠i):GAt B (j*25) g w':=by
 have cc:∀d v,d<25→w.cell? ⟨B,j*25+d,none⟩=some v→w'.cell? ⟨B,j*25+d,none⟩=some v:=fun d v hd hc=>by
  rw [hs.cells _ (by omega)];exact hc
 refine⟨cc 0 _ (by decide) hg.word,fun k hk=>?_,fun k hk=>?_,fun k hk=>?_,fun k=>by rw [hs.frozen];exact hg.fz k⟩
 ·have:=cc (1+k*3) _ (by omega) (by have:=hg.key k hk;rwa [Nat.add_assoc] at this)
  rwa [←Nat.add_assoc] at this
 ·have:=cc (1+k*3+1) _ (by omega) (by have:=hg.val k hk;rwa [show j*25+1+k*3+1=j*25+(1+k*3+1) by omega] at this)
  rwa [show j*25+(1+k*3+1)=j*25+1+k*3+1 by omega] at this
 ·have:=cc (1+k*3+2) _ (by omega) (by have:=hg.hash k hk;rwa [show j*25+1+k*3+2=j*25+(1+k*3+2) by omega] at this)
  rwa [show j*25+(1+k*3+2)=j*25+1+k*3+2 by omega] at this
theorem PAt.next{T B n k:Nat}{w w':World}(h:PAt T B n k w)(hk:k<n)(hs:group.GStep B (k*25) .new w w'):PAt T B n (k+1) w':=by
 have nT:T∉[B]:=by simpa using h.ne
 have c:∀i v,w.cell? ⟨T,i,none⟩=some v→w'.cell? ⟨T,i,none⟩=some v:=fun i v hc=>hs.past.cell hc nT
 refine⟨c _ _ h.row,c _ _ h.len,c _ _ h.tombs,fun j=>(hs.past.frozen h.lt nT).trans (h.fz j),fun i hi=>?_,fun i hi hn=>?_,h.ne,Nat.lt_of_lt_of_le h.lb hs.past.size⟩
 ·by_cases e:i=k
  ·subst e;exact hs.at'.room
  ·exact⟨fun j hj=>by rw [hs.side.cells _ (by omega)];exact (h.room i hi).cells j hj,fun j=>by rw [hs.side.frozen];exact (h.room i hi).fz j⟩
 ·by_cases e:i=k
  ·subst e;exact hs.at'
  ·exact GAt.beside (h.done i (by omega) hn) hs.side e
theorem PAt.all{T B n:Nat}{w:World}(h:PAt T B n n w):TAt T B (Tb.new n) w:=⟨h.row,h.len,h.tombs,h.fz,fun i hi=>h.done i hi hi,h.ne,h.lb⟩
theorem PAt.raw(n:Nat)(w:World):PAt (w.heap.size+1) w.heap.size n 0 ((w.alloc (.cells (madeG n) 168)).alloc (.cells #[.slice (some ⟨w.heap.size,0,none⟩) n n,.int .i64 0,.int .i64 0] 164)):=by
 have e:(w.alloc (.cells (madeG n) 168)).heap.size=w.heap.size+1:=World.size_alloc _ _;have hT:=World.alloc_heap_new (w.alloc (.cells (madeG n) 168)) (.cells #[.slice (some ⟨w.heap.size,0,none⟩) n n,.int .i64 0,.int .i64 0] 164);rw [e] at hT;have hB:((w.alloc (.cells (madeG n) 168)).alloc (.cells #[.slice (some ⟨w.heap.size,0,none⟩) n n,.int .i64 0,.int .i64 0] 164)).heap[w.heap.size]?=some (.cells (madeG n) 168 (0,0)):=(Below.heap_alloc _ _ _ (by rw [e];omega)).trans (World.alloc_heap_new w _);refine⟨?_, ?_, ?_,fun i=>frozen_of_row _ _ i _ _ hT,fun i hi=>⟨fun j hj=>?_,fun j=>frozen_of_row _ _ j _ _ hB⟩,fun i hi=>absurd hi (by omega),by omega,by simp;omega⟩
 ·rw [cell_of_row _ _ _ _ _ _ hT];rfl
 ·rw [cell_of_row _ _ _ _ _ _ hT];rfl
 ·rw [cell_of_row _ _ _ _ _ _ hT];rfl
 ·rw [cell_of_row _ _ _ _ _ _ hB,Array.getElem?_eq_getElem (by unfold madeG;rw [size_madeCells];omega)];rfl
set_option maxRecDepth 20000 in
theorem raw_yes(n:Nat)(hn:okN n)(w:World):Calls Tryz.prog 84 #[.int .i64 n] w fun e w'=>e=.returned (.tuple #[.pointer (some ⟨w.heap.size+1,0,none⟩),.nilIface])∧PAt (w.heap.size+1) w.heap.size n 0 w'∧Below w.heap.size w w':=by
 have hm:=make_groups n (okN_le hn);have hP:=PAt.raw n w;generalize madeG n=mg at hm hP
 go_enter Tryz.func84,Tryz.ntmps84
 go_wp2_with (go_at_call 117;refine (right_yes n hn _).mono ?_;rintro e w' ⟨rfl,rfl⟩)
 go_ret2
 exact⟨rfl,hP,two_new w _ _⟩
set_option maxRecDepth 20000 in
theorem new_yes(n:Nat)(hn:okN n)(w:World):Calls Tryz.prog 38 #[.int .i64 n] w fun e w'=>e=.returned (.tuple #[.pointer (some ⟨w.heap.size+1,0,none⟩),.nilIface])∧TAt (w.heap.size+1) w.heap.size (Tb.new n) w'∧Below w.heap.size w w':=by
 go_enter Tryz.func38,Tryz.ntmps38
 go_wp2_with (go_at_call 84;refine (raw_yes n hn _).mono ?_;rintro e w1 ⟨rfl,hP0,hB0⟩)
 have hI:=Lib.hid (show PAt (w.heap.size+1) w.heap.size n 0 w1∧Below w.heap.size w w1 from⟨hP0,hB0⟩);clear hP0 hB0
 go_loopw [16] (fun i wr=>∃k:Nat,k≤n∧i=.int .i64 k∧Hid (PAt (w.heap.size+1) w.heap.size n k wr∧Below w.heap.size w wr)) (fun i _=>n-(intOf i).toNat)
 case atStart=>exact⟨0,by omega,rfl,hI⟩
 case round =>
  obtain⟨k,hk,rfl,HR⟩:=hrel
  rcases Nat.lt_or_ge k n with hkn|hkn
  ·have hki:(k:Int)<(n:Int):=by omega
   have hn64:=okN_le hn
   go_wp2_with (first
    | (go_at_call 85;refine (view_row _ _ n k hkn _ HR.out.1.row).mono ?_;rintro e w2 ⟨rfl,hb2⟩)
    | (go_at_call 86;refine (clear_any w.heap.size (k*25) _ (((HR.out.1.below hb2).room k hkn))).mono ?_;rintro e w3 ⟨rfl,hs3⟩))
   go_roundw
   case rel=>exact⟨k+1,by omega,by simp,Lib.hid ⟨(HR.out.1.below hb2).next hkn hs3,(under.below_step HR.out.2 hb2).trans (hs3.past.below (under.below_step HR.out.2 hb2).size (by simp))⟩⟩
   case measure=>simp [intOf];omega
  ·obtain rfl:k=n:=by omega
   go_wp2
   go_ret2
   exact⟨rfl,HR.out.1.all,HR.out.2⟩
set_option maxRecDepth 20000 in
theorem prepare_next(T B n k:Nat)(hk:k<n)(L:Ln)(m:Mt)(w:World)(h:PAt T B n k w)(hl:LnAt L m w)(hT:T∉L.d)(hB:B∉L.d) :
  Calls Tryz.prog 174 #[.pointer (some ⟨T,0,none⟩),.agg #[.pointer L.p],.int .i64 k] w fun e w'=>e=.returned .nilIface∧PAt T B n (k+1) w'∧LnStep [T,B] L (L.one m) w w':=by
 have hb:=new_block w (.cells #[.pointer L.p] 52);have c:=look_row T B n k hk L m _ (keepc hb h.row) (hl.below hb) hT;have HC:=Lib.hid (fun W (hs:LnStep [] L (L.one m) (w.alloc (.cells #[.pointer L.p] 52)) W)=>(h.below hb).past hs.past (by simpa using hT) (by simpa using hB));have HL:=Lib.hid (LnStep.of [] hl hb);have hnd:=fun b (hb:b∈L.d)=>(show b∉[B] from by simp;intro e;subst e;exact absurd hb hB)
 clear h hl
 go_enter Tryz.func174,Tryz.ntmps174
 go_wp2_with (first
  | (go_at_call 183;refine c.mono ?_;rintro e w1 ⟨rfl,hs1⟩;have hP1:=HC.out _ hs1;have hb2:=new_block w1 (.cells #[.pointer (some ⟨B,k*25,none⟩)] 104);have hP2:=hP1.below hb2)
  | (go_at_call 86;refine (clear_any B (k*25) _ (hP2.room k hk)).mono ?_;rintro e w3 ⟨rfl,hs3⟩))
 go_ret
 have hL3:LnStep [T,B] L (L.one m) w w1:=(HL.out.trans hs1).mono fun b hb=>(by cases hb)
 have hL4:=hL3.below hb2;refine⟨rfl,hP2.next hk hs3,hL4.trans ?_⟩;exact (LnStep.of_past hL4.at' hs3.past hnd).mono fun b hb=>by simp at hb ⊢;exact .inr hb
end table
namespace table
open Go.ChangeShapes Go.WideShapes Go.ChangeAt Go.RowKit Go.Shelf swar under trap meter group probe lens tail call
attribute [local go_sem] Oper.semAt_some stage.pureUpon move.stepUpon
theorem errs6{a:String→Addr}{w:World}(h:errs.ErrsOk errs.names a w):Errs6 a w:=
 ⟨⟨h.at errs.gErrRange (errs.nm_mem (i:=0) (by decide)),h.at errs.gErrState (errs.nm_mem (i:=4) (by decide))⟩,h.at errs.gErrFull (errs.nm_mem (i:=1) (by decide)),h.at errs.gErrNone (errs.nm_mem (i:=3) (by decide)),h.at errs.gErrKind (errs.nm_mem (i:=13) (by decide)),h.at errs.gErrDup (errs.nm_mem (i:=15) (by decide))⟩
structure Base(a:String→Addr)(w:World):Prop where
 errs:errs.ErrsOk errs.names a w
 bits:TabOk w
 far:18≤w.heap.size
theorem Base.of{a:String→Addr}{w:World}(h:errs.ErrsOk errs.names a w)(hT:TabOk w):Base a w:=by
 have e0:0<w.heap.size:=World.block_lt_of_cell? w _ (h.at errs.gErrRange (errs.nm_mem (i:=0) (by decide)));have e1:1<w.heap.size:=World.block_lt_of_cell? w _ (h.at errs.gErrFull (errs.nm_mem (i:=1) (by decide)));have e2:5<w.heap.size:=World.block_lt_of_cell? w _ (h.at errs.gErrForm (errs.nm_mem (i:=2) (by decide)));have e3:6<w.heap.size:=World.block_lt_of_cell? w _ (h.at errs.gErrNone (errs.nm_mem (i:=3) (by decide)));have e4:2<w.heap.size:=World.block_lt_of_cell? w _ (h.at errs.gErrState (errs.nm_mem (i:=4) (by decide)));have e5:7<w.heap.size:=World.block_lt_of_cell? w _ (h.at errs.gErrBadIter (errs.nm_mem (i:=5) (by decide)));have e6:8<w.heap.size:=World.block_lt_of_cell? w _ (h.at errs.gErrTooMany (errs.nm_mem (i:=6) (by decide)));have e7:9<w.heap.size:=World.block_lt_of_cell? w _ (h.at errs.gErrHash (errs.nm_mem (i:=7) (by decide)));have e8:10<w.heap.size:=World.block_lt_of_cell? w _ (h.at errs.gErrLong (errs.nm_mem (i:=8) (by decide)));have e9:4<w.heap.size:=World.block_lt_of_cell? w _ (h.at errs.gErrBroken (errs.nm_mem (i:=9) (by decide)));have e10:11<w.heap.size:=World.block_lt_of_cell? w _ (h.at errs.gErrLimit (errs.nm_mem (i:=10) (by decide)));have e11:3<w.heap.size:=World.block_lt_of_cell? w _ (h.at errs.gErrEmpty (errs.nm_mem (i:=11) (by decide)));have e12:12<w.heap.size:=World.block_lt_of_cell? w _ (h.at errs.gErrNumber (errs.nm_mem (i:=12) (by decide)));have e13:13<w.heap.size:=World.block_lt_of_cell? w _ (h.at errs.gErrKind (errs.nm_mem (i:=13) (by decide)));have e14:14<w.heap.size:=World.block_lt_of_cell? w _ (h.at errs.gErrName (errs.nm_mem (i:=14) (by decide)));have e15:15<w.heap.size:=World.block_lt_of_cell? w _ (h.at errs.gErrDup (errs.nm_mem (i:=15) (by decide)));have e:=hT.lt;exact⟨h,hT,by omega⟩
theorem Base.below{a:String→Addr}{w W:World}(h:Base a w)(hb:Below w.heap.size w W):Base a W:=⟨h.errs.below hb,h.bits.below hb h.bits.lt,Nat.le_trans h.far hb.size⟩
structure LS(w:World)(T B:Nat)(t:Tb)(Bm:Nat)(m:Mt)(W:World):Prop where
 below:Below w.heap.size w W
 at':TAt T B t W
 ok:t.Ok
 ma:MAt Bm 0 m W
 hT:w.heap.size≤T
 hB:w.heap.size≤B
 hm:w.heap.size≤Bm
 nT:Bm≠T
 nB:Bm≠B
section
variable {a:String→Addr} {w:World} {T B:Nat} {t t':Tb} {Bm:Nat} {m m':Mt} {W W':World}
end
end table
end Go.Proofs.YtdplhgpeggcmdaaGreatDoor
