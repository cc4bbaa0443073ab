/- TabRs: facts and laws for the walks. -/
import Derived.Test.YtdplhgpeggcmdaaGreatDoorGroupDoc
import Derived.Test.YtdplhgpeggcmdaaGreatDoorProbeDoc
import Derived.Test.YtdplhgpeggcmdaaGreatDoorTabNew
import Derived.Deep.RegionHeld3
import Derived.Deep.AppendLies
import Derived.Deep.CutBlock
import Derived.Test.YtdplhgpeggcmdaaGreatDoorTableLeast
namespace Go.Proofs.YtdplhgpeggcmdaaGreatDoor
set_option linter.unusedSimpArgs false
set_option linter.unusedVariables false
namespace table
open Go.ChangeShapes Go.WideShapes Go.ChangeAt Go.RowKit Go.Shelf swar under trap meter group probe lens tail call
attribute [local go_sem] Oper.semAt_some stage.pureUpon move.stepUpon
structure Rf where
 R:Nat
 G:Nat
 c:Nat
 Q:Nat→Nat
def Rf.d(f:Rf)(n:Nat):List Nat:=f.R::(List.range n).map f.Q
theorem Rf.mem{f:Rf}{n b:Nat}:b∈f.d n↔b=f.R∨∃i,i<n∧f.Q i=b:=by simp [Rf.d]
structure WAt(f:Rf)(t:Tb)(k:Nat)(w:World):Prop where
 row:w.heap[f.R]?=some (.cells #[.slice (some ⟨f.G,0,none⟩) t.n f.c,.int .i64 (k:Nat)] 129 (0,0))
 pt:∀j,j<t.n→w.cell? ⟨f.G,j,none⟩=some (.pointer (some ⟨f.Q j,0,none⟩))
 lt:f.G<w.heap.size
 gs:∀j,j<t.n→RAt (f.Q j) (t.gs j) w
 inj:∀i j,i<t.n→j<t.n→f.Q i=f.Q j→i=j
 nr:∀j,j<t.n→f.Q j≠f.R
 ng:∀j,j<t.n→f.Q j≠f.G
 ne:f.G≠f.R
section
variable {f:Rf} {t t':Tb} {k k':Nat} {w w':World}
theorem WAt.ltR(h:WAt f t k w):f.R<w.heap.size:=(Array.getElem?_eq_some_iff.1 h.row).1
theorem WAt.ltQ(h:WAt f t k w){j:Nat}(hj:j<t.n):f.Q j<w.heap.size:=(h.gs j hj).lt
theorem WAt.of_blocks(h:WAt f t k w)(e:∀b,b∈f.d t.n∨b=f.G→w'.heap[b]?=w.heap[b]?)(hz:w.heap.size≤w'.heap.size):WAt f t k w':=
 ⟨(e _ (.inl (by simp [Rf.d]))).trans h.row,fun j hj=>(World.cell?_of_block (w:=w) (e f.G (.inr rfl))).trans (h.pt j hj),Nat.lt_of_lt_of_le h.lt hz,fun j hj=>(h.gs j hj).of_block (e _ (.inl (Rf.mem.2 (.inr ⟨j,hj,rfl⟩)))),h.inj,h.nr,h.ng,h.ne⟩
theorem WAt.lts(h:WAt f t k w){b:Nat}(hb:b∈f.d t.n∨b=f.G):b<w.heap.size:=by
 rcases hb with hb|rfl
 ·rcases Rf.mem.1 hb with rfl|⟨i,hi,rfl⟩
  ·exact h.ltR
  ·exact h.ltQ hi
 ·exact h.lt
theorem WAt.below(h:WAt f t k w)(hb:Below w.heap.size w w'):WAt f t k w':=h.of_blocks (fun b e=>hb.block b (h.lts e)) hb.size
theorem WAt.past{d:List Nat}(h:WAt f t k w)(hp:Past d w w')(hd:∀b,b∈f.d t.n∨b=f.G→b∉d):WAt f t k w':=h.of_blocks (fun b e=>hp.block b (h.lts e) (hd b e)) hp.size
theorem WAt.cell0(h:WAt f t k w):w.cell? ⟨f.R,0,none⟩=some (.slice (some ⟨f.G,0,none⟩) t.n f.c):=by rw [cell_of_row _ _ _ _ _ _ h.row];rfl
theorem WAt.cell1(h:WAt f t k w):w.cell? ⟨f.R,1,none⟩=some (.int .i64 (k:Nat)):=by rw [cell_of_row _ _ _ _ _ _ h.row];rfl
theorem WAt.fz(h:WAt f t k w)(i:Nat):w.frozen? ⟨f.R,i,none⟩=false:=frozen_of_row _ _ i _ _ h.row
theorem WAt.congr(h:WAt f t k w)(hn:t'.n=t.n)(hg:∀j,j<t.n→t'.gs j=t.gs j):WAt f t' k w:=
 ⟨by rw [hn];exact h.row,fun j hj=>h.pt j (by omega),h.lt,fun j hj=>by rw [hg j (by omega)];exact h.gs j (by omega),fun i j hi hj=>h.inj i j (by omega) (by omega),fun j hj=>h.nr j (by omega),fun j hj=>h.ng j (by omega),h.ne⟩
end
structure WStep(f:Rf)(t:Tb)(k:Nat)(w w':World):Prop where
 past:Past (f.d t.n) w w'
 at':WAt f t k w'
section
variable {f:Rf} {t t' t'':Tb} {k k' k'':Nat} {w w' w'' x y z:World}
theorem WStep.trans(h:WStep f t k x y)(q:WStep f t' k' y z)(hn:t'.n=t.n):WStep f t' k' x z:=⟨by rw [hn];refine h.past.trans ?_;rw [←hn];exact q.past,q.at'⟩
theorem WStep.below(h:WStep f t k x y)(hb:Below y.heap.size y z):WStep f t k x z:=⟨h.past.trans (Past.of hb),h.at'.below hb⟩
theorem WAt.look(h:WAt f t k w):WStep f t (k+1) w (w.setCell ⟨f.R,1,none⟩ (.int .i64 ((k:Nat)+1:Int))):=by
 have p:Past [f.R] w (w.setCell ⟨f.R,1,none⟩ (.int .i64 ((k:Nat)+1:Int))):=(Past.refl [f.R] w).store (p:=⟨f.R,1,none⟩) (.inl (by simp)) _;have e:=heap_setCell_same w f.R 1 _ _ (.int .i64 ((k:Nat)+1:Int)) h.row;refine⟨p.mono fun b hb=>?_,e,fun j hj=>?_,by simpa using h.lt,fun j hj=>(h.gs j hj).past p (by simpa using h.nr j hj),h.inj,h.nr,h.ng,h.ne⟩
 ·obtain rfl:b=f.R:=by simpa using hb
  simp [Rf.d]
 ·exact (p.cell (h.pt j hj) (by simpa using h.ne))
theorem WAt.gstep(h:WAt f t k w){i:Nat}(hi:i<t.n){g:Gp}(hs:group.RStep (f.Q i) g w w'):WStep f { t with gs:=upd t.gs i g } k w w':=by
 refine⟨hs.past.mono fun b hb=>?_,(hs.past.block _ h.ltR (by simpa using fun e=>h.nr i hi e.symm)).trans h.row,fun j hj=>hs.past.cell (h.pt j hj) (by simpa using fun e=>h.ng i hi e.symm),Nat.lt_of_lt_of_le h.lt hs.past.size,fun j hj=>?_,h.inj,h.nr,h.ng,h.ne⟩
 ·obtain rfl:b=f.Q i:=by simpa using hb
  exact Rf.mem.2 (.inr ⟨i,hi,rfl⟩)
 ·by_cases e:j=i
  ·subst e;show RAt _ (upd t.gs j g j) _;rw [upd_same];exact hs.at'
  ·show RAt _ (upd t.gs i g j) _
   rw [upd_ne _ _ e];exact (h.gs j hj).past hs.past (by simpa using fun e'=>e (h.inj j i hj hi e'))
end
def ptr(b:Nat):Value:=.pointer (some ⟨b,0,none⟩)
theorem infoPtr:(Tryz.prog.info? 151).map (fun i=>(i.zero,i.size,i.bytes))=some (some (.pointer none),1,8):=by kernel_rfl
structure NW(w:World)(R:Nat)(ps:List Nat)(v:Value)(W:World):Prop where
 own:W.ownsRow w.heap.size 151 1 v ps.length (ps.map ptr)
 row:W.heap[R]?=some (.cells #[v,.int .i64 0] 129 (0,0))
 gs:∀b∈ps,RAt b .new W∧w.heap.size≤b
 inc:ps.Pairwise (·<·)
 below:Below w.heap.size w W
 hR:w.heap.size≤R
theorem NW.next{w:World}{R:Nat}{ps:List Nat}{v:Value}{W:World}(h:NW w R ps v W){W1 W2 W3:World}(hb1:Below W.heap.size W W1)(hg:RAt W.heap.size .new W1)
    (hb2:Below W1.heap.size W1 W2){g cap:Nat}(hgrow:W2.grownBy W3 v.ownBlock)(hown:W3.ownsRow w.heap.size 151 1 (.slice (some ⟨g,0,none⟩) (ps.length+1) cap) (ps.length+1) (ps.map ptr++[ptr W.heap.size])) :
    NW w R (ps++[W.heap.size]) (.slice (some ⟨g,0,none⟩) (ps.length+1) cap) (W3.setCell ⟨R,0,none⟩ (.slice (some ⟨g,0,none⟩) (ps.length+1) cap)):=by
  have hltR:R<W.heap.size:=(Array.getElem?_eq_some_iff.1 h.row).1;have hbW:=under.below_step hb1 hb2;have k3:=under.below_step h.below hbW
  have own0:∀r,v.ownBlock=some r→w.heap.size≤r∧∃cur,W.heap[r]?=some (.cells cur 151 (0,0)):=fun r hr=>by
    rcases h.own.2 with⟨e,_⟩|⟨g',c',cur,e,hb',hg',_⟩
    · rw [e] at hr;cases hr
    · rw [e] at hr;cases hr;exact⟨hb',cur,hg'⟩
  have nR:v.ownBlock≠some R:=fun e=>by obtain⟨_,cur,hc⟩:=own0 _ e;rw [h.row] at hc;cases hc
  have nb:∀b∈ps,v.ownBlock≠some b:=fun b hb e=>by obtain⟨_,cur,hc⟩:=own0 _ e;rw [(h.gs b hb).1.row] at hc;cases hc
  have nW:v.ownBlock≠some W.heap.size:=fun e=>by obtain⟨_,cur,hc⟩:=own0 _ e;have:=(Array.getElem?_eq_some_iff.1 hc).1;omega
  have b3:Below w.heap.size w W3:=k3.grown hgrow k3.size fun r e=>(own0 r e).1
  have row3:W3.heap[R]?=some (.cells #[v,.int .i64 0] 129 (0,0)):=(hgrow.block R (by have:=hbW.size;omega) (Ne.symm nR)).trans ((hbW.block R hltR).trans h.row)
  have gR:g≠R:=fun e=>by
    subst e
    rcases hown.2 with⟨e,_⟩|⟨g',c',cur,e,_,hg',_⟩
    · cases e
    · cases e;rw [row3] at hg';cases hg'
  have at3:∀b,b<W1.heap.size→b≠R→v.ownBlock≠some b→∀u,RAt b u W1→RAt b u (W3.setCell ⟨R,0,none⟩ (.slice (some ⟨g,0,none⟩) (ps.length+1) cap)):=fun b hb hn hv u hu=>by
    refine hu.of_block ?_;rw [heap_setCell_other _ _ _ _ (show b≠R from hn)];exact (hgrow.block b (by have:=hb2.size;omega) (Ne.symm hv)).trans (hb2.block b hb)
  refine⟨?_, ?_,fun b hb=>?_, ?_,bset b3 R 0 h.hR _,h.hR⟩
  · have e:(ps++[W.heap.size]).map ptr=ps.map ptr++[ptr W.heap.size]:=by simp
    rw [e,List.length_append,List.length_singleton];refine⟨hown.1, ?_⟩
    rcases hown.2 with⟨e,_⟩|⟨g',c',cur,e,h2,h3,h4⟩
    · cases e
    · refine .inr ⟨g',c',cur,e,h2, ?_,h4⟩
      cases e
      rw [heap_setCell_other _ _ _ _ (show g≠R from gR)];exact h3
  · exact heap_setCell_same W3 R 0 _ _ _ row3
  · rcases List.mem_append.1 hb with hb|hb
    · have hb':=h.gs b hb
      exact⟨at3 b (by have:=hb'.1.lt;have:=hb1.size;omega) (fun e=>by subst e;have:=hb'.1.row;rw [h.row] at this;cases this) (nb b hb) _ (hb'.1.below hb1),hb'.2⟩
    · obtain rfl:b=W.heap.size:=by simpa using hb
      exact⟨at3 _ hg.lt (by omega) nW _ hg,h.below.size⟩
  · rw [List.pairwise_append]
    exact ⟨h.inc, by simp, fun a ha b hb => by obtain rfl : b = W.heap.size := by simpa using hb
                                               exact (h.gs a ha).1.lt⟩
theorem NW.all{w:World}{R:Nat}{ps:List Nat}{v:Value}{W:World}(h:NW w R ps v W)(hn:0<ps.length):∃f:Rf,f.R=R∧WAt f (Tb.new ps.length) 0 W∧(∀b,b∈f.d ps.length∨b=f.G→w.heap.size≤b):=by
 obtain⟨g,cap,rfl,hbg,hlt⟩:=h.own.form hn;have hc:=h.own.cells (g:=g) rfl;have ea:∀j,((⟨g,0,none⟩:Addr).add j)=⟨g,j,none⟩:=fun j=>by unfold Addr.add;split <;> simp_all
 have hG:∃cur,W.heap[g]?=some (.cells cur 151 (0,0)):=by
  rcases h.own.2 with⟨e,_⟩|⟨g',c',cur,e,_,h3,_⟩
  ·cases e
  ·cases e;exact⟨cur,h3⟩
 obtain⟨cur,hG⟩:=hG;have hq:∀j,j<ps.length→ps.getD j 0∈ps:=fun j hj=>by rw [List.getD_eq_getElem?_getD,List.getElem?_eq_getElem hj];exact List.getElem_mem hj
 refine⟨⟨R,g,cap,fun j=>ps.getD j 0⟩,rfl,⟨h.row,fun j hj=>?_,hlt,fun j hj=>(h.gs _ (hq j hj)).1,fun i j hi hj e=>?_,fun j hj e=>?_,fun j hj e=>?_,fun e=>?_⟩,fun b hb=>?_⟩
 ·have:=hc j (ptr (ps.getD j 0)) (by rw [List.getElem?_map,List.getD_eq_getElem?_getD,List.getElem?_eq_getElem hj];rfl)
  rw [ea] at this;exact this
 ·have hp:=List.pairwise_iff_getElem.1 h.inc
  rcases Nat.lt_trichotomy i j with h1|h1|h1
  ·have:=hp i j hi hj h1
   simp only [List.getD_eq_getElem?_getD,List.getElem?_eq_getElem hi,List.getElem?_eq_getElem hj,Option.getD_some] at e;omega
  ·exact h1
  ·have:=hp j i hj hi h1
   simp only [List.getD_eq_getElem?_getD,List.getElem?_eq_getElem hi,List.getElem?_eq_getElem hj,Option.getD_some] at e;omega
 ·have:=(h.gs _ (hq j hj)).1.row
  rw [show ps.getD j 0=R from e,h.row] at this;cases this
 ·have:=(h.gs _ (hq j hj)).1.row
  rw [show ps.getD j 0=g from e,hG] at this;cases this
 ·have:=h.row
  rw [←show g=R from e,hG] at this;cases this
 ·rcases hb with hb|rfl
  ·rcases Rf.mem.1 hb with rfl|⟨i,hi,rfl⟩
   ·exact h.hR
   ·exact (h.gs _ (hq i hi)).2
  ·exact hbg
theorem NW.nr{w:World}{R:Nat}{ps:List Nat}{v:Value}{W:World}(h:NW w R ps v W):v.ownBlock≠some R:=by
 intro e
 rcases h.own.2 with⟨e',_⟩|⟨g',c',cur,e',_,hg',_⟩
 ·rw [e'] at e;cases e
 ·rw [e'] at e;cases e;rw [h.row] at hg';cases hg'
set_option maxRecDepth 20000 in
set_option maxHeartbeats 1000000 in
theorem rtnew_yes(n:Nat)(hn:okN n)(w:World) :
  Calls Tryz.prog 40 #[.int .i64 n] w fun e w'=>∃f:Rf,e=.returned (.tuple #[.pointer (some ⟨f.R,0,none⟩),.int .i64 0])∧WAt f (Tb.new n) 0 w'∧(∀b,b∈f.d n∨b=f.G→w.heap.size≤b)∧Below w.heap.size w w':=by
 obtain⟨i0,hi0,hq0,hq1,hq2⟩:=info_parts infoPtr;have hl:=okN_le hn;have hp:=okN_pos hn
 go_enter Tryz.func40,Tryz.ntmps40
 go_wp2_with (go_at_call 88;refine (rright_yes n hn _).mono ?_;rintro e w' ⟨rfl,rfl⟩)
 have HI:=Lib.hid (show NW w w.heap.size [] (.slice none 0 0) (w.alloc (.cells #[.slice none 0 0,.int .i64 0] 129)) from⟨⟨rfl,.inl ⟨rfl,rfl⟩⟩,heap_alloc_new w _,fun b hb=>(by cases hb),.nil,new_block w _,Nat.le_refl _⟩)
 go_loopw [5] (fun i wr=>∃ps v,ps.length≤n∧i=.int .i64 (ps.length:Nat)∧Hid (NW w w.heap.size ps v wr)) (fun i _=>n-(intOf i).toNat)
 case atStart=>exact⟨[],_,by simp,rfl,HI⟩
 case round =>
  obtain⟨ps,v,hk,rfl,HR⟩:=hrel;clear HI
  rcases Nat.lt_or_ge ps.length n with hkn|hkn
  ·have hki:(ps.length:Int)<(n:Int):=by omega
   have hrow:=HR.out.row;have c0:wr.cell? ⟨w.heap.size,0,none⟩=some v:=by rw [cell_of_row _ _ _ _ _ _ hrow];rfl
   have f0:wr.frozen? ⟨w.heap.size,0,none⟩=false:=frozen_of_row _ _ 0 _ _ hrow;have hlt:w.heap.size<wr.heap.size:=World.block_lt_of_cell? wr _ c0;have HO:=HR.out.own;have HNR:=Lib.hid HR.out.nr;obtain⟨kl,hkl⟩:∃kl,ps.length=kl:=⟨_,rfl⟩;rw [hkl] at HO hki hkn hk ⊢;have HO:=Lib.hid HO;have HKL:=Lib.hid hkl;clear hrow hkl
   go_upto_region 7 with (fail)
   refine wp_region_any (by kernel_rfl) ?_;refine wpAny_take (i:=0) (v:=(.pointer (some ⟨w.heap.size,0,none⟩))) rfl (by kernel_rfl) (by kernel_rfl) (by kernel_rfl) (fun _ _ _ h=>h) (Or.inl ⟨by rfl,fun wx=>by go_simp⟩) ?_;refine wpAny_take (i:=1) (v:=(.pointer (some ⟨w.heap.size,0,none⟩))) rfl (by kernel_rfl) (by kernel_rfl) (by kernel_rfl) (fun _ _ _ h=>h) (Or.inl ⟨by rfl,fun wx=>by go_simp⟩) ?_;refine wpAny_take (i:=2) (v:=(.pointer (some ⟨w.heap.size,0,none⟩))) rfl (by kernel_rfl) (by kernel_rfl) (by kernel_rfl) (fun _ _ _ h=>h) (Or.inl ⟨by rfl,fun wx=>by go_simp⟩) ?_;refine wpAny_take (i:=3) (v:=(.pointer (some ⟨w.heap.size,0,none⟩))) rfl (by kernel_rfl) (by kernel_rfl) (by kernel_rfl) (fun _ _ _ h=>h) (Or.inl ⟨by rfl,fun wx=>by go_simp⟩) ?_;refine wpAny_ready (rs:=[4,5]) (by kernel_rfl) (by simp) ?_;refine AllReady.cons rfl (fun K hK=>?_) ?_
   ·go_simp
    refine hK _ _ ?_;clear hK K;refine wpAny_ready (rs:=[5]) (by kernel_rfl) (by simp) ?_;refine AllReady.cons rfl (fun K hK=>?_) AllReady.nil;go_simp;refine (rnew_any _).mono ?_;rintro e w3 ⟨rfl,hb3,hg3⟩;refine hK _ _ ?_;clear hK K;have hb4:Below wr.heap.size wr w3:=under.below_step (under.drew_below wr) hb3;have c3:=keepc hb4 c0;have z4:=hb4.size;refine wpAny_rest 6 rfl (by kernel_rfl) ?_;simp only [List.drop_succ_cons,List.drop_zero]
    go_wp2_with (at_builtin;refine wpList_append_lies _ rfl _ _ 127 rfl w.heap.size 151 i0 (.pointer none) 1 8 Tryz.underlying127 hi0 hq0 hq1 hq2 rfl (by decide) v kl (ps.map ptr) rfl (row_below HO.out (under.below_step hb4 (new_block w3 _))) ⟨w3.heap.size,0,none⟩ 1 1 [ptr wr.heap.size] rfl rfl (cell_one_new w3 _ _) (by simp [ptr,Value.oneCell']) (by decide) (by simp only [maxLen];omega) (by omega) (by simp;omega) (w3.heap.size+1) (by simp) ?_;intro gg cap w5 hown5 hgrow5 hat5 hlt5;have c5:=(hgrow5.cell_far ⟨w.heap.size,0,none⟩ (by simp;omega) (Ne.symm HNR.out)).trans (keepc (new_block w3 (.cells #[ptr wr.heap.size] 151)) c3);have f5:=(hgrow5.frozen_far ⟨w.heap.size,0,none⟩ (by simp;omega) (Ne.symm HNR.out)).trans (keepf (new_block w3 (.cells #[ptr wr.heap.size] 151)) (by omega) (keepf hb4 (by omega) f0));have HO5:=Lib.hid hown5;have HG5:=Lib.hid hgrow5;clear hown5 hgrow5)
    go_roundw
    case rel=>exact⟨ps++[wr.heap.size],_,by have:=HKL.out;simp;omega,by simp [HKL.out],Lib.hid (by have h:=NW.next HR.out hb4 hg3 (new_block w3 _) HG5.out (by rw [HKL.out];exact HO5.out);rw [HKL.out] at h;exact h)⟩
    case measure=>simp [intOf];omega
   ·refine AllReady.cons rfl (fun K hK=>?_) AllReady.nil
    go_simp;refine (rnew_any _).mono ?_;rintro e w3 ⟨rfl,hb3,hg3⟩;refine hK _ _ ?_;clear hK K;have hb4:Below wr.heap.size wr w3:=under.below_step (under.drew_below wr) hb3;have c3:=keepc hb4 c0;have z4:=hb4.size;refine wpAny_ready (rs:=[4,6]) (by kernel_rfl) (by simp) ?_;refine AllReady.cons rfl (fun K hK=>?_) ?_
    ·go_simp
     refine hK _ _ ?_;clear hK K;refine wpAny_rest 6 rfl (by kernel_rfl) ?_;simp only [List.drop_succ_cons,List.drop_zero]
     go_wp2_with (at_builtin;refine wpList_append_lies _ rfl _ _ 127 rfl w.heap.size 151 i0 (.pointer none) 1 8 Tryz.underlying127 hi0 hq0 hq1 hq2 rfl (by decide) v kl (ps.map ptr) rfl (row_below HO.out (under.below_step hb4 (new_block w3 _))) ⟨w3.heap.size,0,none⟩ 1 1 [ptr wr.heap.size] rfl rfl (cell_one_new w3 _ _) (by simp [ptr,Value.oneCell']) (by decide) (by simp only [maxLen];omega) (by omega) (by simp;omega) (w3.heap.size+1) (by simp) ?_;intro gg cap w5 hown5 hgrow5 hat5 hlt5;have c5:=(hgrow5.cell_far ⟨w.heap.size,0,none⟩ (by simp;omega) (Ne.symm HNR.out)).trans (keepc (new_block w3 (.cells #[ptr wr.heap.size] 151)) c3);have f5:=(hgrow5.frozen_far ⟨w.heap.size,0,none⟩ (by simp;omega) (Ne.symm HNR.out)).trans (keepf (new_block w3 (.cells #[ptr wr.heap.size] 151)) (by omega) (keepf hb4 (by omega) f0));have HO5:=Lib.hid hown5;have HG5:=Lib.hid hgrow5;clear hown5 hgrow5)
     go_roundw
     case rel=>exact⟨ps++[wr.heap.size],_,by have:=HKL.out;simp;omega,by simp [HKL.out],Lib.hid (by have h:=NW.next HR.out hb4 hg3 (new_block w3 _) HG5.out (by rw [HKL.out];exact HO5.out);rw [HKL.out] at h;exact h)⟩
     case measure=>simp [intOf];omega
    ·refine AllReady.cons rfl (fun K hK=>?_) AllReady.nil
     go_simp;refine hK _ _ ?_;clear hK K;have c4:=keepc (new_block w3 (.cells #[.pointer (some ⟨wr.heap.size,0,none⟩)] 151)) c3;refine wpAny_ready (rs:=[4]) (by kernel_rfl) (by simp) ?_;refine AllReady.cons rfl (fun K hK=>?_) AllReady.nil;go_simp;refine hK _ _ ?_;clear hK K;refine wpAny_rest 7 rfl (by kernel_rfl) ?_;simp only [List.drop_succ_cons,List.drop_zero]
     go_wp2_with (at_builtin;refine wpList_append_lies _ rfl _ _ 127 rfl w.heap.size 151 i0 (.pointer none) 1 8 Tryz.underlying127 hi0 hq0 hq1 hq2 rfl (by decide) v kl (ps.map ptr) rfl (row_below HO.out (under.below_step hb4 (new_block w3 _))) ⟨w3.heap.size,0,none⟩ 1 1 [ptr wr.heap.size] rfl rfl (cell_one_new w3 _ _) (by simp [ptr,Value.oneCell']) (by decide) (by simp only [maxLen];omega) (by omega) (by simp;omega) (w3.heap.size+1) (by simp) ?_;intro gg cap w5 hown5 hgrow5 hat5 hlt5;have c5:=(hgrow5.cell_far ⟨w.heap.size,0,none⟩ (by simp;omega) (Ne.symm HNR.out)).trans (keepc (new_block w3 (.cells #[ptr wr.heap.size] 151)) c3);have f5:=(hgrow5.frozen_far ⟨w.heap.size,0,none⟩ (by simp;omega) (Ne.symm HNR.out)).trans (keepf (new_block w3 (.cells #[ptr wr.heap.size] 151)) (by omega) (keepf hb4 (by omega) f0));have HO5:=Lib.hid hown5;have HG5:=Lib.hid hgrow5;clear hown5 hgrow5)
     go_roundw
     case rel=>exact⟨ps++[wr.heap.size],_,by have:=HKL.out;simp;omega,by simp [HKL.out],Lib.hid (by have h:=NW.next HR.out hb4 hg3 (new_block w3 _) HG5.out (by rw [HKL.out];exact HO5.out);rw [HKL.out] at h;exact h)⟩
     case measure=>simp [intOf];omega
  ·obtain rfl:ps.length=n:=by omega
   obtain⟨f,hf,hW,hF⟩:=HR.out.all hp;go_wp2
   go_ret2
   refine⟨f, ?_,⟨hW.row,hW.pt,hW.lt,hW.gs,hW.inj,hW.nr,hW.ng,hW.ne⟩,hF,HR.out.below⟩;rw [hf];rfl
theorem sumN_le8(c:Nat)(t:Tb):∀k,sumN k (fun i=>count c (t.gs i))≤8*k:=fun k=>sumN_le fun i _=>count_le c _
theorem rtcount_any(f:Rf)(t:Tb)(k c:Nat)(hn:t.n≤64)(w:World)(h:WAt f t k w) :
  Calls Tryz.prog 116 #[.pointer (some ⟨f.R,0,none⟩),.int .i64 c] w fun e w'=>e=.returned (.int .i64 (cntT c t:Nat))∧Below w.heap.size w w':=by
 have HW:=Lib.hid h;have h0:=h.cell0;clear h
 go_enter Tryz.func116,Tryz.ntmps116
 go_wp2
 go_loopw [13,5] (fun i s wr=>∃j:Nat,j≤t.n∧i=.int .i64 j∧s=.int .i64 (sumN j (fun i=>count c (t.gs i)):Nat)∧Hid (Below w.heap.size w wr)) (fun i _ _=>t.n-(intOf i).toNat)
 case atStart=>exact⟨0,by omega,rfl,rfl,Lib.hid (Below.refl _ _)⟩
 case round =>
  obtain⟨j,hj,rfl,rfl,HB⟩:=hrel;have hs:=sumN_le8 c t j
  rcases Nat.lt_or_ge j t.n with hjn|hjn
  ·have hji:(j:Int)<(t.n:Int):=by omega
   have HW':=HW.out.below HB.out;have hp:=HW'.pt j hjn;have cC:=rcount_any (f.Q j) (t.gs j) c wr (HW'.gs j hjn);have hsu:sumN (j+1) (fun i=>count c (t.gs i))=sumN j (fun i=>count c (t.gs i))+count c (t.gs j):=rfl;have hcl:=count_le c (t.gs j);have HS:=Lib.hid hsu;clear hsu HW';generalize count c (t.gs j)=cj at *
   generalize sumN j (fun i=>count c (t.gs i))=sj at *
   go_wp2_with (go_at_call 146;refine cC.mono ?_;rintro e w1 ⟨rfl,hb1⟩)
   go_roundw
   case rel=>exact⟨j+1,by omega,by simp,by rw [HS.out];simp,Lib.hid (under.below_step HB.out hb1)⟩
   case measure=>simp [intOf];omega
  ·obtain rfl:j=t.n:=by omega
   go_wp2
   go_ret
   exact⟨rfl,HB.out⟩
theorem rtleft_any(f:Rf)(t:Tb)(ht:t.Ok)(k:Nat)(w:World)(h:WAt f t k w) :
  Calls Tryz.prog 111 #[.pointer (some ⟨f.R,0,none⟩)] w fun e w'=>e=.returned (.int .i64 t.left)∧Below w.heap.size w w':=by
 have hn:=okN_le ht.n;have c2:=fun W (hb:Below w.heap.size w W)=>rtcount_any f t k 2 hn W (h.below hb)
 have c3:=fun W (hb:Below w.heap.size w W)=>rtcount_any f t k 3 hn W (h.below hb)
 have h0:=Under.cell h.cell0;have e2:=ht.tombs;have e3:=ht.len;have l2:=cntT_le 2 t;have l3:=cntT_le 3 t;have HL:=Lib.hid (show t.left=7*(t.n:Int)-(cntT 2 t:Int)-(cntT 3 t:Int) from by unfold Tb.left;rw [e2,e3];omega);clear h e2 e3;generalize cntT 2 t=n2 at *
 generalize cntT 3 t=n3 at *
 go_enter Tryz.func111,Tryz.ntmps111
 have w1:IntKind.i64.wrap (7*(t.n:Int))=7*(t.n:Int):=IntWalk.i64_in _ (by omega);have w2:IntKind.i64.wrap (7*(t.n:Int)-(n2:Int))=7*(t.n:Int)-(n2:Int):=IntWalk.i64_in _ (by omega);have w3:IntKind.i64.wrap (7*(t.n:Int)-(n2:Int)-(n3:Int))=7*(t.n:Int)-(n2:Int)-(n3:Int):=IntWalk.i64_in _ (by omega)
 go_upto_region 1 with (fail)
 refine wp_region_under (by kernel_rfl) (by kernel_rfl) ?_
 repeat (quiet_step ((first
  | (go_at_call 116;(with_reducible refine under_call (c2 _ (by first|assumption|exact Under.below _))))
  | (go_at_call 116;(with_reducible refine under_call (c3 _ (by first|assumption|exact Under.below _)))))))
 refine wpQuiet_nil ?_;intro w4 hw4;obtain⟨n4,rfl⟩:=hw4;go_wp2
 go_ret
 exact⟨by rw [HL.out];rfl,n4.below⟩
def frI(t:Tb)(l:List Nat):Int:=match l.find? (free t) with|some i=>((i:Nat):Int)|none=>-1
def frK(t:Tb)(l:List Nat):Int:=match l.find? (free t) with|some i=>least (t.gs i)|none=>-1
theorem fr_keep{t:Tb}{l:List Nat}(x:Nat)(h:¬frI t l<0):frI t (l++[x])=frI t l∧frK t (l++[x])=frK t l:=by
 unfold frI at h;unfold frI frK;rw [List.find?_append];cases hf:l.find? (free t) with
 | some i=>exact⟨rfl,rfl⟩
 | none=>rw [hf] at h;exact absurd (by decide) h
theorem fr_none{t:Tb}{l:List Nat}(h:frI t l<0):l.find? (free t)=none:=by
 unfold frI at h;cases hf:l.find? (free t) with
 | some i=>rw [hf] at h;simp only at h;omega
 | none=>rfl
theorem fr_new{t:Tb}{l:List Nat}{x:Nat}(h:frI t l<0)(hx:0≤least (t.gs x)):frI t (l++[x])=(x:Nat)∧frK t (l++[x])=least (t.gs x):=by
 have hf:=fr_none h;have e:free t x=true:=decide_eq_true hx;unfold frI frK;rw [List.find?_append,hf,List.find?_cons_of_pos e];exact⟨rfl,rfl⟩
theorem fr_no{t:Tb}{l:List Nat}{x:Nat}(hx:¬0≤least (t.gs x)):frI t (l++[x])=frI t l∧frK t (l++[x])=frK t l:=by
 by_cases h:frI t l<0
 ·have hf:=fr_none h
  have e:¬free t x=true:=by unfold free;rw [decide_eq_true_eq];exact hx
  unfold frI frK;rw [List.find?_append,hf,List.find?_cons_of_neg e];exact⟨rfl,rfl⟩
 ·exact fr_keep x h
def preW(t:Tb)(h j:Nat):List Nat:=(path t h).take j
theorem preW_succ{t:Tb}{h j:Nat}(hj:j<t.n):preW t h (j+1)=preW t h j++[plc (h/128) t.n j]:=by
 unfold preW path;rw [List.take_add_one,wl_get _ _ _ hj];rfl
theorem preW_prefix(t:Tb)(h j:Nat):preW t h j <+: path t h:=List.take_prefix _ _
theorem preW_all(t:Tb)(h:Nat):preW t h t.n=path t h:=List.take_of_length_le (by unfold path;rw [wl_length];omega)
theorem preW_length{t:Tb}{h j:Nat}(hj:j≤t.n):(preW t h j).length=j:=by
 unfold preW path;rw [List.length_take,wl_length];omega
theorem sn_stop{t:Tb}{key h j:Nat}(hj:j<t.n)(hn:∀i∈preW t h j,stp t key h i=false)(hs:stp t key h (plc (h/128) t.n j)=true):sn t key h=preW t h (j+1):=by
 have hp:=preW_prefix t h (j+1);rw [preW_succ hj] at hp ⊢;exact seen_at hs hp hn
theorem sn_all{t:Tb}{key h:Nat}(hn:∀i∈preW t h t.n,stp t key h i=false):sn t key h=preW t h t.n:=by
 rw [preW_all] at hn ⊢;exact seen_all hn
def atI(t:Tb)(key h:Nat):Int:=if isThere t key h=true then ((lastG t key h:Nat):Int) else -1
theorem last_stop{t:Tb}{key h j:Nat}(hj:j<t.n)(hs:sn t key h=preW t h (j+1)):lastG t key h=plc (h/128) t.n j∧slot t key h=find key h (t.gs (plc (h/128) t.n j))∧looks t key h=j+1:=by
 have e:lastG t key h=plc (h/128) t.n j:=by unfold lastG;rw [hs,preW_succ hj,lastOf_snoc]
 exact⟨e,by unfold slot;rw [e],by unfold looks;rw [hs,preW_length (by omega)]⟩
theorem at_none{t:Tb}{key h:Nat}(hs:slot t key h<0):atI t key h=-1∧slot t key h=-1:=by
 have e:isThere t key h=false:=by unfold isThere;exact decide_eq_false (by omega)
 exact⟨by unfold atI;rw [e];rfl,slot_neg e⟩
theorem at_some{t:Tb}{key h:Nat}(hs:0≤slot t key h):atI t key h=(lastG t key h:Nat):=by
 have e:isThere t key h=true:=by unfold isThere;exact decide_eq_true hs
 unfold atI;rw [e];rfl
theorem slot_all{t:Tb}{key h:Nat}(hn:okN t.n)(hs:sn t key h=preW t h t.n)(no:∀i∈preW t h t.n,stp t key h i=false):slot t key h<0:=by
 have hm:=lastG_mem t key h hn;rw [hs] at hm;have:=no _ hm;unfold stp at this;rw [Bool.or_eq_false_iff,decide_eq_false_iff_not] at this;unfold slot;omega
structure ABox(X:Nat)(a b:Int)(W:World):Prop where
 row:W.heap[X]?=some (.cells #[.int .i64 a,.int .i64 b] 181 (0,0))
section
variable {X:Nat} {a b:Int} {W W':World}
theorem ABox.new(a b:Int)(W:World):ABox W.heap.size a b (W.alloc (.cells #[.int .i64 a,.int .i64 b] 181)):=⟨World.alloc_heap_new W _⟩
theorem ABox.lt(h:ABox X a b W):X<W.heap.size:=(Array.getElem?_eq_some_iff.1 h.row).1
theorem ABox.keep(h:ABox X a b W)(hb:Below W.heap.size W W'):ABox X a b W':=⟨(hb.block X h.lt).trans h.row⟩
theorem ABox.other(h:ABox X a b W){Y:Nat}(hY:X≠Y)(i:Nat)(u:Value):ABox X a b (W.setCell ⟨Y,i,none⟩ u):=⟨(heap_setCell_other _ _ _ _ (show X≠Y from hY)).trans h.row⟩
theorem ABox.c0(h:ABox X a b W):W.cell? ⟨X,0,none⟩=some (.int .i64 a):=by rw [cell_of_row _ _ _ _ _ _ h.row];rfl
theorem ABox.c1(h:ABox X a b W):W.cell? ⟨X,1,none⟩=some (.int .i64 b):=by rw [cell_of_row _ _ _ _ _ _ h.row];rfl
theorem ABox.fz(h:ABox X a b W)(i:Nat):W.frozen? ⟨X,i,none⟩=false:=frozen_of_row _ _ i _ _ h.row
theorem ABox.set(h:ABox X a b W)(c d:Int):ABox X c d ((W.setCell ⟨X,0,none⟩ (.int .i64 c)).setCell ⟨X,1,none⟩ (.int .i64 d)):=
 ⟨heap_setCell_same _ X 1 _ _ _ (heap_setCell_same W X 0 _ _ _ h.row)⟩
end
theorem WAt.newset{f:Rf}{t:Tb}{k:Nat}{W:World}(h:WAt f t k W){X:Nat}(hX:∀b,b∈f.d t.n∨b=f.G→b≠X)(i:Nat)(u:Value):WAt f t k (W.setCell ⟨X,i,none⟩ u):=
 h.past ((Past.refl [X] W).store (p:=⟨X,i,none⟩) (.inl (by simp)) u) fun b hb=>by simpa using hX b hb
structure WI(w:World)(f:Rf)(t:Tb)(kj key h X g j:Nat)(W:World):Prop where
 at':WAt f t kj W
 past:Past (f.d t.n) w W
 r1:ABox X 0 0 W
 r2:ABox (X+1) 0 0 W
 av:ABox (X+2) (-1) (-1) W
 fr:ABox (X+3) (frI t (preW t h j)) (frK t (preW t h j)) W
 row:∀i,i<t.n→W.cell? ⟨g,i,none⟩=some (.int .i64 (plc (h/128) t.n i:Nat))
 no:∀i∈preW t h j,stp t key h i=false
 gx:X+4≤g
 hX:w.heap.size≤X
 hf:∀b,b∈f.d t.n∨b=f.G→b<X
structure WB(w:World)(f:Rf)(t:Tb)(kj h X g:Nat)(fi fk:Int)(W:World):Prop where
 at':WAt f t kj W
 past:Past (f.d t.n) w W
 r1:ABox X 0 0 W
 r2:ABox (X+1) 0 0 W
 av:ABox (X+2) (-1) (-1) W
 fr:ABox (X+3) fi fk W
 row:∀i,i<t.n→W.cell? ⟨g,i,none⟩=some (.int .i64 (plc (h/128) t.n i:Nat))
 gx:X+4≤g
 hX:w.heap.size≤X
 hf:∀b,b∈f.d t.n∨b=f.G→b<X
section
variable {w:World} {f:Rf} {t:Tb} {kj key h X g j:Nat} {fi fk:Int} {W W':World}
theorem WB.keep(s:WB w f t kj h X g fi fk W)(hb:Below W.heap.size W W'):WB w f t kj h X g fi fk W':=
 ⟨s.at'.below hb,s.past.trans (Past.of hb),s.r1.keep hb,s.r2.keep hb,s.av.keep hb,s.fr.keep hb,fun i hi=>keepc hb (s.row i hi),s.gx,s.hX,s.hf⟩
theorem WB.look(s:WB w f t kj h X g fi fk W):WB w f t (kj+1) h X g fi fk (W.setCell ⟨f.R,1,none⟩ (.int .i64 ((kj:Nat)+1:Int))):=by
 have hl:=s.at'.look;have hR:=s.hf f.R (.inl (by simp [Rf.d]));have gx:=s.gx;exact⟨hl.at',s.past.trans hl.past,s.r1.other (by omega) _ _,s.r2.other (by omega) _ _,s.av.other (by omega) _ _,s.fr.other (by omega) _ _,fun i hi=>by rw [World.cell?_setCell_other _ _ _ _ (off_b (show f.R≠g by omega))];exact s.row i hi,s.gx,s.hX,s.hf⟩
theorem WB.set(s:WB w f t kj h X g fi fk W)(ci ck:Int):WB w f t kj h X g ci ck ((W.setCell ⟨X+3,0,none⟩ (.int .i64 ci)).setCell ⟨X+3,1,none⟩ (.int .i64 ck)):=by
 have gx:=s.gx;have hX:=s.hX;have hf:∀b,b∈f.d t.n∨b=f.G→b≠X+3:=fun b hb=>by have:=s.hf b hb;omega
 exact⟨(s.at'.newset hf _ _).newset hf _ _,(s.past.store (p:=⟨X+3,0,none⟩) (.inr (by show w.heap.size≤X+3;omega)) _).store (p:=⟨X+3,1,none⟩) (.inr (by show w.heap.size≤X+3;omega)) _,(s.r1.other (by omega) _ _).other (by omega) _ _,(s.r2.other (by omega) _ _).other (by omega) _ _,(s.av.other (by omega) _ _).other (by omega) _ _,s.fr.set ci ck,fun i hi=>by
  rw [World.cell?_setCell_other _ _ _ _ (off_b (show X+3≠g by omega)),World.cell?_setCell_other _ _ _ _ (off_b (show X+3≠g by omega))];exact s.row i hi,s.gx,s.hX,s.hf⟩
theorem WI.b(s:WI w f t kj key h X g j W):WB w f t kj h X g (frI t (preW t h j)) (frK t (preW t h j)) W:=⟨s.at',s.past,s.r1,s.r2,s.av,s.fr,s.row,s.gx,s.hX,s.hf⟩
theorem WB.i(s:WB w f t kj h X g fi fk W)(e1:frI t (preW t h j)=fi)(e2:frK t (preW t h j)=fk)(no:∀i∈preW t h j,stp t key h i=false):WI w f t kj key h X g j W:=by
 subst e1;subst e2;exact⟨s.at',s.past,s.r1,s.r2,s.av,s.fr,s.row,no,s.gx,s.hX,s.hf⟩
theorem WB.done(s:WB w f t kj h X g fi fk W)(a b c d:Int):WStep f t kj w ((((W.setCell ⟨X,0,none⟩ (.int .i64 a)).setCell ⟨X,1,none⟩ (.int .i64 b)).setCell ⟨X+1,0,none⟩ (.int .i64 c)).setCell ⟨X+1,1,none⟩ (.int .i64 d)):=by
 have hX:=s.hX;have f1:∀b,b∈f.d t.n∨b=f.G→b≠X:=fun b hb=>by have:=s.hf b hb;omega
 have f2:∀b,b∈f.d t.n∨b=f.G→b≠X+1:=fun b hb=>by have:=s.hf b hb;omega
 exact⟨(((s.past.store (p:=⟨X,0,none⟩) (.inr (by show w.heap.size≤X;omega)) _).store (p:=⟨X,1,none⟩) (.inr (by show w.heap.size≤X;omega)) _).store (p:=⟨X+1,0,none⟩) (.inr (by show w.heap.size≤X+1;omega)) _).store (p:=⟨X+1,1,none⟩) (.inr (by show w.heap.size≤X+1;omega)) _,
  (((s.at'.newset f1 _ _).newset f1 _ _).newset f2 _ _).newset f2 _ _⟩
theorem WB.four(s:WB w f t kj h X g fi fk W)(a b c d:Int):(W.setCell ⟨X,0,none⟩ (.int .i64 a)).cell? ⟨X,0,none⟩=some (.int .i64 a)∧((W.setCell ⟨X,0,none⟩ (.int .i64 a)).setCell ⟨X,1,none⟩ (.int .i64 b)).cell? ⟨X,1,none⟩=some (.int .i64 b) ∧
  (((W.setCell ⟨X,0,none⟩ (.int .i64 a)).setCell ⟨X,1,none⟩ (.int .i64 b)).setCell ⟨X+1,0,none⟩ (.int .i64 c)).cell? ⟨X+1,0,none⟩=some (.int .i64 c)∧((((W.setCell ⟨X,0,none⟩ (.int .i64 a)).setCell ⟨X,1,none⟩ (.int .i64 b)).setCell ⟨X+1,0,none⟩ (.int .i64 c)).setCell ⟨X+1,1,none⟩ (.int .i64 d)).cell? ⟨X+1,1,none⟩=some (.int .i64 d):=by
 have h1:=heap_setCell_same W X 0 _ _ (.int .i64 a) s.r1.row;have h2:=heap_setCell_same _ X 1 _ _ (.int .i64 b) h1;have m:=(s.r2.other (show X+1≠X by omega) 0 (.int .i64 a)).other (show X+1≠X by omega) 1 (.int .i64 b);have h3:=heap_setCell_same _ (X+1) 0 _ _ (.int .i64 c) m.row;have h4:=heap_setCell_same _ (X+1) 1 _ _ (.int .i64 d) h3;exact⟨by rw [cell_of_row _ _ _ _ _ _ h1];rfl,by rw [cell_of_row _ _ _ _ _ _ h2];rfl,by rw [cell_of_row _ _ _ _ _ _ h3];rfl,by rw [cell_of_row _ _ _ _ _ _ h4];rfl⟩
end
theorem rorder_new(h n:Nat)(hok:okN n)(w:World) :
  Calls Tryz.prog 143 #[.int .u64 h,.int .i64 n] w fun e w'=>∃g c,e=.returned (.slice (some ⟨g,0,none⟩) n c)∧w.heap.size≤g∧(∀j,j<n→w'.cell? ⟨g,j,none⟩=some (.int .i64 (plc h n j:Nat)))∧Below w.heap.size w w':=by
 refine (rorder_yes h n hok w).mono ?_;rintro e w' ⟨v,rfl,hk,hb⟩;obtain⟨g,c,rfl,_,hg,hcell⟩:=hk.cells;rw [wl_length] at hcell ⊢;exact⟨g,c,rfl,hg,fun j hj=>by rw [hcell j hj,wl_get h n j hj];rfl,hb⟩
set_option maxRecDepth 100000 in
set_option maxHeartbeats 4000000 in
theorem where_any(f:Rf)(t:Tb)(hn:okN t.n)(k key h:Nat)(hk:k+64<9223372036854775807)(hh:h<18446744073709551616)(w:World)(hW:WAt f t k w) :
  Calls Tryz.prog 109 #[.pointer (some ⟨f.R,0,none⟩),.int .u64 key,.int .u64 h] w fun e w'=>e=.returned (.tuple #[.agg #[.int .i64 (atI t key h),.int .i64 (slot t key h)],.agg #[.int .i64 (frI t (sn t key h)),.int .i64 (frK t (sn t key h))]])∧WStep f t (k+looks t key h) w w':=by
 have hl:=okN_le hn;have hp:=okN_pos hn;have h0:=hW.cell0;have HW:=Lib.hid hW;have hbx:Below w.heap.size w ((((w.alloc (.cells #[.int .i64 0,.int .i64 0] 181)).alloc (.cells #[.int .i64 0,.int .i64 0] 181)).alloc (.cells #[.int .i64 (-1),.int .i64 (-1)] 181)).alloc (.cells #[.int .i64 (-1),.int .i64 (-1)] 181)):=under.below_step (two_new w _ _) (two_new _ _ _);have hc0:=keepc hbx h0;clear hW;have cO:=fun W=>(show Calls Tryz.prog 143 #[.int .u64 ((h:Int)/128),.int .i64 t.n] W fun e w'=>∃g c,e=.returned (.slice (some ⟨g,0,none⟩) t.n c)∧W.heap.size≤g∧(∀j,j<t.n→w'.cell? ⟨g,j,none⟩=some (.int .i64 (plc (h/128) t.n j:Nat)))∧Below W.heap.size W w' from rorder_new (h/128) t.n hn W)
 have hw128:IntKind.u64.wrap ((h:Int)/128)=(h:Int)/128:=by rw [IntKind.wrap_u64];omega
 have HI:=Lib.hid (show ∀w1 g,Below (w.heap.size+4) ((((w.alloc (.cells #[.int .i64 0,.int .i64 0] 181)).alloc (.cells #[.int .i64 0,.int .i64 0] 181)).alloc (.cells #[.int .i64 (-1),.int .i64 (-1)] 181)).alloc (.cells #[.int .i64 (-1),.int .i64 (-1)] 181)) w1→w.heap.size+4≤g→(∀j,j<t.n→w1.cell? ⟨g,j,none⟩=some (.int .i64 (plc (h/128) t.n j:Nat)))→WI w f t k key h w.heap.size g 0 w1 from fun w1 g hb hg hrow=>by
  have z1:=World.size_alloc w (.cells #[.int .i64 0,.int .i64 0] 181);have a1:=ABox.new 0 0 w;generalize w.alloc (.cells #[.int .i64 0,.int .i64 0] 181)=y1 at *
  have z2:=World.size_alloc y1 (.cells #[.int .i64 0,.int .i64 0] 181);have a2:=ABox.new 0 0 y1;have a1:=a1.keep (new_block y1 (.cells #[.int .i64 0,.int .i64 0] 181));generalize y1.alloc (.cells #[.int .i64 0,.int .i64 0] 181)=y2 at *
  have z3:=World.size_alloc y2 (.cells #[.int .i64 (-1),.int .i64 (-1)] 181);have a3:=ABox.new (-1) (-1) y2;have a1:=a1.keep (new_block y2 (.cells #[.int .i64 (-1),.int .i64 (-1)] 181));have a2:=a2.keep (new_block y2 (.cells #[.int .i64 (-1),.int .i64 (-1)] 181));generalize y2.alloc (.cells #[.int .i64 (-1),.int .i64 (-1)] 181)=y3 at *
  have z4:=World.size_alloc y3 (.cells #[.int .i64 (-1),.int .i64 (-1)] 181);have a4:=ABox.new (-1) (-1) y3;have a1:=a1.keep (new_block y3 (.cells #[.int .i64 (-1),.int .i64 (-1)] 181));have a2:=a2.keep (new_block y3 (.cells #[.int .i64 (-1),.int .i64 (-1)] 181));have a3:=a3.keep (new_block y3 (.cells #[.int .i64 (-1),.int .i64 (-1)] 181));generalize y3.alloc (.cells #[.int .i64 (-1),.int .i64 (-1)] 181)=y4 at *
  rw [←show y4.heap.size=w.heap.size+4 by omega] at hb;rw [show y1.heap.size=w.heap.size+1 by omega] at a2;rw [show y2.heap.size=w.heap.size+2 by omega] at a3;rw [show y3.heap.size=w.heap.size+3 by omega] at a4;have hbw:=under.below_step hbx hb
  exact⟨HW.out.below hbw,Past.of hbw,a1.keep hb,a2.keep hb,a3.keep hb,a4.keep hb,hrow,fun i hi=>(by cases hi),hg,Nat.le_refl _,fun b hb=>HW.out.lts hb⟩)
 clear hbx
 go_enter Tryz.func109,Tryz.ntmps109
 go_wp2_with (go_at_call 143;(with_reducible refine (cO _).mono ?_);rintro e w1 ⟨g,c,rfl,hgb,hrow,hb1⟩)
 have hI:=HI.out w1 g (by simpa using hb1) (by simpa using hgb) hrow;have HI:=Lib.hid hI;clear hI hrow hb1 hgb hc0 h0 cO;generalize w.heap.size=X at HI ⊢;simp only [Nat.add_assoc,Nat.reduceAdd]
 go_loopw [26] (fun i wr=>∃j:Nat,j≤t.n∧i=.int .i64 j∧Hid (WI w f t (k+j) key h X g j wr)) (fun i _=>t.n-(intOf i).toNat)
 case atStart=>exact⟨0,by omega,rfl,HI⟩
 case round =>
  obtain⟨j,hj,rfl,HJ⟩:=hrel
  rcases Nat.lt_or_ge j t.n with hjn|hjn
  ·have hji:(j:Int)<(t.n:Int):=by omega
   have S:=HJ.out.b;have HNO:=Lib.hid HJ.out.no;obtain⟨kj,hkj⟩:∃kj,k+j=kj:=⟨_,rfl⟩;have hkb:kj+1<9223372036854775807:=by omega
   obtain⟨p,hpe⟩:∃p,plc (h/128) t.n j=p:=⟨_,rfl⟩;have hpn:p<t.n:=by rw [←hpe];exact plc_lt hp
   have hpi:(p:Int)<(t.n:Int):=by omega
   have r0:=S.row j hjn;rw [hpe] at r0;rw [hkj] at S;have HKJ:=Lib.hid (show k+(j+1)=kj+1 by omega);have HKJ:=Lib.hid hkj;have HP:=Lib.hid hpe;clear hkj hpe HJ;have a0:=S.at'.cell0;have a1:=S.at'.cell1;have a2:=S.at'.fz 1;have hwk:IntKind.i64.wrap ((kj:Int)+1)=(kj:Int)+1:=IntWalk.i64_in _ (by omega);have S1:=S.look;have a3:=S1.at'.cell0;have a4:=S1.at'.pt p hpn;have cLe:=fun W fi fk (s:WB w f t (kj+1) h X g fi fk W)=>rleast_any (f.Q p) (t.gs p) W (s.at'.gs p hpn)
   have cF:=fun W fi fk (s:WB w f t (kj+1) h X g fi fk W)=>rfind_any (f.Q p) (t.gs p) key h W (s.at'.gs p hpn)
   have cC:=fun W fi fk (s:WB w f t (kj+1) h X g fi fk W)=>(show Calls Tryz.prog 146 #[.pointer (some ⟨f.Q p,0,none⟩),.int .i64 1] W fun e w'=>e=.returned (.int .i64 (count 1 (t.gs p):Nat))∧Below W.heap.size W w' from rcount_any (f.Q p) (t.gs p) 1 W (s.at'.gs p hpn))
   have hoc:=opens_count (t.gs p);obtain⟨F,hFe⟩:∃F,find key h (t.gs p)=F:=⟨_,rfl⟩;rw [hFe] at cF;have HF:=Lib.hid hFe;clear hFe;have hoc:=hoc.symm;generalize count 1 (t.gs p)=cn at cC hoc;obtain⟨L,hLe⟩:∃L,least (t.gs p)=L:=⟨_,rfl⟩;rw [hLe] at cLe
   have HFR0:=Lib.hid (show (∀hi:frI t (preW t h j)<0,0≤L→frI t (preW t h j++[p])=(p:Nat)∧frK t (preW t h j++[p])=L)∧(¬(frI t (preW t h j)<0∧0≤L)→frI t (preW t h j++[p])=frI t (preW t h j)∧frK t (preW t h j++[p])=frK t (preW t h j)) from⟨fun hi hL=>by subst hLe;exact fr_new hi hL,fun hn=>by
    subst hLe
    by_cases hL:0≤least (t.gs p)
    ·exact fr_keep p fun hi=>hn ⟨hi,hL⟩
    ·exact fr_no hL⟩)
   clear hLe;generalize frI t (preW t h j)=fi at *
   generalize frK t (preW t h j)=fk at *
   by_cases hL:0≤L
   ·have dL:decide (0≤L)=true:=decide_eq_true hL
    by_cases hfi:fi<0
    ·have dfi:decide (fi<0)=true:=decide_eq_true hfi
     have HFR:=Lib.hid (HFR0.out.1 hfi hL)
     by_cases hF:0≤F
     ·have dF:decide (0≤F)=true:=decide_eq_true hF
      go_upto_region 12 with (first
       | (go_at_call 144;(with_reducible refine (cLe _ _ _ S1).mono ?_);rintro e w4 ⟨rfl,hb4⟩;have S4:=S1.keep hb4;have c0:=S4.fr.c0;have c1:=S4.fr.c1;have f4:=S4.fr.fz;have S5:=S4.set (p:Nat) L)
       | (go_at_call 145;(with_reducible refine (cF _ _ _ S5).mono ?_);rintro e w6 ⟨rfl,hb6⟩;have S6:=S5.keep hb6)
       | (go_at_call 146;(with_reducible refine (cC _ _ _ S6).mono ?_);rintro e w7 ⟨rfl,hb7⟩;have S7:=S6.keep hb7))
      have S8:=S6;have x1:=S8.av.c0;have x2:=S8.av.c1;have x3:=S8.fr.c0;have x4:=S8.fr.c1;have x5:=S8.r1.c0;have x6:=S8.r1.c1;have x7:=S8.r2.c0;have x8:=S8.r2.c1;have z1:=S8.r1.fz;have z2:=S8.r2.fz
      go_region
      all_goals
       go_wp2;obtain⟨y0,y1,y2,y3⟩:=S8.four (p:Nat) F (p:Nat) L;refine bodyPost_ret (v:=.tuple #[.agg #[.int .i64 (p:Nat),.int .i64 F],.agg #[.int .i64 (p:Nat),.int .i64 L]]) (by simp [results,Tryz.results109,go_sem,y0,y1,y2,y3]) rfl ⟨?_, ?_⟩
       ·have hst:stp t key h p=true:=by unfold stp;rw [HF.out,decide_eq_true hF,Bool.or_true]
        have hsn:=sn_stop hjn HNO.out (by rw [HP.out];exact hst);obtain⟨e1,e2,e3⟩:=last_stop hjn hsn;rw [HP.out] at e1 e2;rw [HF.out] at e2;have e4:=at_some (t:=t) (key:=key) (h:=h) (by rw [e2];exact hF);rw [e4,e1,e2,hsn,preW_succ hjn,HP.out];obtain⟨g1,g2⟩:=HFR.out;rw [g1,g2]
       ·have hst:stp t key h p=true:=by unfold stp;rw [HF.out,decide_eq_true hF,Bool.or_true]
        have hsn:=sn_stop hjn HNO.out (by rw [HP.out];exact hst);obtain⟨_,_,e3⟩:=last_stop hjn hsn;rw [e3,←Nat.add_assoc,HKJ.out];exact (S8.done _ _ _ _).below (under.drew_below _)
     ·have dF:decide (0≤F)=false:=decide_eq_false hF
      cases ho:opens (t.gs p)
      ·rw [ho] at hoc
       go_wp2_with (first
        | (go_at_call 144;(with_reducible refine (cLe _ _ _ S1).mono ?_);rintro e w4 ⟨rfl,hb4⟩;have S4:=S1.keep hb4;have c0:=S4.fr.c0;have c1:=S4.fr.c1;have f4:=S4.fr.fz;have S5:=S4.set (p:Nat) L)
        | (go_at_call 145;(with_reducible refine (cF _ _ _ S5).mono ?_);rintro e w6 ⟨rfl,hb6⟩;have S6:=S5.keep hb6)
        | (go_at_call 146;(with_reducible refine (cC _ _ _ S6).mono ?_);rintro e w7 ⟨rfl,hb7⟩;have S7:=S6.keep hb7))
       go_roundw
       case rel =>
        have hst:stp t key h p=false:=by unfold stp;rw [HF.out,ho,decide_eq_false (by omega)];rfl
        refine⟨j+1,by omega,by simp,Lib.hid ?_⟩;obtain⟨g1,g2⟩:=HFR.out;rw [←Nat.add_assoc,HKJ.out];refine S7.i (by rw [preW_succ hjn,HP.out,g1]) (by rw [preW_succ hjn,HP.out,g2]) fun i hi=>?_
        rw [preW_succ hjn,HP.out] at hi
        rcases List.mem_append.1 hi with hi|hi
        ·exact HNO.out i hi
        ·obtain rfl:i=p:=by simpa using hi
         exact hst
       case measure=>simp [intOf];omega
      ·rw [ho] at hoc
       go_upto_region 15 with (first
        | (go_at_call 144;(with_reducible refine (cLe _ _ _ S1).mono ?_);rintro e w4 ⟨rfl,hb4⟩;have S4:=S1.keep hb4;have c0:=S4.fr.c0;have c1:=S4.fr.c1;have f4:=S4.fr.fz;have S5:=S4.set (p:Nat) L)
        | (go_at_call 145;(with_reducible refine (cF _ _ _ S5).mono ?_);rintro e w6 ⟨rfl,hb6⟩;have S6:=S5.keep hb6)
        | (go_at_call 146;(with_reducible refine (cC _ _ _ S6).mono ?_);rintro e w7 ⟨rfl,hb7⟩;have S7:=S6.keep hb7))
       have S8:=S7;have x1:=S8.av.c0;have x2:=S8.av.c1;have x3:=S8.fr.c0;have x4:=S8.fr.c1;have x5:=S8.r1.c0;have x6:=S8.r1.c1;have x7:=S8.r2.c0;have x8:=S8.r2.c1;have z1:=S8.r1.fz;have z2:=S8.r2.fz
       go_region
       all_goals
        go_wp2;obtain⟨y0,y1,y2,y3⟩:=S8.four (-1) (-1) (p:Nat) L;refine bodyPost_ret (v:=.tuple #[.agg #[.int .i64 (-1),.int .i64 (-1)],.agg #[.int .i64 (p:Nat),.int .i64 L]]) (by simp [results,Tryz.results109,go_sem,y0,y1,y2,y3]) rfl ⟨?_, ?_⟩
        ·have hst:stp t key h p=true:=by unfold stp;rw [ho,Bool.true_or]
         have hsn:=sn_stop hjn HNO.out (by rw [HP.out];exact hst);obtain⟨e1,e2,e3⟩:=last_stop hjn hsn;rw [HP.out] at e1 e2;rw [HF.out] at e2;obtain⟨e4,e5⟩:=at_none (t:=t) (key:=key) (h:=h) (by rw [e2];omega);rw [e4,e5,hsn,preW_succ hjn,HP.out];obtain⟨g1,g2⟩:=HFR.out;rw [g1,g2]
        ·have hst:stp t key h p=true:=by unfold stp;rw [ho,Bool.true_or]
         have hsn:=sn_stop hjn HNO.out (by rw [HP.out];exact hst);obtain⟨_,_,e3⟩:=last_stop hjn hsn;rw [e3,←Nat.add_assoc,HKJ.out];exact (S8.done _ _ _ _).below (under.drew_below _)
    ·have dfi:decide (fi<0)=false:=decide_eq_false hfi
     have HFR:=Lib.hid (HFR0.out.2 fun e=>hfi e.1)
     by_cases hF:0≤F
     ·have dF:decide (0≤F)=true:=decide_eq_true hF
      go_upto_region 12 with (first
       | (go_at_call 144;(with_reducible refine (cLe _ _ _ S1).mono ?_);rintro e w4 ⟨rfl,hb4⟩;have S4:=S1.keep hb4;have c0:=S4.fr.c0;have c1:=S4.fr.c1;have f4:=S4.fr.fz;have S5:=S4)
       | (go_at_call 145;(with_reducible refine (cF _ _ _ S5).mono ?_);rintro e w6 ⟨rfl,hb6⟩;have S6:=S5.keep hb6)
       | (go_at_call 146;(with_reducible refine (cC _ _ _ S6).mono ?_);rintro e w7 ⟨rfl,hb7⟩;have S7:=S6.keep hb7))
      have S8:=S6;have x1:=S8.av.c0;have x2:=S8.av.c1;have x3:=S8.fr.c0;have x4:=S8.fr.c1;have x5:=S8.r1.c0;have x6:=S8.r1.c1;have x7:=S8.r2.c0;have x8:=S8.r2.c1;have z1:=S8.r1.fz;have z2:=S8.r2.fz
      go_region
      all_goals
       go_wp2;obtain⟨y0,y1,y2,y3⟩:=S8.four (p:Nat) F fi fk;refine bodyPost_ret (v:=.tuple #[.agg #[.int .i64 (p:Nat),.int .i64 F],.agg #[.int .i64 fi,.int .i64 fk]]) (by simp [results,Tryz.results109,go_sem,y0,y1,y2,y3]) rfl ⟨?_, ?_⟩
       ·have hst:stp t key h p=true:=by unfold stp;rw [HF.out,decide_eq_true hF,Bool.or_true]
        have hsn:=sn_stop hjn HNO.out (by rw [HP.out];exact hst);obtain⟨e1,e2,e3⟩:=last_stop hjn hsn;rw [HP.out] at e1 e2;rw [HF.out] at e2;have e4:=at_some (t:=t) (key:=key) (h:=h) (by rw [e2];exact hF);rw [e4,e1,e2,hsn,preW_succ hjn,HP.out];obtain⟨g1,g2⟩:=HFR.out;rw [g1,g2]
       ·have hst:stp t key h p=true:=by unfold stp;rw [HF.out,decide_eq_true hF,Bool.or_true]
        have hsn:=sn_stop hjn HNO.out (by rw [HP.out];exact hst);obtain⟨_,_,e3⟩:=last_stop hjn hsn;rw [e3,←Nat.add_assoc,HKJ.out];exact (S8.done _ _ _ _).below (under.drew_below _)
     ·have dF:decide (0≤F)=false:=decide_eq_false hF
      cases ho:opens (t.gs p)
      ·rw [ho] at hoc
       go_wp2_with (first
        | (go_at_call 144;(with_reducible refine (cLe _ _ _ S1).mono ?_);rintro e w4 ⟨rfl,hb4⟩;have S4:=S1.keep hb4;have c0:=S4.fr.c0;have c1:=S4.fr.c1;have f4:=S4.fr.fz;have S5:=S4)
        | (go_at_call 145;(with_reducible refine (cF _ _ _ S5).mono ?_);rintro e w6 ⟨rfl,hb6⟩;have S6:=S5.keep hb6)
        | (go_at_call 146;(with_reducible refine (cC _ _ _ S6).mono ?_);rintro e w7 ⟨rfl,hb7⟩;have S7:=S6.keep hb7))
       go_roundw
       case rel =>
        have hst:stp t key h p=false:=by unfold stp;rw [HF.out,ho,decide_eq_false (by omega)];rfl
        refine⟨j+1,by omega,by simp,Lib.hid ?_⟩;obtain⟨g1,g2⟩:=HFR.out;rw [←Nat.add_assoc,HKJ.out];refine S7.i (by rw [preW_succ hjn,HP.out,g1]) (by rw [preW_succ hjn,HP.out,g2]) fun i hi=>?_
        rw [preW_succ hjn,HP.out] at hi
        rcases List.mem_append.1 hi with hi|hi
        ·exact HNO.out i hi
        ·obtain rfl:i=p:=by simpa using hi
         exact hst
       case measure=>simp [intOf];omega
      ·rw [ho] at hoc
       go_upto_region 15 with (first
        | (go_at_call 144;(with_reducible refine (cLe _ _ _ S1).mono ?_);rintro e w4 ⟨rfl,hb4⟩;have S4:=S1.keep hb4;have c0:=S4.fr.c0;have c1:=S4.fr.c1;have f4:=S4.fr.fz;have S5:=S4)
        | (go_at_call 145;(with_reducible refine (cF _ _ _ S5).mono ?_);rintro e w6 ⟨rfl,hb6⟩;have S6:=S5.keep hb6)
        | (go_at_call 146;(with_reducible refine (cC _ _ _ S6).mono ?_);rintro e w7 ⟨rfl,hb7⟩;have S7:=S6.keep hb7))
       have S8:=S7;have x1:=S8.av.c0;have x2:=S8.av.c1;have x3:=S8.fr.c0;have x4:=S8.fr.c1;have x5:=S8.r1.c0;have x6:=S8.r1.c1;have x7:=S8.r2.c0;have x8:=S8.r2.c1;have z1:=S8.r1.fz;have z2:=S8.r2.fz
       go_region
       all_goals
        go_wp2;obtain⟨y0,y1,y2,y3⟩:=S8.four (-1) (-1) fi fk;refine bodyPost_ret (v:=.tuple #[.agg #[.int .i64 (-1),.int .i64 (-1)],.agg #[.int .i64 fi,.int .i64 fk]]) (by simp [results,Tryz.results109,go_sem,y0,y1,y2,y3]) rfl ⟨?_, ?_⟩
        ·have hst:stp t key h p=true:=by unfold stp;rw [ho,Bool.true_or]
         have hsn:=sn_stop hjn HNO.out (by rw [HP.out];exact hst);obtain⟨e1,e2,e3⟩:=last_stop hjn hsn;rw [HP.out] at e1 e2;rw [HF.out] at e2;obtain⟨e4,e5⟩:=at_none (t:=t) (key:=key) (h:=h) (by rw [e2];omega);rw [e4,e5,hsn,preW_succ hjn,HP.out];obtain⟨g1,g2⟩:=HFR.out;rw [g1,g2]
        ·have hst:stp t key h p=true:=by unfold stp;rw [ho,Bool.true_or]
         have hsn:=sn_stop hjn HNO.out (by rw [HP.out];exact hst);obtain⟨_,_,e3⟩:=last_stop hjn hsn;rw [e3,←Nat.add_assoc,HKJ.out];exact (S8.done _ _ _ _).below (under.drew_below _)
   ·have dL:decide (0≤L)=false:=decide_eq_false hL
    have HFR:=Lib.hid (HFR0.out.2 fun e=>hL e.2)
    by_cases hF:0≤F
    ·have dF:decide (0≤F)=true:=decide_eq_true hF
     go_upto_region 12 with (first
      | (go_at_call 144;(with_reducible refine (cLe _ _ _ S1).mono ?_);rintro e w4 ⟨rfl,hb4⟩;have S4:=S1.keep hb4;have c0:=S4.fr.c0;have c1:=S4.fr.c1;have f4:=S4.fr.fz;have S5:=S4)
      | (go_at_call 145;(with_reducible refine (cF _ _ _ S5).mono ?_);rintro e w6 ⟨rfl,hb6⟩;have S6:=S5.keep hb6)
      | (go_at_call 146;(with_reducible refine (cC _ _ _ S6).mono ?_);rintro e w7 ⟨rfl,hb7⟩;have S7:=S6.keep hb7))
     have S8:=S6;have x1:=S8.av.c0;have x2:=S8.av.c1;have x3:=S8.fr.c0;have x4:=S8.fr.c1;have x5:=S8.r1.c0;have x6:=S8.r1.c1;have x7:=S8.r2.c0;have x8:=S8.r2.c1;have z1:=S8.r1.fz;have z2:=S8.r2.fz
     go_region
     all_goals
      go_wp2;obtain⟨y0,y1,y2,y3⟩:=S8.four (p:Nat) F fi fk;refine bodyPost_ret (v:=.tuple #[.agg #[.int .i64 (p:Nat),.int .i64 F],.agg #[.int .i64 fi,.int .i64 fk]]) (by simp [results,Tryz.results109,go_sem,y0,y1,y2,y3]) rfl ⟨?_, ?_⟩
      ·have hst:stp t key h p=true:=by unfold stp;rw [HF.out,decide_eq_true hF,Bool.or_true]
       have hsn:=sn_stop hjn HNO.out (by rw [HP.out];exact hst);obtain⟨e1,e2,e3⟩:=last_stop hjn hsn;rw [HP.out] at e1 e2;rw [HF.out] at e2;have e4:=at_some (t:=t) (key:=key) (h:=h) (by rw [e2];exact hF);rw [e4,e1,e2,hsn,preW_succ hjn,HP.out];obtain⟨g1,g2⟩:=HFR.out;rw [g1,g2]
      ·have hst:stp t key h p=true:=by unfold stp;rw [HF.out,decide_eq_true hF,Bool.or_true]
       have hsn:=sn_stop hjn HNO.out (by rw [HP.out];exact hst);obtain⟨_,_,e3⟩:=last_stop hjn hsn;rw [e3,←Nat.add_assoc,HKJ.out];exact (S8.done _ _ _ _).below (under.drew_below _)
    ·have dF:decide (0≤F)=false:=decide_eq_false hF
     cases ho:opens (t.gs p)
     ·rw [ho] at hoc
      go_wp2_with (first
       | (go_at_call 144;(with_reducible refine (cLe _ _ _ S1).mono ?_);rintro e w4 ⟨rfl,hb4⟩;have S4:=S1.keep hb4;have c0:=S4.fr.c0;have c1:=S4.fr.c1;have f4:=S4.fr.fz;have S5:=S4)
       | (go_at_call 145;(with_reducible refine (cF _ _ _ S5).mono ?_);rintro e w6 ⟨rfl,hb6⟩;have S6:=S5.keep hb6)
       | (go_at_call 146;(with_reducible refine (cC _ _ _ S6).mono ?_);rintro e w7 ⟨rfl,hb7⟩;have S7:=S6.keep hb7))
      go_roundw
      case rel =>
       have hst:stp t key h p=false:=by unfold stp;rw [HF.out,ho,decide_eq_false (by omega)];rfl
       refine⟨j+1,by omega,by simp,Lib.hid ?_⟩;obtain⟨g1,g2⟩:=HFR.out;rw [←Nat.add_assoc,HKJ.out];refine S7.i (by rw [preW_succ hjn,HP.out,g1]) (by rw [preW_succ hjn,HP.out,g2]) fun i hi=>?_
       rw [preW_succ hjn,HP.out] at hi
       rcases List.mem_append.1 hi with hi|hi
       ·exact HNO.out i hi
       ·obtain rfl:i=p:=by simpa using hi
        exact hst
      case measure=>simp [intOf];omega
     ·rw [ho] at hoc
      go_upto_region 15 with (first
       | (go_at_call 144;(with_reducible refine (cLe _ _ _ S1).mono ?_);rintro e w4 ⟨rfl,hb4⟩;have S4:=S1.keep hb4;have c0:=S4.fr.c0;have c1:=S4.fr.c1;have f4:=S4.fr.fz;have S5:=S4)
       | (go_at_call 145;(with_reducible refine (cF _ _ _ S5).mono ?_);rintro e w6 ⟨rfl,hb6⟩;have S6:=S5.keep hb6)
       | (go_at_call 146;(with_reducible refine (cC _ _ _ S6).mono ?_);rintro e w7 ⟨rfl,hb7⟩;have S7:=S6.keep hb7))
      have S8:=S7;have x1:=S8.av.c0;have x2:=S8.av.c1;have x3:=S8.fr.c0;have x4:=S8.fr.c1;have x5:=S8.r1.c0;have x6:=S8.r1.c1;have x7:=S8.r2.c0;have x8:=S8.r2.c1;have z1:=S8.r1.fz;have z2:=S8.r2.fz
      go_region
      all_goals
       go_wp2;obtain⟨y0,y1,y2,y3⟩:=S8.four (-1) (-1) fi fk;refine bodyPost_ret (v:=.tuple #[.agg #[.int .i64 (-1),.int .i64 (-1)],.agg #[.int .i64 fi,.int .i64 fk]]) (by simp [results,Tryz.results109,go_sem,y0,y1,y2,y3]) rfl ⟨?_, ?_⟩
       ·have hst:stp t key h p=true:=by unfold stp;rw [ho,Bool.true_or]
        have hsn:=sn_stop hjn HNO.out (by rw [HP.out];exact hst);obtain⟨e1,e2,e3⟩:=last_stop hjn hsn;rw [HP.out] at e1 e2;rw [HF.out] at e2;obtain⟨e4,e5⟩:=at_none (t:=t) (key:=key) (h:=h) (by rw [e2];omega);rw [e4,e5,hsn,preW_succ hjn,HP.out];obtain⟨g1,g2⟩:=HFR.out;rw [g1,g2]
       ·have hst:stp t key h p=true:=by unfold stp;rw [ho,Bool.true_or]
        have hsn:=sn_stop hjn HNO.out (by rw [HP.out];exact hst);obtain⟨_,_,e3⟩:=last_stop hjn hsn;rw [e3,←Nat.add_assoc,HKJ.out];exact (S8.done _ _ _ _).below (under.drew_below _)
  ·obtain rfl:j=t.n:=by omega
   have S:=HJ.out.b;have HNO:=Lib.hid HJ.out.no;clear HJ;have hsn:=sn_all HNO.out;have hs:=slot_all hn hsn HNO.out;have HE:=Lib.hid (show atI t key h=-1∧slot t key h=-1∧sn t key h=preW t h t.n∧looks t key h=t.n from⟨(at_none hs).1,(at_none hs).2,hsn,by unfold looks;rw [hsn,preW_length (Nat.le_refl _)]⟩);clear hsn hs;obtain⟨fi,hfi⟩:∃fi,frI t (preW t h t.n)=fi:=⟨_,rfl⟩;obtain⟨fk,hfk⟩:∃fk,frK t (preW t h t.n)=fk:=⟨_,rfl⟩;rw [hfi,hfk] at S;have HFI:=Lib.hid hfi;have HFK:=Lib.hid hfk;clear hfi hfk
   go_upto_region 15 with (fail)
   have S8:=S;have x1:=S8.av.c0;have x2:=S8.av.c1;have x3:=S8.fr.c0;have x4:=S8.fr.c1;have x5:=S8.r1.c0;have x6:=S8.r1.c1;have x7:=S8.r2.c0;have x8:=S8.r2.c1;have z1:=S8.r1.fz;have z2:=S8.r2.fz
   go_region
   all_goals
    go_wp2;obtain⟨y0,y1,y2,y3⟩:=S8.four (-1) (-1) fi fk;refine bodyPost_ret (v:=.tuple #[.agg #[.int .i64 (-1),.int .i64 (-1)],.agg #[.int .i64 fi,.int .i64 fk]]) (by simp [results,Tryz.results109,go_sem,y0,y1,y2,y3]) rfl ⟨?_, ?_⟩
    ·obtain⟨e1,e2,e3,e4⟩:=HE.out
     rw [e1,e2,e3,HFI.out,HFK.out]
    ·obtain⟨e1,e2,e3,e4⟩:=HE.out
     rw [e4];exact (S8.done _ _ _ _).below (under.drew_below _)
structure WF(w:World)(f:Rf)(t:Tb)(k ek ev eh E A:Nat)(a0 a1 f0 f1:Int)(W:World):Prop where
 st:WStep f t k w W
 e:EBox E ek ev eh W
 av:ABox A a0 a1 W
 fr:ABox (A+1) f0 f1 W
 hE:w.heap.size≤E
 hA:w.heap.size≤A
section
variable {w:World} {f:Rf} {t t':Tb} {k k' ek ev eh E A:Nat} {a0 a1 f0 f1:Int} {W W':World}
theorem WF.keep(s:WF w f t k ek ev eh E A a0 a1 f0 f1 W)(hb:Below W.heap.size W W'):WF w f t k ek ev eh E A a0 a1 f0 f1 W':=⟨s.st.below hb,s.e.keep hb,s.av.keep hb,s.fr.keep hb,s.hE,s.hA⟩
theorem WF.new{x:World}(hW:WAt f t k' w)(hs:WStep f t k (w.alloc (.cells #[.int .u64 (ek:Nat),.int .u64 (ev:Nat),.int .u64 (eh:Nat)] 44)) x) :
  WF w f t k ek ev eh w.heap.size x.heap.size a0 a1 f0 f1 ((x.alloc (.cells #[.int .i64 a0,.int .i64 a1] 181)).alloc (.cells #[.int .i64 f0,.int .i64 f1] 181)):=by
 have z1:=World.size_alloc x (.cells #[.int .i64 a0,.int .i64 a1] 181);have f2:=ABox.new f0 f1 (x.alloc (.cells #[.int .i64 a0,.int .i64 a1] 181));rw [z1] at f2;have hz:=hs.past.size;rw [World.size_alloc] at hz;have hE:=((EBox.new ek ev eh w).past hs.past (fun hm=>by have:=hW.lts (.inl hm);omega)).keep (two_new x (.cells #[.int .i64 a0,.int .i64 a1] 181) (.cells #[.int .i64 f0,.int .i64 f1] 181));exact⟨WStep.below ⟨(Past.of (new_block w _)).trans hs.past,hs.at'⟩ (two_new x _ _),hE,(ABox.new a0 a1 x).keep (new_block _ _),f2,Nat.le_refl _,by omega⟩
theorem WF.newset(s:WF w f t k ek ev eh E A a0 a1 f0 f1 W)(hW:WAt f t k' w){X:Nat}(hX:w.heap.size≤X)(i:Nat)(u:Value):WStep f t k w (W.setCell ⟨X,i,none⟩ u):=
 ⟨s.st.past.store (p:=⟨X,i,none⟩) (.inr hX) u,s.st.at'.newset (fun b hb=>by have:=hW.lts hb;omega) i u⟩
theorem WStep.newset(s:WStep f t k w W)(hW:WAt f t' k' w)(hn:t.n=t'.n){X:Nat}(hX:w.heap.size≤X)(i:Nat)(u:Value):WStep f t k w (W.setCell ⟨X,i,none⟩ u):=
 ⟨s.past.store (p:=⟨X,i,none⟩) (.inr hX) u,s.at'.newset (fun b hb=>by have:=hW.lts (by rw [←hn];exact hb);omega) i u⟩
end
set_option maxRecDepth 20000 in
set_option maxHeartbeats 1000000 in
theorem rtfind_any(f:Rf)(t:Tb)(hn:okN t.n)(k key h:Nat)(hk:k+64<9223372036854775807)(hh:h<18446744073709551616)(w:World)(hW:WAt f t k w) :
  Calls Tryz.prog 50 #[.pointer (some ⟨f.R,0,none⟩),.int .u64 key,.int .u64 h] w fun e w'=>e=.returned (.tuple #[group.entV (entOf t key h).key (entOf t key h).val (entOf t key h).hash,.bool (isThere t key h)])∧WStep f t (k+looks t key h) w w':=by
 have cW:=where_any f t hn k key h hk hh _ (hW.below (new_block w (.cells #[.int .u64 0,.int .u64 0,.int .u64 0] 44)));have HW:=Lib.hid hW;clear hW;cases ht:isThere t key h
 ·have e1:atI t key h=-1:=by unfold atI;rw [ht];rfl
  have e3:entOf t key h=⟨1,0,0,0⟩:=by unfold entOf;rw [ht];rfl
  rw [e1,slot_neg ht] at cW;rw [e3];clear e1 e3;generalize frI t (sn t key h)=fi at cW;generalize frK t (sn t key h)=fk at cW;generalize k+looks t key h=kk at *
  go_enter Tryz.func50,Tryz.ntmps50
  go_wp2_with (go_at_call 109;refine cW.mono ?_;rintro e w2 ⟨rfl,hs2⟩;have S:=WF.new (ek:=0) (ev:=0) (eh:=0) (a0:=-1) (a1:=-1) (f0:=fi) (f1:=fk) HW.out hs2;have x0:=S.av.c0;have y0:=S.e.c0;have y1:=S.e.c1;have y2:=S.e.c2;have y3:=S.e.fz)
  exact bodyPost_ret (v:=.tuple #[group.entV 0 0 0,.bool false]) (by simp [results,Tryz.results50,go_sem,y0,y1,y2]) rfl ⟨rfl,((S.newset HW.out S.hE 0 _).newset HW.out rfl S.hE 1 _).newset HW.out rfl S.hE 2 _⟩
 ·obtain⟨s,h8,hs,hhit⟩:=there_is ht
  have e1:atI t key h=(lastG t key h:Nat):=by unfold atI;rw [ht];rfl
  have hp:=lastG_lt t key h hn;have e3:entOf t key h=t.gs (lastG t key h) s:=by unfold entOf;rw [ht,hs];rfl
  rw [e1,hs] at cW;rw [e3];clear e1 e3 hs hhit ht;generalize frI t (sn t key h)=fi at cW;generalize frK t (sn t key h)=fk at cW;generalize k+looks t key h=kk at *
  generalize lastG t key h=p at *
  have hpi:(p:Int)<(t.n:Int):=by omega
  have h8i:(s:Int)<8:=by omega
  obtain⟨sl,hsl⟩:∃sl,t.gs p s=sl:=⟨_,rfl⟩;rw [hsl]
  go_enter Tryz.func50,Tryz.ntmps50
  go_upto_region 4 with (go_at_call 109;refine cW.mono ?_;rintro e w2 ⟨rfl,hs2⟩;have S:=WF.new (ek:=0) (ev:=0) (eh:=0) (a0:=p) (a1:=s) (f0:=fi) (f1:=fk) HW.out hs2;have x0:=S.av.c0;have x1:=S.av.c1;have y0:=S.e.c0;have y1:=S.e.c1;have y2:=S.e.c2;have y3:=S.e.fz;have x2:=S.st.at'.cell0;have x3:=S.st.at'.pt p hp;have x4:=(S.st.at'.gs p hp).key h8;have x5:=(S.st.at'.gs p hp).val h8;have x6:=(S.st.at'.gs p hp).hash h8)
  generalize (w2.alloc (.cells #[.int .i64 (p:Nat),.int .i64 (s:Nat)] 181)).alloc (.cells #[.int .i64 fi,.int .i64 fk] 181)=w4 at *
  rw [hsl] at x4 x5 x6;clear hsl;refine wp_region_tail_drew 15 (by kernel_rfl) (by kernel_rfl) ?_;simp only [List.take_succ_cons,List.take_zero,List.drop_succ_cons,List.drop_zero]
  repeat (quiet_step (fail))
  refine wpQuiet_nil ?_;intro w8 hw8;obtain⟨q8,rfl⟩:=hw8;go_wp2;have S:=S.keep (below_drewN' _ q8);exact bodyPost_ret (v:=.tuple #[group.entV sl.key sl.val sl.hash,.bool true]) (by simp [results,Tryz.results50,go_sem,y0,y1,y2]) rfl ⟨rfl,((S.newset HW.out S.hE 0 _).newset HW.out rfl S.hE 1 _).newset HW.out rfl S.hE 2 _⟩
theorem WStep.congr{f:Rf}{t t':Tb}{k:Nat}{w w':World}(h:WStep f t k w w')(hn:t'.n=t.n)(hg:∀j,j<t.n→t'.gs j=t.gs j):WStep f t' k w w':=⟨by rw [hn];exact h.past,h.at'.congr hn hg⟩
theorem fr_room{t:Tb}{key h:Nat}(hn:okN t.n):(frI t (sn t key h)<0∧least (t.gs (roomG t key h))<0)∨(frI t (sn t key h)=(roomG t key h:Nat)∧frK t (sn t key h)=least (t.gs (roomG t key h))∧0≤least (t.gs (roomG t key h))):=by
 cases hf:(sn t key h).find? (free t) with
 | none =>
  refine .inl ⟨by unfold frI;rw [hf];decide, ?_⟩;have hr:roomG t key h=lastOf (sn t key h):=by unfold roomG roomOf;rw [hf]
  have:=List.find?_eq_none.1 hf _ (lastOf_mem (sn_ne t key h hn));rw [hr];unfold free at this;rw [decide_eq_true_eq] at this;omega
 | some i =>
  have hr:roomG t key h=i:=by unfold roomG roomOf;rw [hf]
  have:=List.find?_some hf;unfold free at this;rw [decide_eq_true_eq] at this;rw [hr];exact .inr ⟨by unfold frI;rw [hf],by unfold frK;rw [hf],this⟩
theorem val_full{g:Gp}{k:Nat}(hk:k<8)(h3:(g k).kind=3)(v:Nat):valG g (k:Int) v=g.put k { g k with val:=v }:=by
 have h1:inR (k:Int)=true:=by unfold inR;simp;omega
 have h2:fullAt g (k:Int)=true:=by unfold fullAt;rw [h1];exact is_of h3
 unfold valG;rw [if_pos h2];rfl
theorem put_free'{g:Gp}{k:Nat}(hk:k<8)(h3:(g k).kind≠3)(s:Sl):putG g (k:Int) s=g.put k s:=by
 have h1:inR (k:Int)=true:=by unfold inR;simp;omega
 have h2:putE g (k:Int)=0:=by unfold putE;rw [if_pos h1,if_neg (by rw [show ((k:Int).toNat)=k from rfl,is_not' h3];decide)]
 unfold putG;rw [if_pos h2];rfl
theorem era_full{g:Gp}{k:Nat}(hk:k<8)(h3:(g k).kind=3):eraG g (k:Int)=g.put k (erased g):=by
 have h1:inR (k:Int)=true:=by unfold inR;simp;omega
 have h2:fullAt g (k:Int)=true:=by unfold fullAt;rw [h1];exact is_of h3
 unfold eraG;rw [if_pos h2];rfl
set_option maxRecDepth 20000 in
set_option maxHeartbeats 1000000 in
theorem rtput_any(f:Rf)(t:Tb)(ht:t.Ok)(k key v h:Nat)(hk:k+64<9223372036854775807)(hh:h<18446744073709551616)(w:World)(hW:WAt f t k w) :
  Calls Tryz.prog 51 #[.pointer (some ⟨f.R,0,none⟩),group.entV key v h] w fun e w'=>e=.returned (.tuple #[.bool (putB' t key h),.int .i64 (putE' t key h:Nat)])∧WStep f (t.puts key h v) (k+looks t key h) w w':=by
 have hn:=ht.n;have hb1:=new_block w (.cells #[.int .u64 (key:Nat),.int .u64 (v:Nat),.int .u64 (h:Nat)] 44);have cW:=where_any f t hn k key h hk hh _ (hW.below hb1);have v0:=(EBox.new key v h w).c0;have v1:=(EBox.new key v h w).c1;have v2:=(EBox.new key v h w).c2;have HW:=Lib.hid hW;clear hW hb1;cases hth:isThere t key h
 ·have e1:atI t key h=-1:=by unfold atI;rw [hth];rfl
  have e3:t.puts key h v=t.place key h v:=by unfold Tb.puts;rw [hth];rfl
  have e4:putE' t key h=roomE t key h:=by unfold putE';rw [hth];rfl
  have e5:putB' t key h=decide (roomE t key h=0):=by unfold putB';rw [hth];rfl
  rw [e1,slot_neg hth] at cW;rw [e3,e4,e5];clear e1 e3 e4 e5;have cL:=fun W kk (hs:WAt f t kk W)=>rtleft_any f t ht kk W hs
  by_cases hl:t.left<1
  ·have dl:decide (t.left<1)=true:=decide_eq_true hl
   have e6:roomE t key h=2:=by unfold roomE;rw [if_pos hl]
   have e7:t.place key h v=t:=place_no (by rw [e6];decide) v;rw [e6,e7];clear e6 e7;generalize frI t (sn t key h)=fi at cW;generalize frK t (sn t key h)=fk at cW;generalize k+looks t key h=kk at *
   go_enter Tryz.func51,Tryz.ntmps51
   go_wp2_with (first
    | (go_at_call 109;(with_reducible refine cW.mono ?_);rintro e w2 ⟨rfl,hs2⟩;have S:=WF.new (a0:=-1) (a1:=-1) (f0:=fi) (f1:=fk) HW.out hs2;have x0:=S.av.c0)
    | (go_at_call 111;(with_reducible refine (cL _ _ S.st.at').mono ?_);rintro e w3 ⟨rfl,hb3⟩))
   go_ret2
   exact⟨rfl,S.st.below hb3⟩
  ·have dl:decide (t.left<1)=false:=decide_eq_false hl
   rcases fr_room (key:=key) (h:=h) hn with⟨g1,g2⟩|⟨g1,g2,g3⟩
   ·have e6:roomE t key h=2:=by unfold roomE;rw [if_neg hl,if_pos g2]
    have e7:t.place key h v=t:=place_no (by rw [e6];decide) v;rw [e6,e7];clear e6 e7 g2;generalize frI t (sn t key h)=fi at *
    generalize frK t (sn t key h)=fk at cW;generalize k+looks t key h=kk at *
    have df:decide (fi<0)=true:=decide_eq_true g1
    go_enter Tryz.func51,Tryz.ntmps51
    go_wp2_with (first
     | (go_at_call 109;(with_reducible refine cW.mono ?_);rintro e w2 ⟨rfl,hs2⟩;have S:=WF.new (a0:=-1) (a1:=-1) (f0:=fi) (f1:=fk) HW.out hs2;have x0:=S.av.c0)
     | (go_at_call 111;(with_reducible refine (cL _ _ S.st.at').mono ?_);rintro e w3 ⟨rfl,hb3⟩;have S3:=S.keep hb3;have x1:=S3.fr.c0))
    go_ret2
    exact⟨rfl,S3.st⟩
   ·have e6:roomE t key h=0:=by unfold roomE;rw [if_neg hl,if_neg (by omega)]
    obtain⟨_,s,h8,hs,h3⟩:=room_is e6;have e7:t.place key h v=t.put (roomG t key h) s ⟨3,key,v,h⟩:=place_at e6 hs v;have hp:=roomG_lt t key h hn;rw [g1,g2,hs] at cW;rw [e6,e7];clear e6 e7 g1 g2 g3 hs;generalize k+looks t key h=kk at *
    generalize roomG t key h=p at *
    have hpi:(p:Int)<(t.n:Int):=by omega
    have df:decide (((p:Nat):Int)<0)=false:=decide_eq_false (by omega);have HG:=Lib.hid (put_free' h8 h3 ⟨3,key,v,h⟩);have cP:=fun W (hs:WAt f t kk W)=>rput_any (f.Q p) (t.gs p) (s:Int) key v h W (hs.gs p hp)
    clear h3
    go_enter Tryz.func51,Tryz.ntmps51
    go_upto_region 7 with (first
     | (go_at_call 109;(with_reducible refine cW.mono ?_);rintro e w2 ⟨rfl,hs2⟩;have S:=WF.new (a0:=-1) (a1:=-1) (f0:=p) (f1:=s) HW.out hs2;have x0:=S.av.c0)
     | (go_at_call 111;(with_reducible refine (cL _ _ S.st.at').mono ?_);rintro e w3 ⟨rfl,hb3⟩;have S3:=S.keep hb3;have x1:=S3.fr.c0;have x2:=S3.fr.c1;have y0:=S3.e.c0;have y1:=S3.e.c1;have y2:=S3.e.c2;have z0:=S3.st.at'.cell0;have z1:=S3.st.at'.pt p hp))
    refine wp_region_tail_drew 11 (by kernel_rfl) (by kernel_rfl) ?_;simp only [List.take_succ_cons,List.take_zero,List.drop_succ_cons,List.drop_zero]
    repeat (quiet_step (fail))
    refine wpQuiet_nil ?_;intro w8 hw8;obtain⟨q8,rfl⟩:=hw8;have S8:=S3.keep (below_drewN' _ q8)
    go_wp2_with (go_at_call 112;(with_reducible refine (cP _ S8.st.at').mono ?_);rintro e w9 ⟨rfl,hs9⟩)
    go_ret2
    have hg:=S8.st.at'.gstep hp hs9;rw [HG.out] at hg;exact⟨rfl,(S8.st.trans hg rfl).congr rfl fun j _=>rfl⟩
 ·obtain⟨s,h8,hs,hhit⟩:=there_is hth
  have e1:atI t key h=(lastG t key h:Nat):=by unfold atI;rw [hth];rfl
  have hp:=lastG_lt t key h hn;have e3:t.puts key h v=t.val (lastG t key h) s v:=by unfold Tb.puts;rw [hth,replace_at hs];rfl
  have e4:putE' t key h=0:=by unfold putE';rw [hth];rfl
  have e5:putB' t key h=false:=by unfold putB';rw [hth];rfl
  rw [e1,hs] at cW;rw [e3,e4,e5];have h3:=(hit_is hhit).1;clear e1 e3 e4 e5 hs hhit hth;generalize frI t (sn t key h)=fi at cW;generalize frK t (sn t key h)=fk at cW;generalize k+looks t key h=kk at *
  generalize lastG t key h=p at *
  have hpi:(p:Int)<(t.n:Int):=by omega
  have h8i:(s:Int)<8:=by omega
  have HG:=Lib.hid (val_full h8 h3 v);have cP:=fun W (hs:WAt f t kk W)=>rval_any (f.Q p) (t.gs p) (s:Int) v W (hs.gs p hp)
  clear h3
  go_enter Tryz.func51,Tryz.ntmps51
  go_upto_region 3 with (go_at_call 109;(with_reducible refine cW.mono ?_);rintro e w2 ⟨rfl,hs2⟩;have S:=WF.new (a0:=p) (a1:=s) (f0:=fi) (f1:=fk) HW.out hs2;have x0:=S.av.c0;have x1:=S.av.c1;have y1:=S.e.c1;have x2:=S.st.at'.cell0;have x3:=S.st.at'.pt p hp)
  generalize (w2.alloc (.cells #[.int .i64 (p:Nat),.int .i64 (s:Nat)] 181)).alloc (.cells #[.int .i64 fi,.int .i64 fk] 181)=w4 at *
  refine wp_region_tail_drew 12 (by kernel_rfl) (by kernel_rfl) ?_;simp only [List.take_succ_cons,List.take_zero,List.drop_succ_cons,List.drop_zero]
  repeat (quiet_step (fail))
  refine wpQuiet_nil ?_;intro w8 hw8;obtain⟨q8,rfl⟩:=hw8;have S8:=S.keep (below_drewN' _ q8)
  go_wp2_with (go_at_call 110;(with_reducible refine (cP _ S8.st.at').mono ?_);rintro e w9 ⟨rfl,hs9⟩)
  go_ret2
  have hg:=S8.st.at'.gstep hp hs9;rw [HG.out] at hg;exact⟨rfl,(S8.st.trans hg rfl).congr rfl fun j _=>rfl⟩
set_option maxRecDepth 20000 in
set_option maxHeartbeats 4000000 in
theorem rtdelete_any(f:Rf)(t:Tb)(ht:t.Ok)(k key h:Nat)(hk:k+64<9223372036854775807)(hh:h<18446744073709551616)(w:World)(hW:WAt f t k w) :
  Calls Tryz.prog 54 #[.pointer (some ⟨f.R,0,none⟩),.int .u64 key,.int .u64 h] w fun e w'=>e=.returned (.tuple #[group.entV (entOf t key h).key (entOf t key h).val (entOf t key h).hash,.bool (isThere t key h)])∧WStep f (t.remove key h) (k+looks t key h) w w':=by
 have hn:=ht.n;have cW:=where_any f t hn k key h hk hh _ (hW.below (new_block w (.cells #[.int .u64 0,.int .u64 0,.int .u64 0] 44)));have HW:=Lib.hid hW;clear hW;cases hth:isThere t key h
 ·have e1:atI t key h=-1:=by unfold atI;rw [hth];rfl
  have e3:entOf t key h=⟨1,0,0,0⟩:=by unfold entOf;rw [hth];rfl
  have e4:t.remove key h=t:=by unfold Tb.remove;rw [slot_neg hth];rfl
  rw [e1,slot_neg hth] at cW;rw [e3,e4];clear e1 e3 e4;generalize frI t (sn t key h)=fi at cW;generalize frK t (sn t key h)=fk at cW;generalize k+looks t key h=kk at *
  go_enter Tryz.func54,Tryz.ntmps54
  go_wp2_with (go_at_call 109;refine cW.mono ?_;rintro e w2 ⟨rfl,hs2⟩;have S:=WF.new (ek:=0) (ev:=0) (eh:=0) (a0:=-1) (a1:=-1) (f0:=fi) (f1:=fk) HW.out hs2;have x0:=S.av.c0;have y0:=S.e.c0;have y1:=S.e.c1;have y2:=S.e.c2;have y3:=S.e.fz)
  exact bodyPost_ret (v:=.tuple #[group.entV 0 0 0,.bool false]) (by simp [results,Tryz.results54,go_sem,y0,y1,y2]) rfl ⟨rfl,((S.newset HW.out S.hE 0 _).newset HW.out rfl S.hE 1 _).newset HW.out rfl S.hE 2 _⟩
 ·obtain⟨s,h8,hs,hhit⟩:=there_is hth
  have e1:atI t key h=(lastG t key h:Nat):=by unfold atI;rw [hth];rfl
  have hp:=lastG_lt t key h hn;have e3:entOf t key h=t.gs (lastG t key h) s:=by unfold entOf;rw [hth,hs];rfl
  have e4:t.remove key h=t.era (lastG t key h) s:=remove_at hs;have h3:=(hit_is hhit).1;rw [e1,hs] at cW;rw [e3,e4];clear e1 e3 e4 hs hhit hth;generalize frI t (sn t key h)=fi at cW;generalize frK t (sn t key h)=fk at cW;generalize k+looks t key h=kk at *
  generalize lastG t key h=p at *
  have hpi:(p:Int)<(t.n:Int):=by omega
  have h8i:(s:Int)<8:=by omega
  have hp0:(0:Int)≤(p:Int):=by omega
  have h80:(0:Int)≤(s:Int):=by omega
  have HG:=Lib.hid (era_full h8 h3);have cP:=fun W (hs:WAt f t kk W)=>rerase_any (f.Q p) (t.gs p) (s:Int) W (hs.gs p hp)
  clear h3;obtain⟨sl,hsl⟩:∃sl,t.gs p s=sl:=⟨_,rfl⟩;rw [hsl]
  go_enter Tryz.func54,Tryz.ntmps54
  go_upto_region 4 with (go_at_call 109;refine cW.mono ?_;rintro e w2 ⟨rfl,hs2⟩;have S:=WF.new (ek:=0) (ev:=0) (eh:=0) (a0:=p) (a1:=s) (f0:=fi) (f1:=fk) HW.out hs2;have x0:=S.av.c0;have x1:=S.av.c1;have x2:=S.st.at'.cell0;have x3:=S.st.at'.pt p hp;have x4:=(S.st.at'.gs p hp).key h8;have x5:=(S.st.at'.gs p hp).val h8;have x6:=(S.st.at'.gs p hp).hash h8)
  generalize hA:w2.heap.size=A at *
  generalize hw4:(w2.alloc (.cells #[.int .i64 (p:Nat),.int .i64 (s:Nat)] 181)).alloc (.cells #[.int .i64 fi,.int .i64 fk] 181)=w4 at *
  rw [hsl] at x4 x5 x6;clear hsl hA hw4
  go_region_held3 (fun w'=>w'.cell? ⟨f.R,0,none⟩=some (.slice (some ⟨f.G,0,none⟩) t.n f.c)∧w'.cell? ⟨A,0,none⟩=some (.int .i64 (p:Nat))∧w'.cell? ⟨A,1,none⟩=some (.int .i64 (s:Nat))∧w'.cell? ⟨f.G,p,none⟩=some (.pointer (some ⟨f.Q p,0,none⟩))∧w'.cell? ⟨f.Q p,s*4+1,none⟩=some (.int .u64 (sl.key:Nat))∧w'.cell? ⟨f.Q p,s*4+2,none⟩=some (.int .u64 (sl.val:Nat))∧w'.cell? ⟨f.Q p,s*4+3,none⟩=some (.int .u64 (sl.hash:Nat)))
   (go_keep) (fail)
  have S5:=(S.keep (new_block w4 (.cells #[.int .u64 (sl.key:Nat),.int .u64 (sl.val:Nat),.int .u64 (sl.hash:Nat)] 44))).keep (under.drew_below _);have hV5:=(EBox.new sl.key sl.val sl.hash w4).keep (under.drew_below _);have hA4:A+1<w4.heap.size:=S.fr.lt;have hEl:w.heap.size<w4.heap.size:=S.e.lt;have hb6:w.heap.size≤w4.heap.size:=by omega
  clear x0 x1 x2 x3 x4 x5 x6;generalize w4.heap.size=X at *
  generalize (w4.alloc (.cells #[.int .u64 (sl.key:Nat),.int .u64 (sl.val:Nat),.int .u64 (sl.hash:Nat)] 44)).drew=w5 at *
  have x0:=S5.av.c0;have x1:=S5.av.c1;have x2:=S5.st.at'.cell0;have x3:=S5.st.at'.pt p hp
  go_upto_region 5 with (fail)
  refine wp_region_tail_drew 10 (by kernel_rfl) (by kernel_rfl) ?_;simp only [List.take_succ_cons,List.take_zero,List.drop_succ_cons,List.drop_zero]
  repeat (quiet_step (fail))
  refine wpQuiet_nil ?_;intro w8 hw8;obtain⟨q8,rfl⟩:=hw8;have S8:=S5.keep (below_drewN' _ q8);have hV8:=hV5.keep (below_drewN' _ q8);have hXq:∀b,b∈f.d t.n∨b=f.G→b<w.heap.size:=fun b hb=>HW.out.lts hb
  have nX:X∉[f.Q p]:=fun hm=>by have:=hXq (f.Q p) (.inl (Rf.mem.2 (.inr ⟨p,hp,rfl⟩)));simp at hm;omega
  have nE:w.heap.size∉[f.Q p]:=fun hm=>by have:=hXq (f.Q p) (.inl (Rf.mem.2 (.inr ⟨p,hp,rfl⟩)));simp at hm;omega
  go_wp2_with (go_at_call 113;(with_reducible refine (cP _ S8.st.at').mono ?_);rintro e w9 ⟨rfl,hs9⟩;have hV9:=hV8.past hs9.past nX;have hE9:=S8.e.past hs9.past nE;have y0:=hE9.c0;have y1:=hE9.c1;have y2:=hE9.c2;have y3:=hE9.fz;have v0:=hV9.c0;have v1:=hV9.c1;have v2:=hV9.c2)
  have hg:=S8.st.at'.gstep hp hs9;rw [HG.out] at hg;have hf:=(S8.st.trans hg rfl).congr (t':=t.era p s) rfl fun j _=>rfl
  exact bodyPost_ret (v:=.tuple #[group.entV sl.key sl.val sl.hash,.bool true]) (by simp [results,Tryz.results54,go_sem,y0,y1,y2]) rfl ⟨rfl,((hf.newset HW.out rfl S8.hE 0 _).newset HW.out rfl S8.hE 1 _).newset HW.out rfl S8.hE 2 _⟩
end table
namespace app
open Go
def HasRow(w:World)(x:Value)(m:Nat)(news:List Value):Prop:=∃o c,x=.slice o m c∧∀j u,news[j]?=some u→∃a,o=some a∧w.cell? (a.add j)=some u
section
variable {P:Program} (w:World)
theorem run_append_val(base:Nat)(t ty e:TypeId)(i:TypeInfo)(z:Value)(size bytes:Nat)(ht:P.underlying t=some (.slice e))(hi:P.info? e=some i)(hz:i.zero=some z)
  (hsize:i.size=size)(hby:i.bytes=bytes)(hzs:z.cells.size=size)(hsz:0<size)
  (v:Value)(n:Nat)(xs:List Value)(hown:w.ownsRow base e size v n xs)
  (x:Value)(m:Nat)(news:List Value)(hx:HasRow w x m news)(hl:news.length=m*size)(h1:∀u∈news,u.oneCell'=true)
  (h63:n+m≤maxLen)(hbytes:(n+m)*bytes≤140737488355328)(hbase:base≤w.heap.size) :
  ∃v' w',(Builtin.append_ #[t,t] ty #[v,x]).run P w=.ok v' w'∧w'.ownsRow base e size v' (n+m) (xs++news)∧w.grownBy w' v.ownBlock:=by
 obtain⟨o,c,rfl,hc⟩:=hx;cases o with
 | some a =>
  obtain⟨v',w',h1',h2,h3,_⟩:=run_append_own (P:=P) w base t ty e i z size bytes ht hi hz hsize hby hzs hsz v n xs hown a m c news hl (fun j u hj=>by obtain⟨a',e,h⟩:=hc j u hj;cases e;exact h) h1 h63 hbytes hbase;exact⟨v',w',h1',h2,h3⟩
 | none =>
  have hn:news=[]:=by
   cases hnw:news with
   | nil=>rfl
   | cons u l=>obtain⟨a,e,_⟩:=hc 0 u (by rw [hnw];rfl);cases e
  subst hn
  have hm:m=0:=by
   rcases Nat.eq_zero_or_pos m with h|h
   ·exact h
   ·have:=Nat.mul_pos h hsz
    simp only [List.length_nil] at hl;omega
  subst hm;refine⟨v,w, ?_,by simpa using hown,⟨rfl,rfl,rfl,Nat.le_refl _,fun _ _ _=>rfl⟩⟩
  rcases hown.2 with⟨rfl,rfl⟩|⟨g,cap,cur,rfl,hbg,hg,hnc,hcm,hcs,htake⟩
  ·simp [Builtin.append_,run_underlying ht,sizeOf,typeInfo,hi,Builtin.lenOf,Builtin.firstCells,loadCells,loadCellsFrom]
  ·simp [Builtin.append_,run_underlying ht,sizeOf,typeInfo,hi,Builtin.lenOf,Builtin.firstCells,loadCells,loadCellsFrom,hnc,storeCells]
theorem wp_append_val{o:Oper}{a:Act}{K:Act→World→Prop}{Q:Exit→Act→World→Prop}(s x:Operand)(t:TypeId)
  (ho:o.op=.call { callee:=.builtin .append,args:=#[s,x],argTypes:=#[t,t] })
  (base:Nat)(e:TypeId)(i:TypeInfo)(z:Value)(size bytes:Nat)(ht:P.underlying t=some (.slice e))(hi:P.info? e=some i)(hz:i.zero=some z)
  (hsize:i.size=size)(hby:i.bytes=bytes)(hzs:z.cells.size=size)(hsz:0<size)
  (v:Value)(n:Nat)(xs:List Value)(hs:a.eval s=v)(hown:w.ownsRow base e size v n xs)
  (y:Value)(m:Nat)(news:List Value)(hx:a.eval x=y)(hy:HasRow w y m news)(hl:news.length=m*size)(h1:∀u∈news,u.oneCell'=true)
  (h63:n+m≤maxLen)(hbytes:(n+m)*bytes≤140737488355328)(hbase:base≤w.heap.size)
  (h:∀v' w',w'.ownsRow base e size v' (n+m) (xs++news)→w.grownBy w' v.ownBlock→K (a.put o.dst v') w'):o.wp P a w K Q:=by
 obtain⟨v',w',hr,h2,h3⟩:=run_append_val (P:=P) w base t o.type e i z size bytes ht hi hz hsize hby hzs hsz v n xs hown y m news hy hl h1 h63 hbytes hbase;unfold Oper.wp execOp;simp only [ho,resolve,invoke,builtin,Sem.run_bind,Sem.run_pure,Result.andThen_ok,List.map_toArray,List.map_cons,List.map_nil,hs,hx,hr];exact h v' w' h2 h3
theorem wpList_append_val{ops:Array Oper}{rest:List Oper}{o:Oper}{a:Act}{Q:Exit→Act→World→Prop}(hgd:o.guard=none)(s x:Operand)(t:TypeId)
  (ho:o.op=.call { callee:=.builtin .append,args:=#[s,x],argTypes:=#[t,t] })
  (base:Nat)(e:TypeId)(i:TypeInfo)(z:Value)(size bytes:Nat)(ht:P.underlying t=some (.slice e))(hi:P.info? e=some i)(hz:i.zero=some z)
  (hsize:i.size=size)(hby:i.bytes=bytes)(hzs:z.cells.size=size)(hsz:0<size)
  (v:Value)(n:Nat)(xs:List Value)(hs:a.eval s=v)(hown:w.ownsRow base e size v n xs)
  (y:Value)(m:Nat)(news:List Value)(hx:a.eval x=y)(hy:HasRow w y m news)(hl:news.length=m*size)(h1:∀u∈news,u.oneCell'=true)
  (h63:n+m≤maxLen)(hbytes:(n+m)*bytes≤140737488355328)(hbase:base≤w.heap.size)
  (h:∀v' w',w'.ownsRow base e size v' (n+m) (xs++news)→w.grownBy w' v.ownBlock→wpList P ops Q rest (a.put o.dst v') w'):wpList P ops Q (o::rest) a w:=
 wpList_plain hgd fun _ hK=>wp_append_val w s x t ho base e i z size bytes ht hi hz hsize hby hzs hsz v n xs hs hown y m news hx hy hl h1 h63 hbytes hbase fun v' w' h2 h3=>hK _ _ (h v' w' h2 h3)
theorem step_append_val{ops:Array Oper}{o:Oper}{a:Act}{K:Act→World→Prop}{Q:Exit→Act→World→Prop}{E:Prop}(hgd:o.guard=none)(s x:Operand)(t:TypeId)
  (ho:o.op=.call { callee:=.builtin .append,args:=#[s,x],argTypes:=#[t,t] })
  (base:Nat)(e:TypeId)(i:TypeInfo)(z:Value)(size bytes:Nat)(ht:P.underlying t=some (.slice e))(hi:P.info? e=some i)(hz:i.zero=some z)
  (hsize:i.size=size)(hby:i.bytes=bytes)(hzs:z.cells.size=size)(hsz:0<size)
  (v:Value)(n:Nat)(xs:List Value)(hs:a.eval s=v)(hown:w.ownsRow base e size v n xs)
  (y:Value)(m:Nat)(news:List Value)(hx:a.eval x=y)(hy:HasRow w y m news)(hl:news.length=m*size)(h1:∀u∈news,u.oneCell'=true)
  (h63:n+m≤maxLen)(hbytes:(n+m)*bytes≤140737488355328)(hbase:base≤w.heap.size)
  (h:∀v' w',w'.ownsRow base e size v' (n+m) (xs++news)→w.grownBy w' v.ownBlock→K (a.put o.dst v') w') :
  if Region.wanted o (yielded ops a.tmps)=true then Oper.wp P o a w K Q else E:=by
 have hw:Region.wanted o (yielded ops a.tmps)=true:=by simp [Region.wanted,hgd]
 rw [if_pos hw];exact wp_append_val w s x t ho base e i z size bytes ht hi hz hsize hby hzs hsz v n xs hs hown y m news hx hy hl h1 h63 hbytes hbase h
end
theorem HasRow.own{w:World}{base size n:Nat}{e:TypeId}{v:Value}{xs:List Value}(h:w.ownsRow base e size v n xs):HasRow w v n xs:=by
 have hc:=fun {g:Nat} (hg:v.ownBlock=some g)=>h.cells hg
 rcases h.2 with⟨rfl,rfl⟩|⟨g,cap,cur,rfl,_⟩
 ·have hx:xs=[]:=List.eq_nil_of_length_eq_zero (by simpa using h.1)
  subst hx;exact⟨_,_,rfl,fun j u hj=>by simp at hj⟩
 ·exact⟨_,_,rfl,fun j u hj=>⟨_,rfl,hc rfl j u hj⟩⟩
end app
namespace table
open Go.ChangeShapes Go.WideShapes Go.ChangeAt Go.RowKit Go.Shelf swar under trap meter group probe lens tail call
attribute [local go_sem] Oper.semAt_some stage.pureUpon move.stepUpon
theorem row_past{w w':World}{base:Nat}{e:TypeId}{size n:Nat}{v:Value}{xs:List Value}{d:List Nat}(h:w.ownsRow base e size v n xs)(hp:Past d w w')(hd:∀b∈d,b<base):w'.ownsRow base e size v n xs:=by
 refine⟨h.1, ?_⟩
 rcases h.2 with h2|⟨g,cap,cur,h1,h2,h3,h4⟩
 ·exact .inl h2
 ·exact .inr ⟨g,cap,cur,h1,h2,(hp.block g (Array.getElem?_eq_some_iff.1 h3).1 fun hm=>by have:=hd g hm;omega).trans h3,h4⟩
def tk(t:Tb)(a:Nat):Nat→Tb
 | 0=>t
 | k+1=>if ((tk t a k).gs a k).kind=3 then (tk t a k).era a k else tk t a k
theorem tk_succ(t:Tb)(a k:Nat):tk t a (k+1)=if ((tk t a k).gs a k).kind=3 then (tk t a k).era a k else tk t a k:=rfl
theorem tk_n(t:Tb)(a:Nat):∀k,(tk t a k).n=t.n
 | 0=>rfl
 | k+1=>by rw [tk_succ];split;exact tk_n t a k;exact tk_n t a k
theorem tk_next{t:Tb}{a k:Nat}(hk:k<8):(tk t a (k+1)).gs=upd (tk t a k).gs a (eraG ((tk t a k).gs a) (k:Int)):=by
 rw [tk_succ]
 by_cases h:((tk t a k).gs a k).kind=3
 ·rw [if_pos h,era_full hk h];rfl
 ·rw [if_neg h]
  have h1:fullAt ((tk t a k).gs a) (k:Int)=false:=by unfold fullAt;rw [show ((k:Int).toNat)=k from rfl,is_not' h];simp
  unfold eraG;rw [h1];exact (upd_id _ _).symm
theorem tk_ok{t:Tb}(h:t.Ok){a:Nat}(ha:a<t.n):∀k,k≤8→(tk t a k).Ok
 | 0,_=>h
 | k+1,hk=>by
  rw [tk_succ];split
  ·next h3=>exact (tk_ok h ha k (by omega)).era (by rw [tk_n];exact ha) (by omega) h3
  ·exact tk_ok h ha k (by omega)
theorem tk_far(t:Tb)(a:Nat):∀k j,k≤j→(tk t a k).gs a j=t.gs a j
 | 0,j,_=>rfl
 | k+1,j,hj=>by
  rw [tk_succ];split
  ·show (upd (tk t a k).gs a (((tk t a k).gs a).put k (erased ((tk t a k).gs a)))) a j=_
   rw [slot_other (by omega)];exact tk_far t a k j (by omega)
  ·exact tk_far t a k j (by omega)
set_option maxRecDepth 20000 in
set_option maxHeartbeats 1000000 in
theorem rttake_any(f:Rf)(t:Tb)(hn:okN t.n)(k i:Nat)(hi:i<t.n)(hk:k+64<9223372036854775807)(w:World)(hW:WAt f t k w) :
  Calls Tryz.prog 123 #[.pointer (some ⟨f.R,0,none⟩),.int .i64 i] w fun e w'=>∃v,e=.returned (.tuple #[v,.int .i64 0])∧Kept w.heap.size w' v (t.gs i) (fulls (t.gs i))∧WStep f (tk t i 8) (k+1) w w':=by
 have h0:=hW.cell0;have h1:=hW.cell1;have h2:=hW.fz 1;have hii:(i:Int)<(t.n:Int):=by omega
 have d1:decide ((i:Int)<0)=false:=decide_eq_false (by omega);have d2:decide ((t.n:Int)≤(i:Int))=false:=decide_eq_false (by omega);have hwk:IntKind.i64.wrap ((k:Int)+1)=(k:Int)+1:=IntWalk.i64_in _ (by omega);have S1:=hW.look;have a0:=S1.at'.cell0;have a1:=S1.at'.pt i hi;have cE:=rentries_any (f.Q i) (t.gs i) _ (S1.at'.gs i hi);have HW:=Lib.hid hW;clear hW
 go_enter Tryz.func123,Tryz.ntmps123
 go_wp2_with (go_at_call 114;(with_reducible refine cE.mono ?_);rintro e w2 ⟨v,rfl,hK,hb2⟩;have hz2:(w.setCell ⟨f.R,1,none⟩ (.int .i64 ((k:Nat)+1:Int))).heap.size=w.heap.size:=World.size_setCell _ _ _)
 have HI:=Lib.hid (show Kept w.heap.size w2 v (t.gs i) (fulls (t.gs i))∧WStep f (tk t i 0) (k+1) w w2 from⟨by rw [hz2] at hK;exact hK,S1.below hb2⟩);clear hK hb2 hz2 S1 a0 a1 h0 h1 h2 cE
 go_loopw [7] (fun j wr=>∃c:Nat,c≤8∧j=.int .i64 c∧Hid (Kept w.heap.size wr v (t.gs i) (fulls (t.gs i))∧WStep f (tk t i c) (k+1) w wr)) (fun j _=>8-(intOf j).toNat)
 case atStart=>exact⟨0,by omega,rfl,HI⟩
 case round =>
  obtain⟨c,hc,rfl,HR⟩:=hrel;clear HI
  rcases Nat.lt_or_ge c 8 with h8|h8
  ·have h8i:(c:Int)<8:=by omega
   have hi':i<(tk t i c).n:=by rw [tk_n];exact hi
   have a0:=HR.out.2.at'.cell0;have a1:=HR.out.2.at'.pt i hi';rw [tk_n] at a0;have cP:=rerase_any (f.Q i) ((tk t i c).gs i) (c:Int) wr (HR.out.2.at'.gs i hi')
   go_wp2_with (go_at_call 113;(with_reducible refine cP.mono ?_);rintro e w9 ⟨rfl,hs9⟩)
   go_roundw
   case rel =>
    refine⟨c+1,by omega,by simp,Lib.hid ⟨row_past HR.out.1 hs9.past fun b hb=>?_, ?_⟩⟩
    ·obtain rfl:b=f.Q i:=by simpa using hb
     exact HW.out.ltQ hi
    ·have hg:=HR.out.2.at'.gstep hi' hs9
     refine (HR.out.2.trans hg rfl).congr (t':=tk t i (c+1)) (by rw [tk_n];show t.n=(tk t i c).n;rw [tk_n]) fun j _=>?_
     show _=upd (tk t i c).gs i _ j;rw [tk_next h8]
   case measure=>simp [intOf];omega
  ·obtain rfl:c=8:=by omega
   go_wp2
   go_ret2
   exact⟨_,rfl,HR.out.1,HR.out.2⟩
def rowsS(l:List Sl):List Value:=l.flatMap ent
theorem rowsS_app(l m:List Sl):rowsS (l++m)=rowsS l++rowsS m:=by simp [rowsS]
theorem rowsS_length:∀l:List Sl,(rowsS l).length=l.length*3
 | []=>rfl
 | s::l=>by have:=rowsS_length l;simp [rowsS,ent] at this ⊢;omega
theorem rowsS_one:∀(l:List Sl) (u:Value),u∈rowsS l→u.oneCell'=true
 | s::l,u,h=>by
  have e:rowsS (s::l)=ent s++rowsS l:=by simp [rowsS]
  rw [e] at h
  rcases List.mem_append.1 h with h|h
  ·simp [ent] at h;rcases h with rfl|rfl|rfl <;> rfl
  ·exact rowsS_one l u h
theorem rows_rowsS(g:Gp):rows g (fulls g)=rowsS (entsG g):=by
 unfold rows rowsS entsG;rw [List.flatMap_map]
theorem entsG_len(g:Gp):(entsG g).length=(fulls g).length:=by unfold entsG;simp
theorem entsG_le(g:Gp):(entsG g).length≤8:=by rw [entsG_len];have:=range_len g 8;exact this
theorem ents_le(t:Tb):∀k,(ents t k).length≤8*k
 | 0=>by simp [ents]
 | k+1=>by rw [ents_succ,List.length_append];have:=ents_le t k;have:=entsG_le (t.gs k);omega
def KeptE(base:Nat)(W:World)(v:Value)(l:List Sl):Prop:=W.ownsRow base 44 3 v l.length (rowsS l)
theorem Kept.ents{base:Nat}{W:World}{v:Value}{g:Gp}(h:Kept base W v g (fulls g)):KeptE base W v (entsG g):=by
 unfold KeptE;rw [←rows_rowsS,entsG_len];exact h
theorem KeptE.append{base:Nat}{W:World}{v':Value}{l m:List Sl}(h:W.ownsRow base 44 3 v' (l.length+m.length) (rowsS l++rowsS m)):KeptE base W v' (l++m):=by
 unfold KeptE;rw [rowsS_app,List.length_append];exact h
set_option maxRecDepth 20000 in
set_option maxHeartbeats 1000000 in
theorem rtall_any(f:Rf)(t:Tb)(hn:okN t.n)(k:Nat)(w:World)(hW:WAt f t k w) :
  Calls Tryz.prog 56 #[.pointer (some ⟨f.R,0,none⟩)] w fun e w'=>∃v,e=.returned v∧KeptE w.heap.size w' v (ents t t.n)∧Below w.heap.size w w':=by
 obtain⟨i0,hi0,hq0,hq1,hq2⟩:=info_parts infoEnt;have hl:=okN_le hn;have hb0:=new_block w (.cells #[] 44);have h0:=keepc hb0 hW.cell0;have HW:=Lib.hid hW;have HI:=Lib.hid (show KeptE w.heap.size (w.alloc (.cells #[] 44)) (.slice (some ⟨w.heap.size,0,none⟩) 0 0) (ents t 0)∧Below w.heap.size w (w.alloc (.cells #[] 44)) from⟨World.ownsRow_lit w #[] 0 (Nat.le_refl _) (by decide) rfl,hb0⟩);clear hW hb0
 go_enter Tryz.func56,Tryz.ntmps56
 go_wp2
 go_loopw [12,3] (fun j v wr=>∃c:Nat,c≤t.n∧j=.int .i64 c∧Hid (KeptE w.heap.size wr v (ents t c)∧Below w.heap.size w wr)) (fun j _ _=>t.n-(intOf j).toNat)
 case atStart=>exact⟨0,by omega,rfl,HI⟩
 case round =>
  obtain⟨c,hc,rfl,HR⟩:=hrel;clear HI
  rcases Nat.lt_or_ge c t.n with hcn|hcn
  ·have hci:(c:Int)<(t.n:Int):=by omega
   have hA:=HW.out.below HR.out.2;have a1:=hA.pt c hcn;have cE:=rentries_any (f.Q c) (t.gs c) wr (hA.gs c hcn);have hes:=ents_succ t c;have h8:=entsG_le (t.gs c);have h9:=ents_le t c;have hr:=HR.out.1;have hz:=HR.out.2.size;unfold KeptE at hr;have HO:=Lib.hid hr;have HES:=Lib.hid hes;clear hr hA hes;obtain⟨m,hm⟩:∃m,(ents t c).length=m:=⟨_,rfl⟩;obtain⟨n8,hn8⟩:∃n8,(entsG (t.gs c)).length=n8:=⟨_,rfl⟩;rw [hn8] at h8;rw [hm] at h9 HO;have HM:=Lib.hid hm;have HN:=Lib.hid hn8;have hlen:(rowsS (entsG (t.gs c))).length=n8*3:=by rw [rowsS_length,hn8]
   have HL:=Lib.hid hlen;clear hm hn8 hlen
   go_wp2_with (first
    | (go_at_call 114;(with_reducible refine cE.mono ?_);rintro e w2 ⟨v2,rfl,hK,hb2⟩;have HK:=Lib.hid (app.HasRow.own (Kept.ents hK));have HO2:=Lib.hid (row_below HO.out hb2);have hz2:=hb2.size;rw [HN.out] at HK;clear hK)
    | (at_builtin;refine app.wpList_append_val _ rfl _ _ 60 rfl w.heap.size 44 i0 (.agg #[.int .u64 0,.int .u64 0,.int .u64 0]) 3 24 Tryz.underlying60 hi0 hq0 hq1 hq2 rfl (by decide) _ _ _ rfl HO2.out _ n8 (rowsS (entsG (t.gs c))) rfl HK.out HL.out (rowsS_one _) (by simp only [maxLen];omega) (by omega) (by omega) ?_;intro v' w1 hown' hgrow;have HO3:=Lib.hid hown';have HG:=Lib.hid hgrow;clear hown' hgrow))
   go_roundw
   case rel =>
    have hb3:=under.below_step HR.out.2 hb2;refine⟨c+1,by omega,by simp,Lib.hid ⟨?_,hb3.grown HG.out hb3.size fun j e=>(HO.out.lt j e).1⟩⟩;rw [HES.out];exact KeptE.append (by rw [HM.out,HN.out];exact HO3.out)
   case measure=>simp [intOf];omega
  ·obtain rfl:c=t.n:=by omega
   go_wp2
   go_ret
   exact⟨_,rfl,HR.out.1,HR.out.2⟩
set_option maxRecDepth 20000 in
theorem scan_rd{ae:String→Addr}{T B:Nat}{t:Tb}{L:Ln}{m:Mt}{w:World}(h:Ready ae T B t L m w)(i:Nat)(hi:i<t.n) :
  Calls Tryz.prog 170 #[.pointer (some ⟨T,0,none⟩),.agg #[.pointer L.p],.int .i64 i] w fun e w'=>∃v,e=.returned (.tuple #[v,.nilIface])∧Kept w.heap.size w' v (t.gs i) (fulls (t.gs i))∧LnStep [] L (L.one m) w w':=by
 have hb:=new_block w (.cells #[.pointer L.p] 52);have c:=look_row T B t.n i hi L m _ (keepc hb h.at'.row) (h.ln.below hb) h.apart.t;have HH:=Lib.hid (h.below hb);have HL:=Lib.hid (LnStep.of [] h.ln hb);have cE:=fun W (hr:Ready ae T B t L (L.one m) W)=>entries_any B (i*25) (t.gs i) (hr.ok.gs i) W (hr.at'.gs i hi) hr.bits
 clear h
 go_enter Tryz.func170,Tryz.ntmps170
 go_wp2_with (first
  | (go_at_call 183;refine c.mono ?_;rintro e w1 ⟨rfl,hs1⟩;have hR1:=HH.out.look hs1;have hb2:=new_block w1 (.cells #[.pointer (some ⟨B,i*25,none⟩)] 104);have hR2:=hR1.below hb2)
  | (go_at_call 184;(with_reducible refine (cE _ hR2).mono ?_);rintro e w3 ⟨v,rfl,hK,hb3⟩))
 go_ret2
 have hz:=((HL.out.trans hs1).below hb2).past.size
 exact⟨_,rfl,by
  refine⟨hK.1, ?_⟩
  rcases hK.2 with h2|⟨g,cap,cur,h1,h2,h3⟩
  ·exact .inl h2
  ·exact .inr ⟨g,cap,cur,h1,by omega,h3⟩,(((HL.out.trans hs1).below hb2).below hb3)⟩
theorem past_fresh{dd d:List Nat}{x y z:World}(h:Past dd x y)(k:Past d y z)(hd:∀b∈d,x.heap.size≤b):Past dd x z:=by
 have q:=(h.mono (d':=dd++d) fun b hb=>List.mem_append_left _ hb).trans (k.mono (d':=dd++d) fun b hb=>List.mem_append_right _ hb)
 exact⟨q.os,q.tape,q.output,q.size,fun b hb hn=>q.block b hb fun e=>by
  rcases List.mem_append.1 e with e|e
  ·exact hn e
  ·have:=hd b e;omega⟩
theorem Ready.past{ae:String→Addr}{T B:Nat}{t:Tb}{L:Ln}{m:Mt}{w W:World}{d:List Nat}(h:Ready ae T B t L m w)(hp:Past d w W)(hT:T∉d)(hB:B∉d)(hL:∀b∈L.d,b∉d)(hf:Far d):Ready ae T B t L m W:=
 ⟨h.at'.past hp hT hB,h.ok,h.ln.past hp hL,h.apart,tab_past h.bits hp hf,h.far,h.ft,h.fb,h.errs.past hp hf⟩
theorem past_grown{w w':World}{row:Option Nat}(h:w.grownBy w' row):Past row.toList w w':=⟨h.os,h.tape,h.output,h.size,fun k hk hn=>h.block k hk fun e=>hn (by rw [←e];simp)⟩
structure TkI(ae:String→Addr)(w:World)(T B:Nat)(t:Tb)(L:Ln)(m:Mt)(i V j:Nat)(v:Value)(W:World):Prop where
 rd:Ready ae T B (tk t i j) L m W
 tl:TL T B (tk t i j) L m w W
 row:Kept w.heap.size W v (t.gs i) ((List.range j).filter (is 3 (t.gs i)))
 vt:W.heap[V]?=some (.cells #[.pointer (some ⟨B,i*25,none⟩)] 104 (0,0))
 hV:w.heap.size≤V
 hd:∀b∈[T,B],b<w.heap.size
section
variable {ae:String→Addr} {w:World} {T B:Nat} {t:Tb} {L:Ln} {m:Mt} {i V j:Nat} {v:Value} {W W':World}
theorem TkI.ltV(s:TkI ae w T B t L m i V j v W):V<W.heap.size:=(Array.getElem?_eq_some_iff.1 s.vt).1
theorem TkI.vw(s:TkI ae w T B t L m i V j v W):W.cell? ⟨V,0,none⟩=some (.pointer (some ⟨B,i*25,none⟩)):=by rw [cell_of_row _ _ _ _ _ _ s.vt];rfl
theorem TkI.keep(s:TkI ae w T B t L m i V j v W)(hb:Below W.heap.size W W'):TkI ae w T B t L m i V j v W':=
 ⟨s.rd.below hb,s.tl.below hb,row_below s.row hb,(hb.block V s.ltV).trans s.vt,s.hV,s.hd⟩
theorem TkI.grown{v':Value}{n:Nat}{xs:List Value}(s:TkI ae w T B t L m i V j v W)(hL:∀b∈L.d,b<w.heap.size)(hVr:v.ownBlock≠some V)(hg:W.grownBy W' v.ownBlock)(hr:W'.ownsRow w.heap.size 44 3 v' n xs) :
  Ready ae T B (tk t i j) L m W'∧TL T B (tk t i j) L m w W'∧W'.heap[V]?=some (.cells #[.pointer (some ⟨B,i*25,none⟩)] 104 (0,0))∧V<W'.heap.size:=by
 have hp:=past_grown hg;have hge:∀b∈v.ownBlock.toList,w.heap.size≤b:=fun b hb=>(World.ownsRow.lt (w:=W) s.row b (by simpa using hb)).1
 have nT:T∉v.ownBlock.toList:=fun e=>by have:=hge T e;have:=s.hd T (by simp);omega
 have nB:B∉v.ownBlock.toList:=fun e=>by have:=hge B e;have:=s.hd B (by simp);omega
 have nL:∀b∈L.d,b∉v.ownBlock.toList:=fun b hb e=>by have:=hge b e;have:=hL b hb;omega
 have hf:Far v.ownBlock.toList:=fun b hb=>by have:=hge b hb;have:=s.hd T (by simp);have:=s.rd.ft;omega
 have q:=LnStep.of_past s.rd.ln hp nL;exact⟨s.rd.past hp nT nB nL hf,⟨s.rd.at'.past hp nT nB,⟨past_fresh s.tl.ln.past hp hge,s.tl.ln.side.trans q.side,q.at'⟩⟩,(hp.block V s.ltV (by simpa using hVr)).trans s.vt,Nat.lt_of_lt_of_le s.ltV hp.size⟩
end
set_option maxRecDepth 20000 in
set_option maxHeartbeats 2000000 in
theorem take_in{ae:String→Addr}{T B:Nat}{t:Tb}{L:Ln}{m:Mt}{w:World}(h:Ready ae T B t L m w)(i:Nat)(hi:i<t.n) :
  Calls Tryz.prog 173 #[.pointer (some ⟨T,0,none⟩),.agg #[.pointer L.p],.int .i64 i] w fun e w'=>∃v,e=.returned (.tuple #[v,.nilIface])∧Kept w.heap.size w' v (t.gs i) (fulls (t.gs i))∧TL T B (tk t i 8) L (L.one m) w w':=by
 obtain⟨i0,hi0,hq0,hq1,hq2⟩:=info_parts infoEnt;have hb:=new_block w (.cells #[.pointer L.p] 52);have c:=look_row T B t.n i hi L m _ (keepc hb h.at'.row) (h.ln.below hb) h.apart.t;have HH:=Lib.hid h;have HL:=Lib.hid (TL.of h.at' h.ln hb);have HB:=Lib.hid hb
 have hdw:∀b∈[T,B],b<w.heap.size:=fun b hb=>by
  rcases List.mem_cons.1 hb with rfl|hb
  ·exact h.at'.lt
  ·obtain rfl:b=B:=by simpa using hb
   exact h.at'.lb
 have HD:=Lib.hid hdw;have HLd:=Lib.hid h.ln.lt;clear h hb hdw
 go_enter Tryz.func173,Tryz.ntmps173
 go_wp2_with (go_at_call 183;refine c.mono ?_;rintro e w1 ⟨rfl,hs1⟩)
 have hR1:=(HH.out.below HB.out).look hs1;have hT1:=HL.out.trans (TL.look (HH.out.below HB.out).at' HH.out.apart hs1);have hb2:=new_block w1 (.cells #[.pointer (some ⟨B,i*25,none⟩)] 104);have hz1:=hT1.ln.past.size;have HI:=Lib.hid (show TkI ae w T B t L (L.one m) i w1.heap.size 0 (.slice none 0 0) (w1.alloc (.cells #[.pointer (some ⟨B,i*25,none⟩)] 104)) from⟨hR1.below hb2,hT1.below hb2,⟨rfl,.inl ⟨rfl,rfl⟩⟩,World.alloc_heap_new w1 _,hz1,HD.out⟩);clear hR1 hT1 hb2 hs1 c HL HB;generalize w1.alloc (.cells #[.pointer (some ⟨B,i*25,none⟩)] 104)=W0 at HI ⊢;generalize w1.heap.size=V at *
 go_loopw [24,10] (fun jj v wr=>∃j:Nat,j≤8∧jj=.int .i64 j∧Hid (TkI ae w T B t L (L.one m) i V j v wr)) (fun jj _ _=>8-(intOf jj).toNat)
 case atStart=>exact⟨0,by omega,rfl,HI⟩
 case round =>
  obtain⟨j,hj,rfl,HR⟩:=hrel;clear HI
  rcases Nat.lt_or_ge j 8 with h8|h8
  ·have h8i:(j:Int)<8:=by omega
   have x0:=HR.out.vw
   have hnv:u10.ownBlock≠some V:=fun e=>by
    rcases HR.out.row.2 with⟨e',_⟩|⟨g',c',cur,e',_,hg',_⟩
    ·rw [e'] at e;cases e
    ·rw [e'] at e;cases e
     have:=HR.out.vt;rw [hg'] at this;cases this
   have HNV:=Lib.hid hnv;clear hnv;have hin:i<(tk t i j).n:=by rw [tk_n];exact hi
   have cA:=at_is B (i*25) ((tk t i j).gs i) j h8 (HR.out.rd.ok.gs i) wr (HR.out.rd.at'.gs i hin) _ HR.out.rd.errs.two.state;have hfar:=tk_far t i j j (Nat.le_refl _);have hkd:is 3 ((tk t i j).gs i) j=is 3 (t.gs i) j:=by unfold is;rw [hfar]
   rw [hkd,hfar] at cA;have HKD:=Lib.hid hkd;have hfs:=fulls_succ (t.gs i) j;have hl:=range_len (t.gs i) j;have hrs:=rows_snoc (t.gs i) ((List.range j).filter (is 3 (t.gs i))) j;have he:ent (t.gs i j)=[.int .u64 ((t.gs i j).key:Nat),.int .u64 ((t.gs i j).val:Nat),.int .u64 ((t.gs i j).hash:Nat)]:=rfl;rw [he] at hrs;have HFS:=Lib.hid hfs;have HRS:=Lib.hid hrs;have H3:=Lib.hid (show is 3 (t.gs i) j=true→((tk t i j).gs i j).kind=3 from fun h=>by rw [←HKD.out] at h;unfold is at h;exact of_decide_eq_true h)
   have HG3:=Lib.hid (show ∀b,is 3 (t.gs i) j=b→tk t i (j+1)=if b=true then (tk t i j).era i j else tk t i j from fun b hb=>by
    rw [tk_succ];have h3:((tk t i j).gs i j).kind=3↔b=true:=by rw [←hb,←HKD.out];unfold is;rw [decide_eq_true_eq]
    by_cases hq:b=true
    ·rw [if_pos hq,if_pos (h3.2 hq)]
    ·rw [if_neg hq,if_neg fun e=>hq (h3.1 e)])
   clear hfs hrs he hfar hkd;generalize (t.gs i j).key=ky at *
   generalize (t.gs i j).val=vl at *
   generalize (t.gs i j).hash=hs at *
   cases hb3:is 3 (t.gs i) j
   ·rw [hb3] at cA
    have hF:=HFS.out;rw [hb3] at hF;have HF:=Lib.hid hF;have hT:=HG3.out _ hb3;have HT:=Lib.hid hT;clear hF hT hb3 H3 HG3
    go_wp2_with (go_at_call 139;(with_reducible refine cA.mono ?_);rintro e w3 ⟨rfl,hb4⟩)
    go_roundw
    case rel =>
     have S:=(HR.out.keep hb4).keep (new_block w3 (.cells #[.int .u64 (ky:Nat),.int .u64 (vl:Nat),.int .u64 (hs:Nat)] 44));refine⟨j+1,by omega,by simp,Lib.hid ⟨by rw [HT.out];exact S.rd,by rw [HT.out];exact S.tl,by rw [HF.out];simpa using S.row,S.vt,S.hV,S.hd⟩⟩
    case measure=>simp [intOf];omega
   ·rw [hb3] at cA
    have hF:=HFS.out;rw [hb3] at hF;have HF:=Lib.hid hF;have HT:=Lib.hid (HG3.out _ hb3);have h3:=H3.out hb3;have HK:=HR.out.row;unfold group.Kept at HK;have HK:=Lib.hid HK;have hz:=HR.out.tl.ln.past.size;clear hF hb3 H3 HG3
    go_wp2_with (first
     | (go_at_call 139;(with_reducible refine cA.mono ?_);rintro e w3 ⟨rfl,hb4⟩;have S4:=HR.out.keep hb4;have hb5:=new_block w3 (.cells #[.int .u64 (ky:Nat),.int .u64 (vl:Nat),.int .u64 (hs:Nat)] 44);have S5:=S4.keep hb5;have hb6:=new_block (w3.alloc (.cells #[.int .u64 (ky:Nat),.int .u64 (vl:Nat),.int .u64 (hs:Nat)] 44)) (.cells #[.int .u64 (ky:Nat),.int .u64 (vl:Nat),.int .u64 (hs:Nat)] 44);have S6:=S5.keep hb6;have HR6:=Lib.hid S6.row;have HN:=Lib.hid (cell_three_new (w3.alloc (.cells #[.int .u64 (ky:Nat),.int .u64 (vl:Nat),.int .u64 (hs:Nat)] 44)) (.int .u64 (ky:Nat)) (.int .u64 (vl:Nat)) (.int .u64 (hs:Nat)) 44);have hz4:=hb4.size)
     | (at_builtin;refine wpList_append_own _ rfl _ _ 60 rfl w.heap.size 44 i0 (.agg #[.int .u64 0,.int .u64 0,.int .u64 0]) 3 24 Tryz.underlying60 hi0 hq0 hq1 hq2 rfl (by decide) _ _ _ rfl HR6.out ⟨w3.heap.size+1,0,none⟩ 1 1 [.int .u64 (ky:Nat),.int .u64 (vl:Nat),.int .u64 (hs:Nat)] rfl rfl (by have:=HN.out;rw [World.size_alloc] at this;exact this) (by simp [Value.oneCell']) (by simp only [maxLen];omega) (by omega) (by simp;omega) ?_;intro v' w7 hown' hgrow _;obtain⟨gr7,gt7,gv7,gl7⟩:=S6.grown HLd.out HNV.out hgrow hown';have gv8:w7.cell? ⟨V,0,none⟩=some (.pointer (some ⟨B,i*25,none⟩)):=(by rw [cell_of_row _ _ _ _ _ _ gv7];rfl);have HO7:=Lib.hid hown';clear hown' hgrow)
     | (go_at_call 186;(with_reducible refine (erase_at ae T B (tk t i j) gr7.ok i j hin h8 h3 _ gr7.at' gr7.errs.two).mono ?_);rintro e w8 ⟨rfl,hs8⟩))
    go_roundw
    case rel =>
     have hok:(tk t i (j+1)).Ok:=tk_ok HH.out.ok hi (j+1) (by omega);have hT:=HT.out;simp only [if_true] at hT;rw [←hT] at hs8;refine⟨j+1,by omega,by simp,Lib.hid ⟨gr7.step hs8 hok,gt7.step gr7.apart hs8, ?_,(hs8.past.block V gl7 ?_).trans gv7,HR.out.hV,HR.out.hd⟩⟩
     ·rw [HF.out]
      unfold group.Kept;simp only [if_true];rw [HRS.out,List.length_append];exact row_past HO7.out hs8.past HR.out.hd
     ·intro e;have:=HR.out.hd V e;have:=HR.out.hV;omega
    case measure=>simp [intOf];omega
  ·obtain rfl:j=8:=by omega
   go_wp2
   go_ret2
   exact⟨_,rfl,HR.out.row,HR.out.tl⟩
section
variable {w0:World} {ae:String→Addr} {T B:Nat} {L:Ln} {m m':Mt} {t t' u u':Tb} {f:Rf} {k k':Nat} {W W':World}
theorem WAt.setK(h:WAt f u k W)(c:Nat):WStep f u c W (W.setCell ⟨f.R,1,none⟩ (.int .i64 (c:Nat))):=by
 have p:Past [f.R] W (W.setCell ⟨f.R,1,none⟩ (.int .i64 (c:Nat))):=(Past.refl [f.R] W).store (p:=⟨f.R,1,none⟩) (.inl (by simp)) _;have e:=heap_setCell_same W f.R 1 _ _ (.int .i64 (c:Nat)) h.row;refine⟨p.mono fun b hb=>?_,e,fun j hj=>?_,by simpa using h.lt,fun j hj=>(h.gs j hj).past p (by simpa using h.nr j hj),h.inj,h.nr,h.ng,h.ne⟩
 ·obtain rfl:b=f.R:=by simpa using hb
  simp [Rf.d]
 ·exact (p.cell (h.pt j hj) (by simpa using h.ne))
end
theorem Ready.dup{ae:String→Addr}{T B:Nat}{t:Tb}{L:Ln}{m:Mt}{w:World}(h:Ready ae T B t L m w)(key hs:Nat)(hh:hs<18446744073709551616)(ht:isThere t key hs=true)(k2 v2 h2:Nat) :
  Calls Tryz.prog 48 #[spotV T B key hs (lastG t key hs) (roomG t key hs),group.entV k2 v2 h2] w fun e w'=>e=.returned (errAt ae 16)∧Below w.heap.size w w':=by
 obtain⟨k,h1,h2',h3⟩:=there_is ht;exact place_dup ae T B t h.ok key hs _ _ k (lastG_lt t key hs h.ok.n) h1 (hit_is h3).1 hh h2' w h.at' h.bits h.errs k2 v2 h2
section
variable {X T B key h a b v:Nat} {kd ky nn:Int} {W W':World}
end
section
variable {w0:World} {ae:String→Addr} {T B:Nat} {L:Ln} {m m':Mt} {t t' u u':Tb} {f:Rf} {k k' N X key h a b v:Nat} {kd ky nn:Int} {w W W':World}
end
end table
end Go.Proofs.YtdplhgpeggcmdaaGreatDoor
