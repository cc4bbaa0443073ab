/- DualFd: facts and laws for the walks. -/
import Derived.Test.YtdplhgpeggcmdaaGreatDoorNodeAu
namespace Go.Proofs.YtdplhgpeggcmdaaGreatDoor
set_option linter.unusedSimpArgs false
set_option linter.unusedVariables false
namespace evac
open Go.ChangeShapes Go.WideShapes Go.ChangeAt Go.RowKit Go.Shelf swar under trap meter group probe lens tail call table
section
variable {a:String→Addr} {w0:World} {Y:Lay} {t:Nat→Tb} {W W':World} {L:Ln} {m m':Mt}
theorem Real.rdL(h:Real a w0 Y t W){i:Nat}(hi:i<Y.N)(hl:LnAt L m W)(hd:∀b∈L.d,w0.heap.size≤b∧b∉Y.tall):Ready a (Y.T i) (Y.B i) (t i) L m W:=
 ⟨h.at' i hi,h.ok i hi,hl,(fun b hb=>Ot.pair (hd b hb).2 hi),h.base.bits.below h.bel h.base.bits.lt,(fun b hb=>Nat.le_trans h.base.far (hd b hb).1),Nat.le_trans h.base.far (h.new _ (Lay.tin hi (by simp))),Nat.le_trans h.base.far (h.new _ (Lay.tin hi (by simp))),h.base.six.below h.bel⟩
theorem Real.lnL(h:Real a w0 Y t W)(hd:∀b∈L.d,w0.heap.size≤b∧b∉Y.tall)(hs:LnStep [] L m' W W'):Real a w0 Y t W':=h.past (d:=L.d) (by simpa using hs.past) hd
theorem Real.tlL(h:Real a w0 Y t W){i:Nat}(hi:i<Y.N)(hd:∀b∈L.d,w0.heap.size≤b∧b∉Y.tall){t':Tb}(hs:TL (Y.T i) (Y.B i) t' L m' W W')(ok:t'.Ok)(hn:t'.n=(t i).n):Real a w0 Y (up t i t') W':=h.step hi hs.ln.past hs.at' ok (hn.trans (h.tn i hi)) hd
end
end evac
namespace dual
open Go.ChangeShapes Go.WideShapes Go.ChangeAt Go.RowKit Go.Shelf swar under trap meter group probe lens tail call table evac
attribute [local go_sem] Oper.semAt_some stage.pureUpon move.stepUpon
def ptrs(Y:Lay)(J:List Nat):List (Option Addr):=J.map fun i=>some ⟨Y.T i,0,none⟩
theorem ptrs_at{Y:Lay}{J:List Nat}{o:Option Addr}{W:World}(h:PtrsAt o (ptrs Y J) W){j:Nat}(hj:j<J.length):∃x,o=some x∧W.cell? (x.add j)=some (.pointer (some ⟨Y.T J[j],0,none⟩)):=by
 obtain⟨x,h1,h2⟩:=h j (by simpa [ptrs] using hj);exact⟨x,h1,by simpa [ptrs] using h2⟩
structure FnI(a:String→Addr)(w0 w:World)(Y:Lay)(t:Nat→Tb)(key hs:Nat)(L:Ln)(m:Mt)(J:List Nat)(o:Option Addr)(j:Nat)(W:World):Prop where
 re:Real a w0 Y t W
 ln:LnStep [] L (L.see m (fndK t key hs (J.take j))) w W
 off:∀i∈J.take j,isThere (t i) key hs=false
 bx:W.cell? ⟨w.heap.size,0,none⟩=some (.pointer L.p)
 rs:EBox (w.heap.size+1) 0 0 0 W
 ps:PtrsAt o (ptrs Y J) W
section
variable {a:String→Addr} {w0 w:World} {Y:Lay} {t:Nat→Tb} {key hs:Nat} {L:Ln} {m:Mt} {J:List Nat} {o:Option Addr} {j:Nat} {W W':World}
theorem FnI.read(h:FnI a w0 w Y t key hs L m J o j W)(hb:Below W.heap.size W W'):FnI a w0 w Y t key hs L m J o j W':=
 ⟨h.re.read hb,h.ln.below hb,h.off,keepc hb h.bx,h.rs.keep hb,h.ps.below hb⟩
theorem FnI.next(h:FnI a w0 w Y t key hs L m J o j W)(hj:j<J.length)(hd:∀b∈L.d,w0.heap.size≤b∧b∉Y.tall)(hlt:∀b∈L.d,b<w.heap.size)(ho:∀x,o=some x→∀b∈L.d,x.block≠b)(ht:isThere (t J[j]) key hs=false)(hst:LnStep [] L (L.see (L.see m (fndK t key hs (J.take j))) (looks (t J[j]) key hs)) W W'):FnI a w0 w Y t key hs L m J o (j+1) W':=by
 have nX:∀x,w.heap.size≤x→x∉([]:List Nat)++L.d:=fun x hx e=>by have:=hlt x (by simpa using e);omega
 refine⟨h.re.lnL hd hst, ?_,off_snoc hj h.off ht,hst.past.cell h.bx (nX _ (Nat.le_refl _)),h.rs.past hst.past (nX _ (by omega)),fun i hi=>?_⟩
 ·rw [fndK_snoc hj h.off,L.see_add];exact h.ln.trans hst
 ·obtain⟨x,h1,h2⟩:=h.ps i hi
  refine⟨x,h1, ?_⟩;have hb:(x.add i).block=x.block:=by unfold Addr.add;split <;> rfl
  have hlt':=World.block_lt_of_cell? _ _ h2;refine (World.cell?_of_block (w:=W) (hst.past.block _ hlt' fun e=>?_)).trans h2;exact ho x h1 _ (by simpa using e) hb.symm
end
set_option maxRecDepth 20000 in
set_option maxHeartbeats 1000000 in
theorem find_core(a:String→Addr)(w0:World)(Y:Lay)(t:Nat→Tb)(D key hs:Nat)(hk:key<18446744073709551616)(hh:hs<18446744073709551616)(L:Ln)(m:Mt)(J:List Nat)(hJ:J.length≤3)(hJN:∀i∈J,i<Y.N)(w:World)(hr:Real a w0 Y t w)(hl:LnAt L m w)(hd:∀b∈L.d,w0.heap.size≤b∧b∉Y.tall)
  (cW:∀W,Below w.heap.size w W→Calls Tryz.prog 93 #[.pointer (some ⟨D,0,none⟩),.int .u64 (hs:Nat)] W fun e w'=>∃o c,e=.returned (.slice o J.length c)∧PtrsAt o (ptrs Y J) w'∧(∀x,o=some x→x.block∉L.d∧x.block∉Y.tall∧(x.block<w.heap.size∨W.heap.size≤x.block))∧Below W.heap.size W w') :
  Calls Tryz.prog 216 #[.pointer (some ⟨D,0,none⟩),.agg #[.pointer L.p],.int .u64 (key:Nat),.int .u64 (hs:Nat)] w fun e w'=>e=.returned (.tuple #[group.entV (fndE t key hs J).key (fndE t key hs J).val (fndE t key hs J).hash,.bool (fnd t key hs J).isSome])∧LnStep [] L (L.see m (fndK t key hs J)) w w':=by
 have hlt:=hl.lt;have hb2:=two_new w (.cells #[.pointer L.p] 52) (.cells #[.int .u64 0,.int .u64 0,.int .u64 0] 44);have hX:=keepc (new_block (w.alloc (.cells #[.pointer L.p] 52)) (.cells #[.int .u64 0,.int .u64 0,.int .u64 0] 44)) (newc w (.pointer L.p) 52);have hV:=EBox.second 0 0 0 w (.cells #[.pointer L.p] 52);have HR:=Lib.hid hr;have HL:=Lib.hid hl;clear hr hl
 go_enter Tryz.func216,Tryz.ntmps216
 go_wp2_with (fail)
 refine (cW _ hb2).mono ?_;rintro e w1 ⟨o,c,rfl,hP,ho,hb1⟩;have hb12:=under.below_step hb2 hb1;have HI:=Lib.hid (show FnI a w0 w Y t key hs L m J o 0 w1 from⟨HR.out.read hb12,.of _ HL.out hb12,fun i hi=>(by simp at hi),keepc hb1 hX,hV.keep hb1,hP⟩);have HO:=Lib.hid ho;clear hX hV hP ho cW hb2 hb1 hb12
 go_wp2_with (fail)
 go_loopw [18] (fun i wr=>∃j:Nat,j≤J.length∧i=.int .i64 j∧Hid (FnI a w0 w Y t key hs L m J o j wr)) (fun i _=>J.length-(intOf i).toNat)
 case atStart=>exact⟨0,by omega,rfl,HI⟩
 case round =>
  obtain⟨j,hj,rfl,HF⟩:=hrel;clear HI
  rcases Nat.lt_or_ge j J.length with hjl|hjl
  ·have hji:(j:Int)<(J.length:Int):=by omega
   obtain⟨x,rfl,hc⟩:=ptrs_at HF.out.ps hjl;have hi:=hJN _ (List.getElem_mem hjl);have cF:=find_tab (HF.out.re.rdL hi HF.out.ln.at' hd) key hs hk hh;have hbx:=HF.out.bx;have HN:=Lib.hid (fun (W':World) ht hst=>HF.out.next (W':=W') hjl hd hlt (fun x hx b hb e=>(HO.out x hx).1 (by rw [e];exact hb)) ht hst);have HA:=Lib.hid (fun ht=>fnd_at (key:=key) (h:=hs) (t:=t) hjl HF.out.off ht)
   have HE:Hid (isThere (t J[j]) key hs=true→fndE t key hs J=entOf (t J[j]) key hs):=Lib.hid fun ht=>by
    unfold fndE;rw [(fnd_at hjl HF.out.off ht).1]
   generalize J[j]=i at *
   generalize hen:entOf (t i) key hs=en at *
   generalize hit:isThere (t i) key hs=it at *
   cases it with
   | false =>
    clear HA HE
    go_wp2_with (go_at_call 212;refine cF.mono ?_;rintro e w2 ⟨rfl,hs2⟩;have HN2:=Lib.hid ((HN.out _ rfl hs2).read (new_block w2 (.cells #[.int .u64 (en.key:Nat),.int .u64 (en.val:Nat),.int .u64 (en.hash:Nat)] 44)));clear hs2 cF HN)
    go_roundw
    case rel=>exact⟨j+1,by omega,by simp,HN2⟩
    case measure=>simp [intOf];omega
   | true =>
    obtain⟨e1,e2⟩:=HA.out rfl;have e3:=HE.out rfl;have HS:=Lib.hid HF.out.ln;have hrs:=HF.out.rs;clear HN HA HE
    go_wp2_with (go_at_call 212;refine cF.mono ?_;rintro e w2 ⟨rfl,hs2⟩;have hr2:=(hrs.past hs2.past (fun e=>by have:=hlt _ (by simpa using e);omega)).keep (new_block w2 (.cells #[.int .u64 (en.key:Nat),.int .u64 (en.val:Nat),.int .u64 (en.hash:Nat)] 44));have hE2:=EBox.new en.key en.val en.hash w2;have y0:=hE2.c0;have y1:=hE2.c1;have y2:=hE2.c2;have x0:=hr2.c0;have x1:=hr2.c1;have x2:=hr2.c2;have x3:=hr2.fz;have hz:=hs2.past.size;have hlr:=hrs.lt;have hnx:w2.heap.size≠w.heap.size+1:=(by omega))
    refine bodyPost_ret (v:=.tuple #[group.entV en.key en.val en.hash,.bool true]) (by simp [results,Tryz.results216,go_sem,x0,x1,x2]) rfl ⟨by rw [e1,e3];rfl, ?_⟩;rw [e2,L.see_add];have hS:=(HS.out.trans hs2).below (new_block w2 (.cells #[.int .u64 (en.key:Nat),.int .u64 (en.val:Nat),.int .u64 (en.hash:Nat)] 44));exact ((hS.newset hlt (by simp) _).newset hlt (by simp) _).newset hlt (by simp) _
  ·obtain rfl:j=J.length:=by omega
   have hoff:=HF.out.off;have hS:=HF.out.ln;rw [List.take_length] at hoff hS;have hrs:=HF.out.rs;have x0:=hrs.c0;have x1:=hrs.c1;have x2:=hrs.c2;have x3:=hrs.fz;have e1:=fnd_off hoff;have e3:fndE t key hs J=⟨1,0,0,0⟩:=by unfold fndE;rw [e1]
   clear hrs hoff;go_wp2;refine bodyPost_ret (v:=.tuple #[group.entV 0 0 0,.bool false]) (by simp [results,Tryz.results216,go_sem,x0,x1,x2]) rfl ⟨by rw [e1,e3];rfl, ?_⟩;exact ((hS.newset hlt (by simp) _).newset hlt (by simp) _).newset hlt (by simp) _
theorem ptrs_keep{Y:Lay}{J:List Nat}{o:Option Addr}{W W':World}{d:List Nat}(h:PtrsAt o (ptrs Y J) W)(hp:Past d W W')(ho:∀x,o=some x→x.block∉d):PtrsAt o (ptrs Y J) W':=fun i hi=>by
 obtain⟨x,h1,h2⟩:=h i hi;refine⟨x,h1, ?_⟩;have hb:(x.add i).block=x.block:=by unfold Addr.add;split <;> rfl
 have hlt':=World.block_lt_of_cell? _ _ h2;exact (World.cell?_of_block (w:=W) (hp.block _ hlt' fun e=>ho x h1 (by rw [←hb];exact e))).trans h2
structure StC(X:Nat)(a b c d e:Value)(W:World):Prop where
 row:W.heap[X]?=some (.cells #[a,b,c,d,e] 106 (0,0))
section
variable {X:Nat} {a b c d e:Value} {W W':World}
theorem StC.lt(h:StC X a b c d e W):X<W.heap.size:=(Array.getElem?_eq_some_iff.1 h.row).1
theorem StC.keep(h:StC X a b c d e W)(hb:Below W.heap.size W W'):StC X a b c d e W':=⟨(hb.block X h.lt).trans h.row⟩
theorem StC.past{l:List Nat}(h:StC X a b c d e W)(hp:Past l W W')(hX:X∉l):StC X a b c d e W':=⟨(hp.block X h.lt hX).trans h.row⟩
theorem StC.fz(h:StC X a b c d e W)(i:Nat):W.frozen? ⟨X,i,none⟩=false:=frozen_of_row _ _ i _ _ h.row
theorem StC.c0(h:StC X a b c d e W):W.cell? ⟨X,0,none⟩=some a:=by rw [cell_of_row _ _ _ _ _ _ h.row];rfl
theorem StC.c1(h:StC X a b c d e W):W.cell? ⟨X,1,none⟩=some b:=by rw [cell_of_row _ _ _ _ _ _ h.row];rfl
theorem StC.c2(h:StC X a b c d e W):W.cell? ⟨X,2,none⟩=some c:=by rw [cell_of_row _ _ _ _ _ _ h.row];rfl
theorem StC.c3(h:StC X a b c d e W):W.cell? ⟨X,3,none⟩=some d:=by rw [cell_of_row _ _ _ _ _ _ h.row];rfl
theorem StC.c4(h:StC X a b c d e W):W.cell? ⟨X,4,none⟩=some e:=by rw [cell_of_row _ _ _ _ _ _ h.row];rfl
theorem StC.set(h:StC X a b c d e W)(a' b' c' d' e':Value):StC X a' b' c' d' e' (((((W.setCell ⟨X,0,none⟩ a').setCell ⟨X,1,none⟩ b').setCell ⟨X,2,none⟩ c').setCell ⟨X,3,none⟩ d').setCell ⟨X,4,none⟩ e'):=
 ⟨heap_setCell_same _ X 4 _ _ _ (heap_setCell_same _ X 3 _ _ _ (heap_setCell_same _ X 2 _ _ _ (heap_setCell_same _ X 1 _ _ _ (heap_setCell_same W X 0 _ _ _ h.row))))⟩
end
structure PtI(a:String→Addr)(w0 w:World)(Y:Lay)(t:Nat→Tb)(key v hs:Nat)(L:Ln)(m:Mt)(J:List Nat)(o:Option Addr)(k j:Nat)(W:World):Prop where
 re:Real a w0 Y t W
 ln:LnStep Y.tall L (L.see m k) w W
 bx:W.cell? ⟨w.heap.size,0,none⟩=some (.pointer L.p)
 eb:EBox (w.heap.size+1) key v hs W
 ps:PtrsAt o (ptrs Y J) W
 st0:j=0→StC (w.heap.size+1+1) (.pointer none) (.int .u64 0) (.int .u64 0) (.pointer none) (.pointer none) W
 st1:1≤j→StC (w.heap.size+1+1) (.pointer (some ⟨Y.T (J.headD 0),0,none⟩)) (.int .u64 (key:Nat)) (.int .u64 (hs:Nat)) (.pointer (some ⟨Y.B (J.headD 0),lastG (t (J.headD 0)) key hs*25,none⟩)) (.pointer (some ⟨Y.B (J.headD 0),roomG (t (J.headD 0)) key hs*25,none⟩)) W
section
variable {a:String→Addr} {w0 w:World} {Y:Lay} {t:Nat→Tb} {key v hs:Nat} {L:Ln} {m:Mt} {J:List Nat} {o:Option Addr} {k j:Nat} {W W':World}
theorem PtI.read(h:PtI a w0 w Y t key v hs L m J o k j W)(hb:Below W.heap.size W W'):PtI a w0 w Y t key v hs L m J o k j W':=
 ⟨h.re.read hb,h.ln.below hb,keepc hb h.bx,h.eb.keep hb,h.ps.below hb,fun e=>(h.st0 e).keep hb,fun e=>(h.st1 e).keep hb⟩
theorem PtI.go(h:PtI a w0 w Y t key v hs L m J o k j W){l:List Nat}{k':Nat}(hp:Past l W W')(hl:∀b∈l,b<w.heap.size)(ho:∀x,o=some x→x.block∉l)(hr:Real a w0 Y t W')(hn:LnStep Y.tall L (L.see m k') w W'):PtI a w0 w Y t key v hs L m J o k' j W':=by
 have nX:∀x,w.heap.size≤x→x∉l:=fun x hx e=>by have:=hl x e;omega
 exact⟨hr,hn,hp.cell h.bx (nX _ (Nat.le_refl _)),h.eb.past hp (nX _ (by omega)),ptrs_keep h.ps hp ho,fun e=>(h.st0 e).past hp (nX _ (by omega)),fun e=>(h.st1 e).past hp (nX _ (by omega))⟩
theorem PtI.look(h:PtI a w0 w Y t key v hs L m J o k j W)(hd:∀b∈L.d,w0.heap.size≤b∧b∉Y.tall)(hlt:∀b∈L.d,b<w.heap.size)(ho:∀x,o=some x→x.block∉L.d){k':Nat}(hst:LnStep [] L (L.see (L.see m k) k') W W'):PtI a w0 w Y t key v hs L m J o (k+k') j W':=
 h.go (l:=L.d) (by simpa using hst.past) hlt ho (h.re.lnL hd hst) (by rw [L.see_add];exact h.ln.trans (hst.mono fun b hb=>by cases hb))
theorem PtI.same(h:PtI a w0 w Y t key v hs L m J o k j W){i:Nat}(hi:i<Y.N)(hd:∀b∈L.d,w0.heap.size≤b∧b∉Y.tall)(htl:∀b∈Y.tall,b<w.heap.size)(ho:∀x,o=some x→x.block∉Y.tall)(hst:TStep (Y.T i) (Y.B i) (t i) W W'):PtI a w0 w Y t key v hs L m J o k j W':=by
 obtain⟨h1,h2⟩:=h.re.tstep hi hst (h.re.ok i hi) rfl;rw [up_self] at h1;exact h.go h2 htl ho h1 (h.ln.trans (.of_past h.ln.at' h2 fun b hb=>(hd b hb).2))
theorem PtI.keep1(h:PtI a w0 w Y t key v hs L m J o k 0 W)(hw:w0.heap.size≤w.heap.size)(hlt:∀b∈L.d,b<w.heap.size)(htl:∀b∈Y.tall,b<w.heap.size)(ho:∀x,o=some x→x.block≠w.heap.size+1+1) :
  PtI a w0 w Y t key v hs L m J o k 1 (((((W.setCell ⟨w.heap.size+1+1,0,none⟩ (.pointer (some ⟨Y.T (J.headD 0),0,none⟩))).setCell ⟨w.heap.size+1+1,1,none⟩ (.int .u64 (key:Nat))).setCell ⟨w.heap.size+1+1,2,none⟩ (.int .u64 (hs:Nat))).setCell ⟨w.heap.size+1+1,3,none⟩ (.pointer (some ⟨Y.B (J.headD 0),lastG (t (J.headD 0)) key hs*25,none⟩))).setCell ⟨w.heap.size+1+1,4,none⟩ (.pointer (some ⟨Y.B (J.headD 0),roomG (t (J.headD 0)) key hs*25,none⟩))):=by
 have hp:Past [w.heap.size+1+1] W (((((W.setCell ⟨w.heap.size+1+1,0,none⟩ (.pointer (some ⟨Y.T (J.headD 0),0,none⟩))).setCell ⟨w.heap.size+1+1,1,none⟩ (.int .u64 (key:Nat))).setCell ⟨w.heap.size+1+1,2,none⟩ (.int .u64 (hs:Nat))).setCell ⟨w.heap.size+1+1,3,none⟩ (.pointer (some ⟨Y.B (J.headD 0),lastG (t (J.headD 0)) key hs*25,none⟩))).setCell ⟨w.heap.size+1+1,4,none⟩ (.pointer (some ⟨Y.B (J.headD 0),roomG (t (J.headD 0)) key hs*25,none⟩))):=
  (((((Past.refl _ W).store (.inl (by simp)) _).store (.inl (by simp)) _).store (.inl (by simp)) _).store (.inl (by simp)) _).store (.inl (by simp)) _
 have hz:w.heap.size+1+1<W.heap.size:=(h.st0 rfl).lt;have no:w.heap.size+1+1∉Y.tall:=fun e=>by have:=htl _ e;omega
 refine⟨h.re.past hp fun b hb=>?_, ?_,hp.cell h.bx (by simp only [List.mem_singleton];omega),h.eb.past hp (by simp only [List.mem_singleton];omega),ptrs_keep h.ps hp fun x hx=>by simpa using ho x hx,fun e=>absurd e (by decide),fun _=>(h.st0 rfl).set _ _ _ _ _⟩
 ·obtain rfl:b=w.heap.size+1+1:=by simpa using hb
  exact⟨by omega,no⟩
 ·exact ((((h.ln.newset hlt (by simp;omega) _).newset hlt (by simp;omega) _).newset hlt (by simp;omega) _).newset hlt (by simp;omega) _).newset hlt (by simp;omega) _
end
theorem put_found{t:Nat→Tb}{key hs v i:Nat}{J:List Nat}{more:Bool}(hf:fnd t key hs J=some i):dB t key hs J more=false∧dE t key hs J more=0∧dT t key hs v J more=up t i ((t i).puts key hs v):=by
 refine⟨?_, ?_, ?_⟩
 ·unfold dB;rw [hf];rfl
 ·unfold dE;rw [hf];rfl
 ·unfold dT dI;rw [hf];rfl
theorem put_off{t:Nat→Tb}{key hs v:Nat}{J:List Nat}(hf:fnd t key hs J=none):dB t key hs J false=false∧dE t key hs J false=2∧dT t key hs v J false=t:=by
 refine⟨?_, ?_, ?_⟩
 ·unfold dB;rw [hf];rfl
 ·unfold dE;rw [hf];rfl
 ·unfold dT;rw [hf];rfl
theorem put_on{t:Nat→Tb}{key hs v:Nat}{J:List Nat}(hf:fnd t key hs J=none):dB t key hs J true=putB' (t (J.headD 0)) key hs∧dE t key hs J true=putE' (t (J.headD 0)) key hs∧dT t key hs v J true=up t (J.headD 0) ((t (J.headD 0)).puts key hs v):=by
 refine⟨?_, ?_, ?_⟩
 ·unfold dB dI;rw [hf];rfl
 ·unfold dE dI;rw [hf];rfl
 ·unfold dT dI;rw [hf];rfl
theorem head_in{J:List Nat}(h:1≤J.length):J.headD 0∈J:=by
 cases J with
 | nil=>simp at h
 | cons x l=>exact List.mem_cons_self
theorem head_at{J:List Nat}(h:0<J.length):J[0]=J.headD 0:=by
 cases J with
 | nil=>simp at h
 | cons x l=>rfl
theorem three_new(w:World)(o1 o2 o3:Obj):Below w.heap.size w (((w.alloc o1).alloc o2).alloc o3):=under.below_step (two_new w o1 o2) (new_block _ o3)
set_option maxRecDepth 20000 in
set_option maxHeartbeats 2000000 in
theorem put_core(a:String→Addr)(w0:World)(Y:Lay)(t:Nat→Tb)(D key v hs:Nat)(hk:key<18446744073709551616)(hv:v<18446744073709551616)(hh:hs<18446744073709551616)(more:Bool)(L:Ln)(m:Mt)(J:List Nat)(hJ1:1≤J.length)(hJ:J.length≤3)(hJN:∀i∈J,i<Y.N)(w:World)(hr:Real a w0 Y t w)(hl:LnAt L m w)(hd:∀b∈L.d,w0.heap.size≤b∧b∉Y.tall)
  (cW:∀W,Below w.heap.size w W→Calls Tryz.prog 93 #[.pointer (some ⟨D,0,none⟩),.int .u64 (hs:Nat)] W fun e w'=>∃o c,e=.returned (.slice o J.length c)∧PtrsAt o (ptrs Y J) w'∧(∀x,o=some x→x.block∉L.d∧x.block∉Y.tall∧(x.block<w.heap.size∨W.heap.size≤x.block))∧Below W.heap.size W w') :
  Calls Tryz.prog 45 #[.pointer (some ⟨D,0,none⟩),.agg #[.pointer L.p],group.entV key v hs,.bool more] w fun e w'=>e=.returned (.tuple #[.bool (dB t key hs J more),errAt a (dE t key hs J more)])∧Real a w0 Y (dT t key hs v J more) w'∧LnStep Y.tall L (L.see m (fndK t key hs J)) w w':=by
 have hlt:=hl.lt;have htl:=hr.lt;have hb3:=three_new w (.cells #[.pointer L.p] 52) (.cells #[.int .u64 (key:Nat),.int .u64 (v:Nat),.int .u64 (hs:Nat)] 44) (.cells #[.pointer none,.int .u64 0,.int .u64 0,.pointer none,.pointer none] 106);have hb12:=under.below_step (new_block (w.alloc (.cells #[.pointer L.p] 52)) (.cells #[.int .u64 (key:Nat),.int .u64 (v:Nat),.int .u64 (hs:Nat)] 44)) (new_block _ (.cells #[.pointer none,.int .u64 0,.int .u64 0,.pointer none,.pointer none] 106));have hX:=keepc hb12 (newc w (.pointer L.p) 52);have hV:=(EBox.second key v hs w (.cells #[.pointer L.p] 52)).keep (new_block _ (.cells #[.pointer none,.int .u64 0,.int .u64 0,.pointer none,.pointer none] 106))
 have hS:StC (w.heap.size+1+1) (.pointer none) (.int .u64 0) (.int .u64 0) (.pointer none) (.pointer none) (((w.alloc (.cells #[.pointer L.p] 52)).alloc (.cells #[.int .u64 (key:Nat),.int .u64 (v:Nat),.int .u64 (hs:Nat)] 44)).alloc (.cells #[.pointer none,.int .u64 0,.int .u64 0,.pointer none,.pointer none] 106)):=⟨by
  have:=World.alloc_heap_new ((w.alloc (.cells #[.pointer L.p] 52)).alloc (.cells #[.int .u64 (key:Nat),.int .u64 (v:Nat),.int .u64 (hs:Nat)] 44)) (.cells #[.pointer none,.int .u64 0,.int .u64 0,.pointer none,.pointer none] 106)
  rwa [World.size_alloc,World.size_alloc] at this⟩
 have HR:=Lib.hid hr;have HL:=Lib.hid hl;have y2:=hV.c2;clear hr hl
 go_enter Tryz.func45,Tryz.ntmps45
 go_wp2_with (fail)
 refine (cW _ hb3).mono ?_;rintro e w1 ⟨o,c,rfl,hP,ho,hb1⟩;have hb13:=under.below_step hb3 hb1;have HI:=Lib.hid (show PtI a w0 w Y t key v hs L m J o 0 0 w1 from⟨HR.out.read hb13,.of _ HL.out hb13,keepc hb1 hX,hV.keep hb1,hP,fun _=>hS.keep hb1,fun e=>absurd e (by decide)⟩)
 have ho2:∀x,o=some x→x.block∉L.d∧x.block∉Y.tall∧x.block≠w.heap.size+1+1:=fun x hx=>by
  obtain⟨q1,q2,q3⟩:=ho x hx;rw [World.size_alloc,World.size_alloc,World.size_alloc] at q3;exact⟨q1,q2,by omega⟩
 have HO:=Lib.hid ho2;have HZ:=Lib.hid HR.out.bel.size;clear hX hV hP ho ho2 cW hb3 hb12 hb1 hb13 hS y2 HR HL
 go_wp2_with (fail)
 go_loopw [20] (fun i wr=>∃j:Nat,j≤J.length∧i=.int .i64 j∧Hid ((∀i∈J.take j,isThere (t i) key hs=false)∧PtI a w0 w Y t key v hs L m J o (fndK t key hs (J.take j)) j wr)) (fun i _=>J.length-(intOf i).toNat)
 case atStart=>exact⟨0,by omega,rfl,Lib.hid ⟨fun i hi=>(by simp at hi),HI.out⟩⟩
 case round =>
  obtain⟨j,hj,rfl,HF⟩:=hrel;clear HI
  rcases Nat.lt_or_ge j J.length with hjl|hjl
  ·have hji:(j:Int)<(J.length:Int):=by omega
   obtain⟨hoff,hF⟩:=HF.out;obtain⟨x,rfl,hc⟩:=ptrs_at hF.ps hjl;have hi:=hJN _ (List.getElem_mem hjl);have cS:=(hF.re.rdL hi hF.ln.at' hd).seek key hs hk hh;have yb:=hF.bx;have y0:=hF.eb.c0;have y2:=hF.eb.c2;obtain⟨q1,q2,q3⟩:=HO.out x rfl;have HN:=Lib.hid (fun (W':World) (hst:LnStep [] L (L.see (L.see m (fndK t key hs (J.take j))) (looks (t J[j]) key hs)) wr W')=>hF.look hd hlt (fun x hx=>(HO.out x hx).1) (W':=W') (k':=looks (t J[j]) key hs) hst);have HA:=Lib.hid (fun ht=>fnd_at (key:=key) (h:=hs) (t:=t) hjl hoff ht);have HB:=Lib.hid (fun ht=>And.intro (off_snoc hjl hoff ht) (fndK_snoc hjl hoff));have HJ0:Hid (j=0→J[j]=J.headD 0):=Lib.hid fun e=>by subst e;exact head_at hjl
   have HR:Hid (∀W':World,PtI a w0 w Y t key v hs L m J (some x) (fndK t key hs (J.take j)+looks (t J[j]) key hs) j W'→Ready a (Y.T J[j]) (Y.B J[j]) (t J[j]) L (L.see m (fndK t key hs (J.take j)+looks (t J[j]) key hs)) W'):=Lib.hid fun W' h=>h.re.rdL hi h.ln.at' hd
   have HP:=Lib.hid (fun ht=>put_found (v:=v) (more:=more) (fnd_at (key:=key) (h:=hs) (t:=t) hjl hoff ht).1);clear hoff hF HF;generalize J[j]=i at *
   generalize fndK t key hs (J.take j)=kj at *
   generalize looks (t i) key hs=lk at *
   generalize hlg:lastG (t i) key hs=lg at *
   generalize hrg:roomG (t i) key hs=rg at *
   go_wp2_with (fail)
   refine cS.mono ?_;rintro e w2 ⟨rfl,hs2⟩;have hb4:=new_block w2 (.cells #[.pointer (some ⟨Y.T i,0,none⟩),.int .u64 (key:Nat),.int .u64 (hs:Nat),.pointer (some ⟨Y.B i,lg*25,none⟩),.pointer (some ⟨Y.B i,rg*25,none⟩)] 106);have hSB:=SBox.new (Y.T i) (Y.B i) key hs lg rg w2;have hI:=(HN.out _ hs2).read hb4;have hz2:w.heap.size+1+1<w2.heap.size:=by have:=hs2.past.size;have:=World.block_lt_of_cell? _ _ y2;have:=(HN.out _ hs2).st0;have:=(HN.out _ hs2).st1;rcases Nat.eq_zero_or_pos j with e|e;exact ((HN.out _ hs2).st0 e).lt;exact ((HN.out _ hs2).st1 e).lt
   have z0:=hSB.c0;have z1:=hSB.c1;have z2:=hSB.c2;have z3:=hSB.c3;have z4:=hSB.c4;have y1:=hI.eb.c1;have cR:=(HR.out _ hI).replace key hs v hh;rw [hlg,hrg] at cR;have HI2:=Lib.hid hI;clear hs2 hb4 cS HN y0 y2 yb hI HR;cases hit:isThere (t i) key hs with
   | true =>
    have en:noneE (t i) key hs=0:=by unfold noneE;rw [hit];rfl
    have ep:(t i).replace key hs v=(t i).puts key hs v:=by unfold Tb.puts;rw [hit];rfl
    rw [en,ep,show errAt a 0=.nilIface from rfl] at cR;obtain⟨e1,e2⟩:=HA.out hit;obtain⟨p1,p2,p3⟩:=HP.out hit;clear HB HA HP HJ0
    go_wp2_with (go_at_call 47;refine cR.mono ?_;rintro e w4 ⟨rfl,hs4⟩)
    go_ret2
    obtain⟨h1,h2⟩:=HI2.out.re.tstep hi hs4 ((HI2.out.re.ok i hi).puts hk hh hv) (puts_n ..);exact⟨by rw [p1,p2];rfl,by rw [p3];exact h1,by rw [e2];exact HI2.out.ln.trans (.of_past HI2.out.ln.at' h2 fun b hb=>(hd b hb).2)⟩
   | false =>
    have en:noneE (t i) key hs=4:=by unfold noneE;rw [hit];rfl
    have ep:(t i).replace key hs v=t i:=by unfold Tb.replace;rw [slot_neg hit,if_neg (by decide)]
    rw [en,ep,show errAt a 4=errs.errV (a (errs.nm 3)) from rfl] at cR;obtain⟨o1,o2⟩:=HB.out hit;clear HB HA HP
    go_wp2_with (fail)
    refine cR.mono ?_;rintro e w4 ⟨rfl,hs4⟩;have hI4:=HI2.out.same hi hd htl (fun x hx=>(HO.out x hx).2.1) hs4
    have hSB4:=hSB.past hs4.past (by
     have l1:=htl _ (Lay.tin hi (show Y.T i∈[Y.T i,Y.B i] by simp));have l2:=htl _ (Lay.tin hi (show Y.B i∈[Y.T i,Y.B i] by simp))
     simp;omega)
    have HI4:=Lib.hid hI4;clear cR z0 z1 z2 z3 z4 y1 hs4 HI2 hSB
    rcases Nat.eq_zero_or_pos j with hj0|hj0
    ·have k0:=hSB4.c0
     have k1:=hSB4.c1;have k2:=hSB4.c2;have k3:=hSB4.c3;have k4:=hSB4.c4;have hst:=HI4.out.st0 hj0;have s0:=hst.c0;have s1:=hst.c1;have s2:=hst.c2;have s3:=hst.c3;have s4:=hst.c4;have sf:=hst.fz;have eJ:=HJ0.out hj0
     have HK:Hid (PtI a w0 w Y t key v hs L m J (some x) (kj+lk) 1 (((((w4.setCell ⟨w.heap.size+1+1,0,none⟩ (.pointer (some ⟨Y.T i,0,none⟩))).setCell ⟨w.heap.size+1+1,1,none⟩ (.int .u64 (key:Nat))).setCell ⟨w.heap.size+1+1,2,none⟩ (.int .u64 (hs:Nat))).setCell ⟨w.heap.size+1+1,3,none⟩ (.pointer (some ⟨Y.B i,lg*25,none⟩))).setCell ⟨w.heap.size+1+1,4,none⟩ (.pointer (some ⟨Y.B i,rg*25,none⟩)))):=by
      subst hj0;have:=HI4.out.keep1 HZ.out hlt htl (fun x hx=>(HO.out x hx).2.2);rw [←eJ,hlg,hrg] at this;exact Lib.hid this
     clear hst hI4 hSB4 HI4 eJ HJ0;have hj1:j+1=1:=by omega
     have dj:((j:Int)==0)=true:=by rw [hj0];rfl
     have dj':(j==0)=true:=by rw [hj0];rfl
     go_wp2
     go_roundw
     case rel=>exact⟨j+1,by omega,by first|(simp;done)|(simp;omega),Lib.hid ⟨o1,by rw [o2,hj1];exact HK.out⟩⟩
     case measure=>simp [intOf];omega
    ·have dj:((j:Int)==0)=false:=beq_eq_false_iff_ne.2 (by omega)
     have dj':(j==0)=false:=beq_eq_false_iff_ne.2 (by omega);have HK:Hid (PtI a w0 w Y t key v hs L m J (some x) (kj+lk) (j+1) w4):=Lib.hid ⟨HI4.out.re,HI4.out.ln,HI4.out.bx,HI4.out.eb,HI4.out.ps,fun e=>absurd e (by omega),fun _=>HI4.out.st1 hj0⟩;clear hI4 hSB4 HI4 HJ0;go_wp2
     go_roundw
     case rel=>exact⟨j+1,by omega,by simp,Lib.hid ⟨o1,by rw [o2];exact HK.out⟩⟩
     case measure=>simp [intOf];omega
  ·obtain rfl:j=J.length:=by omega
   obtain⟨hoff,hF⟩:=HF.out;rw [List.take_length] at hoff hF;have hfn:=fnd_off hoff;have hji:¬((J.length:Int)<(J.length:Int)):=by omega
   have hst:=hF.st1 hJ1;have hh0:=head_in hJ1;have hi:=hJN _ hh0;have hno:=hoff _ hh0;have HF2:=Lib.hid hF;clear HF;cases more with
   | false =>
    obtain⟨p1,p2,p3⟩:=put_off (v:=v) hfn;have yf:=(hF.re.base.six.below hF.re.bel).full;clear hF hst;go_wp2
    go_quiet (fail)
    go_wp2
    go_ret2
    exact⟨by rw [p1,p2];rfl,by rw [p3];exact HF2.out.re.read (below_drewN' _ _),HF2.out.ln.below (below_drewN' _ _)⟩
   | true =>
    obtain⟨p1,p2,p3⟩:=put_on (v:=v) hfn;have cP:=(hF.re.rdL hi hF.ln.at' hd).place key hs v hh hno;have ePut:(t (J.headD 0)).puts key hs v=(t (J.headD 0)).place key hs v:=by unfold Tb.puts;rw [hno];rfl
    have eB:putB' (t (J.headD 0)) key hs=decide (roomE (t (J.headD 0)) key hs=0):=by unfold putB';rw [hno];rfl
    have eE:putE' (t (J.headD 0)) key hs=roomE (t (J.headD 0)) key hs:=by unfold putE';rw [hno];rfl
    rw [ePut] at p3;rw [eB] at p1;rw [eE] at p2;have hok:=(hF.re.ok _ hi).place hk hh hv;have er:roomE (t (J.headD 0)) key hs=0∨roomE (t (J.headD 0)) key hs=2:=by unfold roomE;split;exact .inr rfl;split;exact .inr rfl;exact .inl rfl
    have s0:=hst.c0;have s1:=hst.c1;have s2:=hst.c2;have s3:=hst.c3;have s4:=hst.c4;have y0:=hF.eb.c0;have y1:=hF.eb.c1;have y2:=hF.eb.c2;clear hF hst hoff hno hh0 ePut eB eE;generalize J.headD 0=i0 at *
    have hpn:=place_n (t i0) key hs v;generalize (t i0).place key hs v=tp at *
    generalize lastG (t i0) key hs=lg at *
    generalize roomG (t i0) key hs=rg at *
    generalize roomE (t i0) key hs=re at *
    rcases er with rfl|rfl
    ·rw [show errAt a 0=.nilIface from rfl] at cP
     go_wp2_with (go_at_call 48;refine cP.mono ?_;rintro e w4 ⟨rfl,hs4⟩)
     go_ret2
     obtain⟨h1,h2⟩:=HF2.out.re.tstep hi hs4 hok hpn;exact⟨by rw [p1,p2];rfl,by rw [p3];exact h1,HF2.out.ln.trans (.of_past HF2.out.ln.at' h2 fun b hb=>(hd b hb).2)⟩
    ·rw [show errAt a 2=errs.errV (a (errs.nm 1)) from rfl] at cP
     go_wp2_with (go_at_call 48;refine cP.mono ?_;rintro e w4 ⟨rfl,hs4⟩)
     go_ret2
     obtain⟨h1,h2⟩:=HF2.out.re.tstep hi hs4 hok hpn;exact⟨by rw [p1,p2];rfl,by rw [p3];exact h1,HF2.out.ln.trans (.of_past HF2.out.ln.at' h2 fun b hb=>(hd b hb).2)⟩
structure DlI(a:String→Addr)(w0 w:World)(Y:Lay)(t:Nat→Tb)(L:Ln)(m:Mt)(J:List Nat)(o:Option Addr)(k:Nat)(W:World):Prop where
 re:Real a w0 Y t W
 ln:LnStep Y.tall L (L.see m k) w W
 bx:W.cell? ⟨w.heap.size,0,none⟩=some (.pointer L.p)
 rs:EBox (w.heap.size+1) 0 0 0 W
 ps:PtrsAt o (ptrs Y J) W
section
variable {a:String→Addr} {w0 w:World} {Y:Lay} {t t':Nat→Tb} {L:Ln} {m:Mt} {J:List Nat} {o:Option Addr} {k:Nat} {W W':World}
theorem DlI.read(h:DlI a w0 w Y t L m J o k W)(hb:Below W.heap.size W W'):DlI a w0 w Y t L m J o k W':=
 ⟨h.re.read hb,h.ln.below hb,keepc hb h.bx,h.rs.keep hb,h.ps.below hb⟩
theorem DlI.go(h:DlI a w0 w Y t L m J o k W){i:Nat}(hi:i<Y.N)(hd:∀b∈L.d,w0.heap.size≤b∧b∉Y.tall)(hlt:∀b∈L.d,b<w.heap.size)(htl:∀b∈Y.tall,b<w.heap.size)(ho:∀x,o=some x→x.block∉L.d∧x.block∉Y.tall){k':Nat}{t1:Tb}(hs:TL (Y.T i) (Y.B i) t1 L (L.see (L.see m k) k') W W')(ok:t1.Ok)(hn:t1.n=(t i).n):DlI a w0 w Y (up t i t1) L m J o (k+k') W':=by
 have hp:Past (Y.tall++L.d) W W':=hs.ln.past.mono fun b hb=>by
  rcases List.mem_append.1 hb with hb|hb
  ·exact List.mem_append.2 (.inl (Lay.tin hi hb))
  ·exact List.mem_append.2 (.inr hb)
 have nX:∀x,w.heap.size≤x→x∉Y.tall++L.d:=fun x hx e=>by
  rcases List.mem_append.1 e with e|e
  ·have:=htl x e;omega
  ·have:=hlt x e;omega
 refine⟨h.re.tlL hi hd hs ok hn, ?_,hp.cell h.bx (nX _ (Nat.le_refl _)),h.rs.past hp (nX _ (by omega)),ptrs_keep h.ps hp fun x hx e=>?_⟩
 ·rw [L.see_add];exact h.ln.trans (hs.ln.mono fun b hb=>Lay.tin hi hb)
 ·rcases List.mem_append.1 e with e|e
  ·exact (ho x hx).2 e
  ·exact (ho x hx).1 e
end
theorem del_found{t:Nat→Tb}{key hs i:Nat}{J:List Nat}(hf:fnd t key hs J=some i):eT t key hs J=up t i ((t i).remove key hs):=by unfold eT;rw [hf]
theorem del_off{t:Nat→Tb}{key hs:Nat}{J:List Nat}(hf:fnd t key hs J=none):eT t key hs J=t:=by unfold eT;rw [hf]
set_option maxRecDepth 20000 in
set_option maxHeartbeats 1000000 in
theorem delete_core(a:String→Addr)(w0:World)(Y:Lay)(t:Nat→Tb)(D key hs:Nat)(hk:key<18446744073709551616)(hh:hs<18446744073709551616)(L:Ln)(m:Mt)(J:List Nat)(hJ:J.length≤3)(hJN:∀i∈J,i<Y.N)(w:World)(hr:Real a w0 Y t w)(hl:LnAt L m w)(hd:∀b∈L.d,w0.heap.size≤b∧b∉Y.tall)
  (cW:∀W,Below w.heap.size w W→Calls Tryz.prog 93 #[.pointer (some ⟨D,0,none⟩),.int .u64 (hs:Nat)] W fun e w'=>∃o c,e=.returned (.slice o J.length c)∧PtrsAt o (ptrs Y J) w'∧(∀x,o=some x→x.block∉L.d∧x.block∉Y.tall∧(x.block<w.heap.size∨W.heap.size≤x.block))∧Below W.heap.size W w') :
  Calls Tryz.prog 215 #[.pointer (some ⟨D,0,none⟩),.agg #[.pointer L.p],.int .u64 (key:Nat),.int .u64 (hs:Nat)] w fun e w'=>e=.returned (.tuple #[group.entV (fndE t key hs J).key (fndE t key hs J).val (fndE t key hs J).hash,.bool (fnd t key hs J).isSome])∧Real a w0 Y (eT t key hs J) w'∧LnStep Y.tall L (L.see m (fndK t key hs J)) w w':=by
 have hlt:=hl.lt;have htl:=hr.lt;have hb2:=two_new w (.cells #[.pointer L.p] 52) (.cells #[.int .u64 0,.int .u64 0,.int .u64 0] 44);have hX:=keepc (new_block (w.alloc (.cells #[.pointer L.p] 52)) (.cells #[.int .u64 0,.int .u64 0,.int .u64 0] 44)) (newc w (.pointer L.p) 52);have hV:=EBox.second 0 0 0 w (.cells #[.pointer L.p] 52);have HR:=Lib.hid hr;have HL:=Lib.hid hl;have HZ:=Lib.hid hr.bel.size;clear hr hl
 go_enter Tryz.func215,Tryz.ntmps215
 go_wp2_with (fail)
 refine (cW _ hb2).mono ?_;rintro e w1 ⟨o,c,rfl,hP,ho,hb1⟩;have hb12:=under.below_step hb2 hb1;have HI:=Lib.hid (show DlI a w0 w Y t L m J o 0 w1 from⟨HR.out.read hb12,.of _ HL.out hb12,keepc hb1 hX,hV.keep hb1,hP⟩);have HO:=Lib.hid (show ∀x,o=some x→x.block∉L.d∧x.block∉Y.tall from fun x hx=>⟨(ho x hx).1,(ho x hx).2.1⟩);clear hX hV hP ho cW hb2 hb1 hb12
 go_wp2_with (fail)
 go_loopw [18] (fun i wr=>∃j:Nat,j≤J.length∧i=.int .i64 j∧Hid ((∀i∈J.take j,isThere (t i) key hs=false)∧DlI a w0 w Y t L m J o (fndK t key hs (J.take j)) wr)) (fun i _=>J.length-(intOf i).toNat)
 case atStart=>exact⟨0,by omega,rfl,Lib.hid ⟨fun i hi=>(by simp at hi),HI.out⟩⟩
 case round =>
  obtain⟨j,hj,rfl,HF⟩:=hrel;clear HI
  rcases Nat.lt_or_ge j J.length with hjl|hjl
  ·have hji:(j:Int)<(J.length:Int):=by omega
   obtain⟨hoff,hF⟩:=HF.out;obtain⟨x,rfl,hc⟩:=ptrs_at hF.ps hjl;have hi:=hJN _ (List.getElem_mem hjl);have cF:=delete_tab (hF.re.rdL hi hF.ln.at' hd) key hs hk hh;have hbx:=hF.bx;have HN:=Lib.hid (fun (W':World) (hst:TL (Y.T J[j]) (Y.B J[j]) ((t J[j]).remove key hs) L (L.see (L.see m (fndK t key hs (J.take j))) (looks (t J[j]) key hs)) wr W')=>hF.go hi hd hlt htl HO.out hst (hF.re.ok _ hi).remove (remove_n ..));have HA:=Lib.hid (fun ht=>fnd_at (key:=key) (h:=hs) (t:=t) hjl hoff ht);have HB:=Lib.hid (fun ht=>And.intro (off_snoc hjl hoff ht) (fndK_snoc hjl hoff))
   have HE:Hid (isThere (t J[j]) key hs=true→fndE t key hs J=entOf (t J[j]) key hs∧eT t key hs J=up t J[j] ((t J[j]).remove key hs)):=Lib.hid fun ht=>by
    have:=(fnd_at hjl hoff ht).1;exact⟨by unfold fndE;rw [this],del_found this⟩
   have eR:isThere (t J[j]) key hs=false→(t J[j]).remove key hs=t J[j]:=fun ht=>by unfold Tb.remove;rw [slot_neg ht,if_neg (by decide)]
   clear hoff HF;generalize J[j]=i at *
   generalize fndK t key hs (J.take j)=kj at *
   generalize looks (t i) key hs=lk at *
   generalize hen:entOf (t i) key hs=en at *
   generalize hit:isThere (t i) key hs=it at *
   cases it with
   | false =>
    obtain⟨o1,o2⟩:=HB.out rfl;rw [eR rfl] at cF HN;rw [up_self] at HN;clear HA HE HB eR hF
    go_wp2_with (go_at_call 185;refine cF.mono ?_;rintro e w2 ⟨rfl,hs2⟩;have HN2:=Lib.hid ((HN.out _ hs2).read (new_block w2 (.cells #[.int .u64 (en.key:Nat),.int .u64 (en.val:Nat),.int .u64 (en.hash:Nat)] 44)));clear hs2 cF HN)
    go_roundw
    case rel=>exact⟨j+1,by omega,by simp,Lib.hid ⟨o1,by rw [o2];exact HN2.out⟩⟩
    case measure=>simp [intOf];omega
   | true =>
    obtain⟨e1,e2⟩:=HA.out rfl;obtain⟨e3,e4⟩:=HE.out rfl;have hlr:=hF.rs.lt;clear HA HE HB eR hF
    go_wp2_with (go_at_call 185;refine cF.mono ?_;rintro e w2 ⟨rfl,hs2⟩;have hD2:=HN.out _ hs2;have hr2:=hD2.rs.keep (new_block w2 (.cells #[.int .u64 (en.key:Nat),.int .u64 (en.val:Nat),.int .u64 (en.hash:Nat)] 44));have hE2:=EBox.new en.key en.val en.hash w2;have y0:=hE2.c0;have y1:=hE2.c1;have y2:=hE2.c2;have x0:=hr2.c0;have x1:=hr2.c1;have x2:=hr2.c2;have x3:=hr2.fz;have hz:=hs2.ln.past.size;have hnx:w2.heap.size≠w.heap.size+1:=(by omega);have HD2:=Lib.hid (hD2.read (new_block w2 (.cells #[.int .u64 (en.key:Nat),.int .u64 (en.val:Nat),.int .u64 (en.hash:Nat)] 44)));clear hD2 hr2)
    refine bodyPost_ret (v:=.tuple #[group.entV en.key en.val en.hash,.bool true]) (by simp [results,Tryz.results215,go_sem,x0,x1,x2]) rfl ⟨by rw [e1,e3];rfl, ?_, ?_⟩
    ·rw [e4]
     refine HD2.out.re.past (((Past.refl [w.heap.size+1] _).store (.inl (by simp)) _).store (.inl (by simp)) _ |>.store (.inl (by simp)) _) fun b hb=>?_
     obtain rfl:b=w.heap.size+1:=by simpa using hb
     exact⟨by have:=HZ.out;omega,fun e=>by have:=htl _ e;omega⟩
    ·rw [e2]
     exact ((HD2.out.ln.newset hlt (by simp) _).newset hlt (by simp) _).newset hlt (by simp) _
  ·obtain rfl:j=J.length:=by omega
   obtain⟨hoff,hF⟩:=HF.out;rw [List.take_length] at hoff hF;have hrs:=hF.rs;have x0:=hrs.c0;have x1:=hrs.c1;have x2:=hrs.c2;have x3:=hrs.fz;have e1:=fnd_off hoff;have e3:fndE t key hs J=⟨1,0,0,0⟩:=by unfold fndE;rw [e1]
   have HF2:=Lib.hid hF;clear hrs hoff HF hF;go_wp2;refine bodyPost_ret (v:=.tuple #[group.entV 0 0 0,.bool false]) (by simp [results,Tryz.results215,go_sem,x0,x1,x2]) rfl ⟨by rw [e1,e3];rfl, ?_, ?_⟩
   ·rw [del_off e1]
    refine HF2.out.re.past (((Past.refl [w.heap.size+1] _).store (.inl (by simp)) _).store (.inl (by simp)) _ |>.store (.inl (by simp)) _) fun b hb=>?_
    obtain rfl:b=w.heap.size+1:=by simpa using hb
    exact⟨by have:=HZ.out;omega,fun e=>by have:=htl _ e;omega⟩
   ·exact ((HF2.out.ln.newset hlt (by simp) _).newset hlt (by simp) _).newset hlt (by simp) _
end dual
end Go.Proofs.YtdplhgpeggcmdaaGreatDoor
