/- NodeAu: facts and laws for the walks. -/
import Derived.Test.YtdplhgpeggcmdaaGreatDoorEvacNa
import Derived.Test.YtdplhgpeggcmdaaGreatDoorBuildFns
import Derived.Test.YtdplhgpeggcmdaaGreatDoorDualIn
import Derived.Handy
namespace Go.Proofs.YtdplhgpeggcmdaaGreatDoor
set_option linter.unusedSimpArgs false
set_option linter.unusedVariables false
namespace dual
open Go.ChangeShapes Go.WideShapes Go.ChangeAt Go.RowKit Go.Shelf swar under trap meter group probe lens tail call table evac
def cut(Y:Lay)(rd:Bool):Lay:=⟨if rd=true then Y.N else 1,Y.T,Y.B,Y.F,Y.n⟩
theorem cut_yes(Y:Lay):cut Y true=Y:=rfl
theorem cut_le{Y:Lay}(hN:Y.N=2∨Y.N=3)(rd:Bool):(cut Y rd).N≤Y.N:=by
 cases rd
 ·show 1≤Y.N;omega
 ·exact Nat.le_refl _
theorem cut_tall{Y:Lay}(hN:Y.N=2∨Y.N=3){rd:Bool}{b:Nat}(h:b∈(cut Y rd).tall):b∈Y.tall:=by
 obtain⟨i,hi,hb⟩:=List.mem_flatMap.1 h;have:=List.mem_range.1 hi;exact Lay.tin (by have:=cut_le hN rd;omega) hb
theorem cut_off{Y:Lay}{b:Nat}(h:b∈(cut Y false).tall):b=Y.T 0∨b=Y.B 0:=by
 obtain⟨i,hi,hb⟩:=List.mem_flatMap.1 h;have : i<1:=List.mem_range.1 hi;obtain rfl:i=0:=by omega
 simpa [cut] using hb
theorem js_lt{Y:Lay}(hN:Y.N=2∨Y.N=3)(rd:Bool)(d h:Nat):∀i∈js rd Y.N d h,i<(cut Y rd).N:=fun i hi=>by
 cases rd
 ·obtain rfl:i=0:=by simpa [js] using hi
  exact Nat.one_pos
 ·have q:=tgt_lt hN d h
  have : i=tgt Y.N d h∨i=0:=by simpa [js] using hi
  show i<Y.N
  rcases this with rfl|rfl
  ·exact q
  ·omega
structure DRow(D g dn:Nat)(dp:Int)(sB sT:Value)(pm:Option Addr)(sU:Value)(W:World):Prop where
 row:W.heap[D]?=some (.cells #[.int .i64 (g:Nat),.int .i64 (dn:Nat),.int .i64 dp,sB,sT,.pointer pm,sU] 197 (0,0))
section
variable {D g dn:Nat} {dp:Int} {sB sT:Value} {pm:Option Addr} {sU:Value} {W W':World}
theorem DRow.lt(h:DRow D g dn dp sB sT pm sU W):D<W.heap.size:=(Array.getElem?_eq_some_iff.1 h.row).1
theorem DRow.keep(h:DRow D g dn dp sB sT pm sU W)(hb:Below W.heap.size W W'):DRow D g dn dp sB sT pm sU W':=⟨(hb.block D h.lt).trans h.row⟩
theorem DRow.past{l:List Nat}(h:DRow D g dn dp sB sT pm sU W)(hp:Past l W W')(hD:D∉l):DRow D g dn dp sB sT pm sU W':=⟨(hp.block D h.lt hD).trans h.row⟩
theorem DRow.fz(h:DRow D g dn dp sB sT pm sU W)(i:Nat):W.frozen? ⟨D,i,none⟩=false:=frozen_of_row _ _ i _ _ h.row
theorem DRow.c0(h:DRow D g dn dp sB sT pm sU W):W.cell? ⟨D,0,none⟩=some (.int .i64 (g:Nat)):=by rw [cell_of_row _ _ _ _ _ _ h.row];rfl
theorem DRow.c1(h:DRow D g dn dp sB sT pm sU W):W.cell? ⟨D,1,none⟩=some (.int .i64 (dn:Nat)):=by rw [cell_of_row _ _ _ _ _ _ h.row];rfl
theorem DRow.c2(h:DRow D g dn dp sB sT pm sU W):W.cell? ⟨D,2,none⟩=some (.int .i64 dp):=by rw [cell_of_row _ _ _ _ _ _ h.row];rfl
theorem DRow.c3(h:DRow D g dn dp sB sT pm sU W):W.cell? ⟨D,3,none⟩=some sB:=by rw [cell_of_row _ _ _ _ _ _ h.row];rfl
theorem DRow.c4(h:DRow D g dn dp sB sT pm sU W):W.cell? ⟨D,4,none⟩=some sT:=by rw [cell_of_row _ _ _ _ _ _ h.row];rfl
theorem DRow.c5(h:DRow D g dn dp sB sT pm sU W):W.cell? ⟨D,5,none⟩=some (.pointer pm):=by rw [cell_of_row _ _ _ _ _ _ h.row];rfl
theorem DRow.c6(h:DRow D g dn dp sB sT pm sU W):W.cell? ⟨D,6,none⟩=some sU:=by rw [cell_of_row _ _ _ _ _ _ h.row];rfl
theorem DRow.set0(h:DRow D g dn dp sB sT pm sU W)(x:Nat):DRow D x dn dp sB sT pm sU (W.setCell ⟨D,0,none⟩ (.int .i64 (x:Nat))):=⟨heap_setCell_same W D 0 _ _ _ h.row⟩
theorem DRow.set1(h:DRow D g dn dp sB sT pm sU W)(x:Nat):DRow D g x dp sB sT pm sU (W.setCell ⟨D,1,none⟩ (.int .i64 (x:Nat))):=⟨heap_setCell_same W D 1 _ _ _ h.row⟩
theorem DRow.set3(h:DRow D g dn dp sB sT pm sU W)(x:Value):DRow D g dn dp x sT pm sU (W.setCell ⟨D,3,none⟩ x):=⟨heap_setCell_same W D 3 _ _ _ h.row⟩
theorem DRow.set4(h:DRow D g dn dp sB sT pm sU W)(x:Value):DRow D g dn dp sB x pm sU (W.setCell ⟨D,4,none⟩ x):=⟨heap_setCell_same W D 4 _ _ _ h.row⟩
theorem DRow.set5(h:DRow D g dn dp sB sT pm sU W)(x:Option Addr):DRow D g dn dp sB sT x sU (W.setCell ⟨D,5,none⟩ (.pointer x)):=⟨heap_setCell_same W D 5 _ _ _ h.row⟩
theorem DRow.set6(h:DRow D g dn dp sB sT pm sU W)(x:Value):DRow D g dn dp sB sT pm x (W.setCell ⟨D,6,none⟩ x):=⟨heap_setCell_same W D 6 _ _ _ h.row⟩
end
structure Pl(w0:World)(Y:Lay)(D:Nat)(Q:Nat→Nat)(n1 d:Nat)(dp:Int):Prop where
 N:Y.N=2∨Y.N=3
 e1:∀j,1≤j→j<Y.N→Y.n j=n1
 o0:okN (Y.n 0)
 o1:okN n1
 ld:d≤15
 dp:Y.N=3→dp=d
 hD:w0.heap.size≤D
 hQ:∀j,1≤j→j<Y.N→w0.heap.size≤Q j
 ht:∀b∈Y.tall,w0.heap.size≤b
 sep:∀i j,i<Y.N→j<Y.N→i≠j→∀b∈[Y.T i,Y.B i],b∉[Y.T j,Y.B j]
 nD:D∉Y.tall
 nQ:∀j,1≤j→j<Y.N→Q j∉Y.tall
 qD:∀j,1≤j→j<Y.N→Q j≠D
 qq:∀i j,1≤i→i<Y.N→1≤j→j<Y.N→i≠j→Q i≠Q j
def kk(n1 p j:Nat):Nat:=min (p-(j-1)*n1) n1
structure Pre(a:String→Addr)(w0:World)(Y:Lay)(D:Nat)(Q:Nat→Nat)(n1 d:Nat)(dp:Int)(GB cB GT cT p dn:Nat)(t:Nat→Tb)(W:World):Prop where
 pl:Pl w0 Y D Q n1 d dp
 row:DRow D (Y.n 0+(Y.N-1)*n1) dn dp (.slice (some ⟨GB,0,none⟩) (Y.N-1) cB) (.slice (some ⟨GT,0,none⟩) 1 cT) none (.slice none 0 0) W
 gb:∀j,1≤j→j<Y.N→W.cell? ⟨GB,j-1,none⟩=some (.pointer (some ⟨Q j,0,none⟩))
 gt:W.cell? ⟨GT,0,none⟩=some (.pointer (some ⟨Y.T 0,0,none⟩))
 re:Real a w0 (cut Y false) t W
 bx:∀j,1≤j→j<Y.N→build.BBox (Q j) n1 (kk n1 p j) (some ⟨Y.T j,0,none⟩) W
 tb:∀j,1≤j→j<Y.N→PAt (Y.T j) (Y.B j) n1 (kk n1 p j) W
 nGB:GB∉Y.tall∧GB≠D∧∀j,1≤j→j<Y.N→Q j≠GB
 nGT:GT∉Y.tall∧GT≠D∧∀j,1≤j→j<Y.N→Q j≠GT
 tn:∀j,1≤j→t j=Tb.new n1
 c1:cT=1
structure Mov(a:String→Addr)(w0:World)(Y:Lay)(D:Nat)(Q:Nat→Nat)(n1 d:Nat)(dp:Int)(GT cT GU cU V nx dn:Nat)(tk:Bool)(t:Nat→Tb)(W:World):Prop where
 pl:Pl w0 Y D Q n1 d dp
 row:∃sB,DRow D (Y.n 0+(Y.N-1)*n1) dn dp sB (.slice (some ⟨GT,0,none⟩) Y.N cT) (some ⟨V,0,none⟩) (if tk=true then .slice none 0 0 else .slice (some ⟨GU,0,none⟩) (Y.N-1) cU) W
 gt:∀j,j<Y.N→W.cell? ⟨GT,j,none⟩=some (.pointer (some ⟨Y.T j,0,none⟩))
 gu:∀j,1≤j→j<Y.N→W.cell? ⟨GU,j-1,none⟩=some (.pointer (some ⟨Y.T j,0,none⟩))
 re:Real a w0 Y t W
 ev:EvAt V Y d nx W
 hV:w0.heap.size≤V
 nV:V∉Y.tall∧V≠D
 nGT:GT∉Y.tall∧GT≠D∧GT≠V
 nGU:GU∉Y.tall∧GU≠D∧GU≠V
section
variable {a:String→Addr} {w0:World} {Y:Lay} {D:Nat} {Q:Nat→Nat} {n1 d:Nat} {dp:Int} {GB cB GT cT GU cU V p nx dn:Nat} {tk:Bool} {t:Nat→Tb} {W W':World}
theorem Pl.tin(h:Pl w0 Y D Q n1 d dp){j:Nat}(hj:j<Y.N):Y.T j∈Y.tall∧Y.B j∈Y.tall:=⟨Lay.tin hj (by simp),Lay.tin hj (by simp)⟩
def fpP(Y:Lay)(D:Nat)(Q:Nat→Nat)(GB GT:Nat):List Nat:=GB::GT::D::Q 1::Q (Y.N-1)::Y.tall
def fpM(Y:Lay)(D GT GU V:Nat):List Nat:=GT::GU::V::D::Y.tall
theorem fpP_q(hN:Y.N=2∨Y.N=3){j:Nat}(h1:1≤j)(hj:j<Y.N):Q j∈fpP Y D Q GB GT:=by
 obtain rfl|rfl:j=1∨j=Y.N-1:=by omega
 ·simp [fpP]
 ·simp [fpP]
theorem Pre.past{l:List Nat}{t':Nat→Tb}(h:Pre a w0 Y D Q n1 d dp GB cB GT cT p dn t W)(hp:Past l W W')(hl:∀b∈l,b∉fpP Y D Q GB GT∨b∈(cut Y false).tall)(hr:Real a w0 (cut Y false) t' W')(ht:∀j,1≤j→t' j=t j):Pre a w0 Y D Q n1 d dp GB cB GT cT p dn t' W':=by
 have no:∀x,x∈fpP Y D Q GB GT→x∉(cut Y false).tall→x∉l:=fun x hx hn e=>(hl x e).elim (fun q=>q hx) hn
 have ou:∀x,x∉Y.tall→x∉(cut Y false).tall:=fun x hx e=>hx (cut_tall h.pl.N e)
 have nt:∀j,1≤j→j<Y.N→∀b∈[Y.T j,Y.B j],b∉(cut Y false).tall:=fun j h1 hj b hb e=>by
  have:=h.pl.sep j 0 hj (by omega) (by omega) b hb
  rcases cut_off e with rfl|rfl <;> simp at this
 have oD:=no D (by simp [fpP]) (ou _ h.pl.nD);have oQ:=fun j h1 hj=>no (Q j) (fpP_q h.pl.N h1 hj) (ou _ (h.pl.nQ j h1 hj))
 have oT:=fun j h1 hj=>no (Y.T j) (by simp only [fpP,List.mem_cons];exact .inr (.inr (.inr (.inr (.inr (h.pl.tin hj).1))))) (nt j h1 hj _ (by simp))
 have oB:=fun j h1 hj=>no (Y.B j) (by simp only [fpP,List.mem_cons];exact .inr (.inr (.inr (.inr (.inr (h.pl.tin hj).2))))) (nt j h1 hj _ (by simp))
 exact⟨h.pl,h.row.past hp oD,fun j h1 hj=>hp.cell (h.gb j h1 hj) (no GB (by simp [fpP]) (ou _ h.nGB.1)),hp.cell h.gt (no GT (by simp [fpP]) (ou _ h.nGT.1)),hr,fun j h1 hj=>(h.bx j h1 hj).past hp (oQ j h1 hj),fun j h1 hj=>(h.tb j h1 hj).past hp (oT j h1 hj) (oB j h1 hj),h.nGB,h.nGT,fun j hj=>(ht j hj).trans (h.tn j hj),h.c1⟩
theorem Mov.past{l:List Nat}{t':Nat→Tb}(h:Mov a w0 Y D Q n1 d dp GT cT GU cU V nx dn tk t W)(hp:Past l W W')(hl:∀b∈l,b∉fpM Y D GT GU V∨b∈Y.tall)(hr:Real a w0 Y t' W'):Mov a w0 Y D Q n1 d dp GT cT GU cU V nx dn tk t' W':=by
 have no:∀x,x∈fpM Y D GT GU V→x∉Y.tall→x∉l:=fun x hx hn e=>(hl x e).elim (fun q=>q hx) hn
 have oD:=no D (by simp [fpM]) h.pl.nD;have oV:=no V (by simp [fpM]) h.nV.1;obtain⟨sB,hrow⟩:=h.row;exact⟨h.pl,⟨sB,hrow.past hp oD⟩,fun j hj=>hp.cell (h.gt j hj) (no GT (by simp [fpM]) h.nGT.1),fun j h1 hj=>hp.cell (h.gu j h1 hj) (no GU (by simp [fpM]) h.nGU.1),hr,h.ev.past hp oV,h.hV,h.nV,h.nGT,h.nGU⟩
theorem Pre.read(h:Pre a w0 Y D Q n1 d dp GB cB GT cT p dn t W)(hb:Below W.heap.size W W'):Pre a w0 Y D Q n1 d dp GB cB GT cT p dn t W':=
 h.past (Past.of (d:=[]) hb) (fun b hb=>by cases hb) (h.re.read hb) fun _ _=>rfl
theorem Mov.read(h:Mov a w0 Y D Q n1 d dp GT cT GU cU V nx dn tk t W)(hb:Below W.heap.size W W'):Mov a w0 Y D Q n1 d dp GT cT GU cU V nx dn tk t W':=
 h.past (Past.of (d:=[]) hb) (fun b hb=>by cases hb) (h.re.read hb)
end
def DAt(a:String→Addr)(w0:World)(Y:Lay)(D n1 d:Nat)(dp:Int)(q:Nat)(tk:Bool)(t:Nat→Tb)(fp:List Nat)(W:World):Prop:=
 (q<(Y.N-1)*n1∧tk=false∧∃Q GB cB GT cT,Pre a w0 Y D Q n1 d dp GB cB GT cT q q t W∧fp=fpP Y D Q GB GT) ∨
 ((Y.N-1)*n1≤q∧q≤Y.n 0+(Y.N-1)*n1∧∃Q GT cT GU cU V,Mov a w0 Y D Q n1 d dp GT cT GU cU V (q-(Y.N-1)*n1) q tk t W∧fp=fpM Y D GT GU V)
def rdy(Y:Lay)(n1 q:Nat):Bool:=decide ((Y.N-1)*n1≤q)
section
variable {a:String→Addr} {w0:World} {Y:Lay} {D n1 d:Nat} {dp:Int} {q:Nat} {tk:Bool} {t:Nat→Tb} {fp:List Nat} {W W':World}
theorem rdy_no(h:q<(Y.N-1)*n1):rdy Y n1 q=false:=decide_eq_false (by omega)
theorem rdy_yes(h:(Y.N-1)*n1≤q):rdy Y n1 q=true:=decide_eq_true h
theorem DAt.pl(h:DAt a w0 Y D n1 d dp q tk t fp W):∃Q,Pl w0 Y D Q n1 d dp:=by
 rcases h with⟨_,_,Q,_,_,_,_,h,_⟩|⟨_,_,Q,_,_,_,_,_,h,_⟩
 ·exact⟨Q,h.pl⟩
 ·exact⟨Q,h.pl⟩
theorem DAt.N(h:DAt a w0 Y D n1 d dp q tk t fp W):Y.N=2∨Y.N=3:=by obtain⟨Q,h⟩:=h.pl;exact h.N
theorem DAt.re(h:DAt a w0 Y D n1 d dp q tk t fp W):Real a w0 (cut Y (rdy Y n1 q)) t W:=by
 rcases h with⟨hq,_,Q,_,_,_,_,h,_⟩|⟨hq,_,Q,_,_,_,_,_,h,_⟩
 ·rw [rdy_no hq];exact h.re
 ·rw [rdy_yes hq];exact h.re
theorem DAt.le(h:DAt a w0 Y D n1 d dp q tk t fp W):q≤Y.n 0+(Y.N-1)*n1:=by
 rcases h with⟨hq,_⟩|⟨_,hq,_⟩ <;> omega
theorem DAt.tin(h:DAt a w0 Y D n1 d dp q tk t fp W):∀b∈Y.tall,b∈fp:=fun b hb=>by
 rcases h with⟨hq,_,Q,_,_,_,_,h,rfl⟩|⟨hq,_,Q,_,_,_,_,_,h,rfl⟩
 ·simp only [fpP,List.mem_cons];exact .inr (.inr (.inr (.inr (.inr hb))))
 ·simp only [fpM,List.mem_cons];exact .inr (.inr (.inr (.inr hb)))
theorem DAt.past{l:List Nat}{t':Nat→Tb}(h:DAt a w0 Y D n1 d dp q tk t fp W)(hp:Past l W W')(hl:∀b∈l,b∉fp∨b∈(cut Y (rdy Y n1 q)).tall)(hr:Real a w0 (cut Y (rdy Y n1 q)) t' W')(ht:rdy Y n1 q=false→∀j,1≤j→t' j=t j):DAt a w0 Y D n1 d dp q tk t' fp W':=by
 rcases h with⟨hq,h1,Q,GB,cB,GT,cT,h,rfl⟩|⟨hq,h1,Q,GT,cT,GU,cU,V,h,rfl⟩
 ·have e:=rdy_no hq
  rw [e] at hl hr;exact .inl ⟨hq,h1,Q,GB,cB,GT,cT,h.past hp hl hr (ht e),rfl⟩
 ·have e:=rdy_yes hq
  rw [e] at hl hr;exact .inr ⟨hq,h1,Q,GT,cT,GU,cU,V,h.past hp hl hr,rfl⟩
theorem DAt.read(h:DAt a w0 Y D n1 d dp q tk t fp W)(hb:Below W.heap.size W W'):DAt a w0 Y D n1 d dp q tk t fp W':=
 h.past (Past.of (d:=[]) hb) (fun b hb=>by cases hb) (h.re.read hb) fun _ _ _=>rfl
theorem DAt.aside{l:List Nat}(h:DAt a w0 Y D n1 d dp q tk t fp W)(hp:Past l W W')(hl:∀b∈l,w0.heap.size≤b∧b∉fp):DAt a w0 Y D n1 d dp q tk t fp W':=
 h.past hp (fun b hb=>.inl (hl b hb).2) (h.re.past hp fun b hb=>⟨(hl b hb).1,fun e=>(hl b hb).2 (h.tin b (cut_tall h.N e))⟩) fun _ _ _=>rfl
end
end dual
namespace node
open Go.ChangeShapes Go.WideShapes Go.ChangeAt Go.RowKit Go.Shelf swar under trap meter group probe lens tail call table evac dual
attribute [local go_sem] Oper.semAt_some stage.pureUpon move.stepUpon
structure NRow(X p d T:Nat)(k:Int)(pd:Option Addr)(W:World):Prop where
 row:W.heap[X]?=some (.cells #[.int .i64 (p:Nat),.int .i64 (d:Nat),.pointer (some ⟨T,0,none⟩),.int .i64 k,.pointer pd] 92 (0,0))
section
variable {X p d T:Nat} {k:Int} {pd:Option Addr} {W W':World}
theorem NRow.lt(h:NRow X p d T k pd W):X<W.heap.size:=(Array.getElem?_eq_some_iff.1 h.row).1
theorem NRow.keep(h:NRow X p d T k pd W)(hb:Below W.heap.size W W'):NRow X p d T k pd W':=⟨(hb.block X h.lt).trans h.row⟩
theorem NRow.past{l:List Nat}(h:NRow X p d T k pd W)(hp:Past l W W')(hX:X∉l):NRow X p d T k pd W':=⟨(hp.block X h.lt hX).trans h.row⟩
theorem NRow.fz(h:NRow X p d T k pd W)(i:Nat):W.frozen? ⟨X,i,none⟩=false:=frozen_of_row _ _ i _ _ h.row
theorem NRow.c0(h:NRow X p d T k pd W):W.cell? ⟨X,0,none⟩=some (.int .i64 (p:Nat)):=by rw [cell_of_row _ _ _ _ _ _ h.row];rfl
theorem NRow.c1(h:NRow X p d T k pd W):W.cell? ⟨X,1,none⟩=some (.int .i64 (d:Nat)):=by rw [cell_of_row _ _ _ _ _ _ h.row];rfl
theorem NRow.c2(h:NRow X p d T k pd W):W.cell? ⟨X,2,none⟩=some (.pointer (some ⟨T,0,none⟩)):=by rw [cell_of_row _ _ _ _ _ _ h.row];rfl
theorem NRow.c3(h:NRow X p d T k pd W):W.cell? ⟨X,3,none⟩=some (.int .i64 k):=by rw [cell_of_row _ _ _ _ _ _ h.row];rfl
theorem NRow.c4(h:NRow X p d T k pd W):W.cell? ⟨X,4,none⟩=some (.pointer pd):=by rw [cell_of_row _ _ _ _ _ _ h.row];rfl
theorem NRow.set0(h:NRow X p d T k pd W)(x:Nat):NRow X x d T k pd (W.setCell ⟨X,0,none⟩ (.int .i64 (x:Nat))):=⟨heap_setCell_same W X 0 _ _ _ h.row⟩
theorem NRow.set1(h:NRow X p d T k pd W)(x:Nat):NRow X p x T k pd (W.setCell ⟨X,1,none⟩ (.int .i64 (x:Nat))):=⟨heap_setCell_same W X 1 _ _ _ h.row⟩
theorem NRow.set2(h:NRow X p d T k pd W)(x:Nat):NRow X p d x k pd (W.setCell ⟨X,2,none⟩ (.pointer (some ⟨x,0,none⟩))):=⟨heap_setCell_same W X 2 _ _ _ h.row⟩
theorem NRow.set3(h:NRow X p d T k pd W)(x:Int):NRow X p d T x pd (W.setCell ⟨X,3,none⟩ (.int .i64 x)):=⟨heap_setCell_same W X 3 _ _ _ h.row⟩
theorem NRow.set4(h:NRow X p d T k pd W)(x:Option Addr):NRow X p d T k x (W.setCell ⟨X,4,none⟩ (.pointer x)):=⟨heap_setCell_same W X 4 _ _ _ h.row⟩
theorem NRow.of_box(p d T:Nat)(k:Int)(pd:Option Addr)(w:World):NRow w.heap.size p d T k pd (w.alloc (.cells #[.int .i64 (p:Nat),.int .i64 (d:Nat),.pointer (some ⟨T,0,none⟩),.int .i64 k,.pointer pd] 92)):=⟨World.alloc_heap_new w _⟩
end
theorem szNode:(Tryz.prog.info? 92).map (·.size)=some 5:=by kernel_rfl
theorem node_some(x:Addr)(w:World):(Op.equalIn 10000 25 (.pointer (some x)) (.pointer none)).run Tryz.prog w=.ok false w:=by
 obtain⟨j,hj,_⟩:=Option.map_eq_some_iff.1 szNode
 have h:∀d:Nat,(Op.equalIn (d+1) 25 (.pointer (some x)) (.pointer none)).run Tryz.prog w=.ok false w:=fun d=>by
  simp [Op.equalIn,run_underlying Tryz.underlying25,sizeOf,typeInfo,hj,sameAddr]
 exact h 9999
theorem node_none(w:World):(Op.equalIn 10000 25 (.pointer none) (.pointer none)).run Tryz.prog w=.ok true w:=by
 obtain⟨j,hj,_⟩:=Option.map_eq_some_iff.1 szNode
 have h:∀d:Nat,(Op.equalIn (d+1) 25 (.pointer none) (.pointer none)).run Tryz.prog w=.ok true w:=fun d=>by
  simp [Op.equalIn,run_underlying Tryz.underlying25,sizeOf,typeInfo,hj,sameAddr]
 exact h 9999
theorem szDl:(Tryz.prog.info? 197).map (·.size)=some 7:=by kernel_rfl
theorem dl_some(x:Addr)(w:World):(Op.equalIn 10000 90 (.pointer (some x)) (.pointer none)).run Tryz.prog w=.ok false w:=by
 obtain⟨j,hj,_⟩:=Option.map_eq_some_iff.1 szDl
 have h:∀d:Nat,(Op.equalIn (d+1) 90 (.pointer (some x)) (.pointer none)).run Tryz.prog w=.ok false w:=fun d=>by
  simp [Op.equalIn,run_underlying Tryz.underlying90,sizeOf,typeInfo,hj,sameAddr]
 exact h 9999
theorem dl_none(w:World):(Op.equalIn 10000 90 (.pointer none) (.pointer none)).run Tryz.prog w=.ok true w:=by
 obtain⟨j,hj,_⟩:=Option.map_eq_some_iff.1 szDl
 have h:∀d:Nat,(Op.equalIn (d+1) 90 (.pointer none) (.pointer none)).run Tryz.prog w=.ok true w:=fun d=>by
  simp [Op.equalIn,run_underlying Tryz.underlying90,sizeOf,typeInfo,hj,sameAddr]
 exact h 9999
section
variable {X p d T:Nat} {k:Int} {w:World}
theorem cur_off(h:NRow X p d T k none w):Calls Tryz.prog 52 #[.pointer (some ⟨X,0,none⟩)] w fun e w'=>e=.returned (.iface 86 (.pointer (some ⟨T,0,none⟩)))∧w=w':=by
 have c2:=h.c2;have c4:=h.c4;have hn:=dl_none;clear h
 go_enter Tryz.func52,Tryz.ntmps52
 go_wp2
 go_ret
 exact⟨rfl,rfl⟩
theorem cur_on{D:Nat}(h:NRow X p d T k (some ⟨D,0,none⟩) w):Calls Tryz.prog 52 #[.pointer (some ⟨X,0,none⟩)] w fun e w'=>e=.returned (.iface 90 (.pointer (some ⟨D,0,none⟩)))∧w=w':=by
 have c4:=h.c4;have hn:=dl_some;clear h
 go_enter Tryz.func52,Tryz.ntmps52
 go_wp2
 go_ret
 exact⟨rfl,rfl⟩
theorem pnew{l:List Nat}{w W:World}(hp:Past l w W){B:Nat}(hB:w.heap.size≤B)(i:Nat)(u:Value):Past l w (W.setCell ⟨B,i,none⟩ u):=⟨hp.os,hp.tape,hp.output,by simpa [World.setCell] using hp.size,fun k hk hn=>(Below.heap_setCell _ _ _ _ (by show k≠B;omega)).trans (hp.block k hk hn)⟩
set_option maxRecDepth 20000 in
theorem find_off{Q0:Nat}(h:NRow X p d T k none w)(lp:Option Addr)(key hs:Nat){l:List Nat}{R:Nat→Nat→Nat→Bool→World→Prop}(hl:∀b∈l,b<w.heap.size)
  (hc:∀W,Below w.heap.size w W→Calls Tryz.prog 212 #[.pointer (some ⟨T,0,none⟩),.agg #[.pointer lp],.int .u64 (key:Nat),.int .u64 (hs:Nat)] W fun e w'=>∃x y z b,e=.returned (.tuple #[group.entV x y z,.bool b])∧Past l W w'∧R x y z b w')
  (hR:∀x y z b w' B i u,R x y z b w'→w.heap.size≤B→R x y z b (w'.setCell ⟨B,i,none⟩ u)) :
  Calls Tryz.prog 16 #[.pointer (some ⟨X,0,none⟩),.agg #[.pointer lp],.int .u64 (key:Nat),.int .u64 (hs:Nat)] w fun e w'=>∃x y z b,e=.returned (.tuple #[group.entV x y z,.bool b])∧Past l w w'∧R x y z b w':=by
 have HH:=Lib.hid h;have hb2:=two_new w (.cells #[.pointer lp] 52) (.cells #[.int .u64 0,.int .u64 0,.int .u64 0] 44);have cU:=fun W (hb:Below w.heap.size w W)=>cur_off (HH.out.keep hb)
 have hV:=(EBox.second 0 0 0 w (.cells #[.pointer lp] 52)).keep (under.drew_below _);have hL0:((w.alloc (.cells #[.pointer lp] 52)).alloc (.cells #[.int .u64 0,.int .u64 0,.int .u64 0] 44)).cell? ⟨w.heap.size,0,none⟩=some (.pointer lp):=keepc (new_block _ _) (newc w _ _);have hL1:=keepc (under.drew_below _) hL0;have hb3:=under.below_step hb2 (under.drew_below _);have HC:=Lib.hid hc;have HL:=Lib.hid hl;have HR:=Lib.hid hR;clear h hc hl hR hb2 hL0
 go_enter Tryz.func16,Tryz.ntmps16
 go_upto_region 1 with (fail)
 go_region_with (first
  | (go_at_call 52;refine (cU _ hb3).mono ?_;rintro e w1 ⟨rfl,rfl⟩)
  | (go_at_call 212;refine (HC.out _ hb3).mono ?_;rintro e w2 ⟨x,y,z,b,rfl,hp2,hr2⟩;have hV2:=hV.past hp2 (fun e=>by have:=HL.out _ e;omega);have y0:=hV2.c0;have y1:=hV2.c1;have y2:=hV2.c2;have y3:=hV2.fz))
 all_goals
  have hV3:=hV2.set x y z;unfold set3 at hV3;have z0:=hV3.c0;have z1:=hV3.c1;have z2:=hV3.c2;have hp3:=pnew (pnew (pnew ((Past.of hb3).trans hp2) (Nat.le_succ _) 0 (.int .u64 (x:Nat))) (Nat.le_succ _) 1 (.int .u64 (y:Nat))) (Nat.le_succ _) 2 (.int .u64 (z:Nat));have hr3:=HR.out _ _ _ _ _ _ 2 (.int .u64 (z:Nat)) (HR.out _ _ _ _ _ _ 1 (.int .u64 (y:Nat)) (HR.out _ _ _ _ _ _ 0 (.int .u64 (x:Nat)) hr2 (Nat.le_succ _)) (Nat.le_succ _)) (Nat.le_succ _);clear y0 y1 y2 hV3 hV2 hp2 hr2 hV hL1;go_wp2;exact bodyPost_ret (v:=.tuple #[group.entV x y z,.bool b]) (by simp [results,Tryz.results16,go_sem,z0,z1,z2]) rfl ⟨x,y,z,b,rfl,hp3,hr3⟩
set_option maxRecDepth 20000 in
theorem find_on{D:Nat}(h:NRow X p d T k (some ⟨D,0,none⟩) w)(lp:Option Addr)(key hs:Nat){l:List Nat}{R:Nat→Nat→Nat→Bool→World→Prop}(hl:∀b∈l,b<w.heap.size)
  (hc:∀W,Below w.heap.size w W→Calls Tryz.prog 216 #[.pointer (some ⟨D,0,none⟩),.agg #[.pointer lp],.int .u64 (key:Nat),.int .u64 (hs:Nat)] W fun e w'=>∃x y z b,e=.returned (.tuple #[group.entV x y z,.bool b])∧Past l W w'∧R x y z b w')
  (hR:∀x y z b w' B i u,R x y z b w'→w.heap.size≤B→R x y z b (w'.setCell ⟨B,i,none⟩ u)) :
  Calls Tryz.prog 16 #[.pointer (some ⟨X,0,none⟩),.agg #[.pointer lp],.int .u64 (key:Nat),.int .u64 (hs:Nat)] w fun e w'=>∃x y z b,e=.returned (.tuple #[group.entV x y z,.bool b])∧Past l w w'∧R x y z b w':=by
 have HH:=Lib.hid h;have hb2:=two_new w (.cells #[.pointer lp] 52) (.cells #[.int .u64 0,.int .u64 0,.int .u64 0] 44);have cU:=fun W (hb:Below w.heap.size w W)=>cur_on (HH.out.keep hb)
 have hV:=(EBox.second 0 0 0 w (.cells #[.pointer lp] 52)).keep (under.drew_below _);have hL0:((w.alloc (.cells #[.pointer lp] 52)).alloc (.cells #[.int .u64 0,.int .u64 0,.int .u64 0] 44)).cell? ⟨w.heap.size,0,none⟩=some (.pointer lp):=keepc (new_block _ _) (newc w _ _);have hL1:=keepc (under.drew_below _) hL0;have hb3:=under.below_step hb2 (under.drew_below _);have HC:=Lib.hid hc;have HL:=Lib.hid hl;have HR:=Lib.hid hR;clear h hc hl hR hb2 hL0
 go_enter Tryz.func16,Tryz.ntmps16
 go_upto_region 1 with (fail)
 go_region_with (first
  | (go_at_call 52;refine (cU _ hb3).mono ?_;rintro e w1 ⟨rfl,rfl⟩)
  | (go_at_call 216;refine (HC.out _ hb3).mono ?_;rintro e w2 ⟨x,y,z,b,rfl,hp2,hr2⟩;have hV2:=hV.past hp2 (fun e=>by have:=HL.out _ e;omega);have y0:=hV2.c0;have y1:=hV2.c1;have y2:=hV2.c2;have y3:=hV2.fz))
 all_goals
  have hV3:=hV2.set x y z;unfold set3 at hV3;have z0:=hV3.c0;have z1:=hV3.c1;have z2:=hV3.c2;have hp3:=pnew (pnew (pnew ((Past.of hb3).trans hp2) (Nat.le_succ _) 0 (.int .u64 (x:Nat))) (Nat.le_succ _) 1 (.int .u64 (y:Nat))) (Nat.le_succ _) 2 (.int .u64 (z:Nat));have hr3:=HR.out _ _ _ _ _ _ 2 (.int .u64 (z:Nat)) (HR.out _ _ _ _ _ _ 1 (.int .u64 (y:Nat)) (HR.out _ _ _ _ _ _ 0 (.int .u64 (x:Nat)) hr2 (Nat.le_succ _)) (Nat.le_succ _)) (Nat.le_succ _);clear y0 y1 y2 hV3 hV2 hp2 hr2 hV hL1;go_wp2;exact bodyPost_ret (v:=.tuple #[group.entV x y z,.bool b]) (by simp [results,Tryz.results16,go_sem,z0,z1,z2]) rfl ⟨x,y,z,b,rfl,hp3,hr3⟩
set_option maxRecDepth 20000 in
theorem delete_off{Q0:Nat}(h:NRow X p d T k none w)(lp:Option Addr)(key hs:Nat){l:List Nat}{R:Nat→Nat→Nat→Bool→World→Prop}(hl:∀b∈l,b<w.heap.size)
  (hc:∀W,Below w.heap.size w W→Calls Tryz.prog 185 #[.pointer (some ⟨T,0,none⟩),.agg #[.pointer lp],.int .u64 (key:Nat),.int .u64 (hs:Nat)] W fun e w'=>∃x y z b,e=.returned (.tuple #[group.entV x y z,.bool b])∧Past l W w'∧R x y z b w')
  (hR:∀x y z b w' B i u,R x y z b w'→w.heap.size≤B→R x y z b (w'.setCell ⟨B,i,none⟩ u)) :
  Calls Tryz.prog 14 #[.pointer (some ⟨X,0,none⟩),.agg #[.pointer lp],.int .u64 (key:Nat),.int .u64 (hs:Nat)] w fun e w'=>∃x y z b,e=.returned (.tuple #[group.entV x y z,.bool b])∧Past l w w'∧R x y z b w':=by
 have HH:=Lib.hid h;have hb2:=two_new w (.cells #[.pointer lp] 52) (.cells #[.int .u64 0,.int .u64 0,.int .u64 0] 44);have cU:=fun W (hb:Below w.heap.size w W)=>cur_off (HH.out.keep hb)
 have hV:=(EBox.second 0 0 0 w (.cells #[.pointer lp] 52)).keep (under.drew_below _);have hL0:((w.alloc (.cells #[.pointer lp] 52)).alloc (.cells #[.int .u64 0,.int .u64 0,.int .u64 0] 44)).cell? ⟨w.heap.size,0,none⟩=some (.pointer lp):=keepc (new_block _ _) (newc w _ _);have hL1:=keepc (under.drew_below _) hL0;have hb3:=under.below_step hb2 (under.drew_below _);have HC:=Lib.hid hc;have HL:=Lib.hid hl;have HR:=Lib.hid hR;clear h hc hl hR hb2 hL0
 go_enter Tryz.func14,Tryz.ntmps14
 go_upto_region 1 with (fail)
 go_region_with (first
  | (go_at_call 52;refine (cU _ hb3).mono ?_;rintro e w1 ⟨rfl,rfl⟩)
  | (go_at_call 185;refine (HC.out _ hb3).mono ?_;rintro e w2 ⟨x,y,z,b,rfl,hp2,hr2⟩;have hV2:=hV.past hp2 (fun e=>by have:=HL.out _ e;omega);have y0:=hV2.c0;have y1:=hV2.c1;have y2:=hV2.c2;have y3:=hV2.fz))
 all_goals
  have hV3:=hV2.set x y z;unfold set3 at hV3;have z0:=hV3.c0;have z1:=hV3.c1;have z2:=hV3.c2;have hp3:=pnew (pnew (pnew ((Past.of hb3).trans hp2) (Nat.le_succ _) 0 (.int .u64 (x:Nat))) (Nat.le_succ _) 1 (.int .u64 (y:Nat))) (Nat.le_succ _) 2 (.int .u64 (z:Nat));have hr3:=HR.out _ _ _ _ _ _ 2 (.int .u64 (z:Nat)) (HR.out _ _ _ _ _ _ 1 (.int .u64 (y:Nat)) (HR.out _ _ _ _ _ _ 0 (.int .u64 (x:Nat)) hr2 (Nat.le_succ _)) (Nat.le_succ _)) (Nat.le_succ _);clear y0 y1 y2 hV3 hV2 hp2 hr2 hV hL1;go_wp2;exact bodyPost_ret (v:=.tuple #[group.entV x y z,.bool b]) (by simp [results,Tryz.results14,go_sem,z0,z1,z2]) rfl ⟨x,y,z,b,rfl,hp3,hr3⟩
set_option maxRecDepth 20000 in
theorem delete_on{D:Nat}(h:NRow X p d T k (some ⟨D,0,none⟩) w)(lp:Option Addr)(key hs:Nat){l:List Nat}{R:Nat→Nat→Nat→Bool→World→Prop}(hl:∀b∈l,b<w.heap.size)
  (hc:∀W,Below w.heap.size w W→Calls Tryz.prog 215 #[.pointer (some ⟨D,0,none⟩),.agg #[.pointer lp],.int .u64 (key:Nat),.int .u64 (hs:Nat)] W fun e w'=>∃x y z b,e=.returned (.tuple #[group.entV x y z,.bool b])∧Past l W w'∧R x y z b w')
  (hR:∀x y z b w' B i u,R x y z b w'→w.heap.size≤B→R x y z b (w'.setCell ⟨B,i,none⟩ u)) :
  Calls Tryz.prog 14 #[.pointer (some ⟨X,0,none⟩),.agg #[.pointer lp],.int .u64 (key:Nat),.int .u64 (hs:Nat)] w fun e w'=>∃x y z b,e=.returned (.tuple #[group.entV x y z,.bool b])∧Past l w w'∧R x y z b w':=by
 have HH:=Lib.hid h;have hb2:=two_new w (.cells #[.pointer lp] 52) (.cells #[.int .u64 0,.int .u64 0,.int .u64 0] 44);have cU:=fun W (hb:Below w.heap.size w W)=>cur_on (HH.out.keep hb)
 have hV:=(EBox.second 0 0 0 w (.cells #[.pointer lp] 52)).keep (under.drew_below _);have hL0:((w.alloc (.cells #[.pointer lp] 52)).alloc (.cells #[.int .u64 0,.int .u64 0,.int .u64 0] 44)).cell? ⟨w.heap.size,0,none⟩=some (.pointer lp):=keepc (new_block _ _) (newc w _ _);have hL1:=keepc (under.drew_below _) hL0;have hb3:=under.below_step hb2 (under.drew_below _);have HC:=Lib.hid hc;have HL:=Lib.hid hl;have HR:=Lib.hid hR;clear h hc hl hR hb2 hL0
 go_enter Tryz.func14,Tryz.ntmps14
 go_upto_region 1 with (fail)
 go_region_with (first
  | (go_at_call 52;refine (cU _ hb3).mono ?_;rintro e w1 ⟨rfl,rfl⟩)
  | (go_at_call 215;refine (HC.out _ hb3).mono ?_;rintro e w2 ⟨x,y,z,b,rfl,hp2,hr2⟩;have hV2:=hV.past hp2 (fun e=>by have:=HL.out _ e;omega);have y0:=hV2.c0;have y1:=hV2.c1;have y2:=hV2.c2;have y3:=hV2.fz))
 all_goals
  have hV3:=hV2.set x y z;unfold set3 at hV3;have z0:=hV3.c0;have z1:=hV3.c1;have z2:=hV3.c2;have hp3:=pnew (pnew (pnew ((Past.of hb3).trans hp2) (Nat.le_succ _) 0 (.int .u64 (x:Nat))) (Nat.le_succ _) 1 (.int .u64 (y:Nat))) (Nat.le_succ _) 2 (.int .u64 (z:Nat));have hr3:=HR.out _ _ _ _ _ _ 2 (.int .u64 (z:Nat)) (HR.out _ _ _ _ _ _ 1 (.int .u64 (y:Nat)) (HR.out _ _ _ _ _ _ 0 (.int .u64 (x:Nat)) hr2 (Nat.le_succ _)) (Nat.le_succ _)) (Nat.le_succ _);clear y0 y1 y2 hV3 hV2 hp2 hr2 hV hL1;go_wp2;exact bodyPost_ret (v:=.tuple #[group.entV x y z,.bool b]) (by simp [results,Tryz.results14,go_sem,z0,z1,z2]) rfl ⟨x,y,z,b,rfl,hp3,hr3⟩
set_option maxRecDepth 20000 in
theorem least_off{Q0:Nat}(h:NRow X p d T k none w)(lp:Option Addr)(key hs:Nat){l:List Nat}{R:Nat→Nat→Nat→Bool→World→Prop}(hl:∀b∈l,b<w.heap.size)
  (hc:∀W,Below w.heap.size w W→Calls Tryz.prog 213 #[.pointer (some ⟨T,0,none⟩),.agg #[.pointer lp],.int .u64 (key:Nat),.int .u64 (hs:Nat)] W fun e w'=>∃x y z b,e=.returned (.tuple #[group.entV x y z,.bool b])∧Past l W w'∧R x y z b w')
  (hR:∀x y z b w' B i u,R x y z b w'→w.heap.size≤B→R x y z b (w'.setCell ⟨B,i,none⟩ u)) :
  Calls Tryz.prog 19 #[.pointer (some ⟨X,0,none⟩),.agg #[.pointer lp],.int .u64 (key:Nat),.int .u64 (hs:Nat)] w fun e w'=>∃x y z b,e=.returned (.tuple #[group.entV x y z,.bool b])∧Past l w w'∧R x y z b w':=by
 have HH:=Lib.hid h;have hb2:=two_new w (.cells #[.pointer lp] 52) (.cells #[.int .u64 0,.int .u64 0,.int .u64 0] 44);have cU:=fun W (hb:Below w.heap.size w W)=>cur_off (HH.out.keep hb)
 have hV:=(EBox.second 0 0 0 w (.cells #[.pointer lp] 52)).keep (under.drew_below _);have hL0:((w.alloc (.cells #[.pointer lp] 52)).alloc (.cells #[.int .u64 0,.int .u64 0,.int .u64 0] 44)).cell? ⟨w.heap.size,0,none⟩=some (.pointer lp):=keepc (new_block _ _) (newc w _ _);have hL1:=keepc (under.drew_below _) hL0;have hb3:=under.below_step hb2 (under.drew_below _);have HC:=Lib.hid hc;have HL:=Lib.hid hl;have HR:=Lib.hid hR;clear h hc hl hR hb2 hL0
 go_enter Tryz.func19,Tryz.ntmps19
 go_upto_region 1 with (fail)
 go_region_with (first
  | (go_at_call 52;refine (cU _ hb3).mono ?_;rintro e w1 ⟨rfl,rfl⟩)
  | (go_at_call 213;refine (HC.out _ hb3).mono ?_;rintro e w2 ⟨x,y,z,b,rfl,hp2,hr2⟩;have hV2:=hV.past hp2 (fun e=>by have:=HL.out _ e;omega);have y0:=hV2.c0;have y1:=hV2.c1;have y2:=hV2.c2;have y3:=hV2.fz))
 all_goals
  have hV3:=hV2.set x y z;unfold set3 at hV3;have z0:=hV3.c0;have z1:=hV3.c1;have z2:=hV3.c2;have hp3:=pnew (pnew (pnew ((Past.of hb3).trans hp2) (Nat.le_succ _) 0 (.int .u64 (x:Nat))) (Nat.le_succ _) 1 (.int .u64 (y:Nat))) (Nat.le_succ _) 2 (.int .u64 (z:Nat));have hr3:=HR.out _ _ _ _ _ _ 2 (.int .u64 (z:Nat)) (HR.out _ _ _ _ _ _ 1 (.int .u64 (y:Nat)) (HR.out _ _ _ _ _ _ 0 (.int .u64 (x:Nat)) hr2 (Nat.le_succ _)) (Nat.le_succ _)) (Nat.le_succ _);clear y0 y1 y2 hV3 hV2 hp2 hr2 hV hL1;go_wp2;exact bodyPost_ret (v:=.tuple #[group.entV x y z,.bool b]) (by simp [results,Tryz.results19,go_sem,z0,z1,z2]) rfl ⟨x,y,z,b,rfl,hp3,hr3⟩
set_option maxRecDepth 20000 in
theorem least_on{D:Nat}(h:NRow X p d T k (some ⟨D,0,none⟩) w)(lp:Option Addr)(key hs:Nat){l:List Nat}{R:Nat→Nat→Nat→Bool→World→Prop}(hl:∀b∈l,b<w.heap.size)
  (hc:∀W,Below w.heap.size w W→Calls Tryz.prog 218 #[.pointer (some ⟨D,0,none⟩),.agg #[.pointer lp],.int .u64 (key:Nat),.int .u64 (hs:Nat)] W fun e w'=>∃x y z b,e=.returned (.tuple #[group.entV x y z,.bool b])∧Past l W w'∧R x y z b w')
  (hR:∀x y z b w' B i u,R x y z b w'→w.heap.size≤B→R x y z b (w'.setCell ⟨B,i,none⟩ u)) :
  Calls Tryz.prog 19 #[.pointer (some ⟨X,0,none⟩),.agg #[.pointer lp],.int .u64 (key:Nat),.int .u64 (hs:Nat)] w fun e w'=>∃x y z b,e=.returned (.tuple #[group.entV x y z,.bool b])∧Past l w w'∧R x y z b w':=by
 have HH:=Lib.hid h;have hb2:=two_new w (.cells #[.pointer lp] 52) (.cells #[.int .u64 0,.int .u64 0,.int .u64 0] 44);have cU:=fun W (hb:Below w.heap.size w W)=>cur_on (HH.out.keep hb)
 have hV:=(EBox.second 0 0 0 w (.cells #[.pointer lp] 52)).keep (under.drew_below _);have hL0:((w.alloc (.cells #[.pointer lp] 52)).alloc (.cells #[.int .u64 0,.int .u64 0,.int .u64 0] 44)).cell? ⟨w.heap.size,0,none⟩=some (.pointer lp):=keepc (new_block _ _) (newc w _ _);have hL1:=keepc (under.drew_below _) hL0;have hb3:=under.below_step hb2 (under.drew_below _);have HC:=Lib.hid hc;have HL:=Lib.hid hl;have HR:=Lib.hid hR;clear h hc hl hR hb2 hL0
 go_enter Tryz.func19,Tryz.ntmps19
 go_upto_region 1 with (fail)
 go_region_with (first
  | (go_at_call 52;refine (cU _ hb3).mono ?_;rintro e w1 ⟨rfl,rfl⟩)
  | (go_at_call 218;refine (HC.out _ hb3).mono ?_;rintro e w2 ⟨x,y,z,b,rfl,hp2,hr2⟩;have hV2:=hV.past hp2 (fun e=>by have:=HL.out _ e;omega);have y0:=hV2.c0;have y1:=hV2.c1;have y2:=hV2.c2;have y3:=hV2.fz))
 all_goals
  have hV3:=hV2.set x y z;unfold set3 at hV3;have z0:=hV3.c0;have z1:=hV3.c1;have z2:=hV3.c2;have hp3:=pnew (pnew (pnew ((Past.of hb3).trans hp2) (Nat.le_succ _) 0 (.int .u64 (x:Nat))) (Nat.le_succ _) 1 (.int .u64 (y:Nat))) (Nat.le_succ _) 2 (.int .u64 (z:Nat));have hr3:=HR.out _ _ _ _ _ _ 2 (.int .u64 (z:Nat)) (HR.out _ _ _ _ _ _ 1 (.int .u64 (y:Nat)) (HR.out _ _ _ _ _ _ 0 (.int .u64 (x:Nat)) hr2 (Nat.le_succ _)) (Nat.le_succ _)) (Nat.le_succ _);clear y0 y1 y2 hV3 hV2 hp2 hr2 hV hL1;go_wp2;exact bodyPost_ret (v:=.tuple #[group.entV x y z,.bool b]) (by simp [results,Tryz.results19,go_sem,z0,z1,z2]) rfl ⟨x,y,z,b,rfl,hp3,hr3⟩
end
end node
end Go.Proofs.YtdplhgpeggcmdaaGreatDoor
