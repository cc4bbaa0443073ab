/- dual: where a dual lies, and what it holds. -/
import Derived.Test.YtdplhgpeggcmdaaGreatDoorEvacNew
import Derived.Test.YtdplhgpeggcmdaaGreatDoorBuildFns
import Derived.Test.YtdplhgpeggcmdaaGreatDoorDualIM
import Derived.LoopTactic
namespace Go.Proofs.YtdplhgpeggcmdaaGreatDoor.dual
open Go.ChangeShapes Go.WideShapes Go.ChangeAt Go.RowKit Go.Shelf swar under trap meter group probe lens tail call table evac
set_option linter.unusedSimpArgs false
set_option linter.unusedVariables false

/-! ### the tables that may be asked -/
/-- as long as the new tables aren't ready, the old one alone -/
def cut (Y:Lay) (rd:Bool):Lay:=⟨if rd = true then Y.N else 1,Y.T,Y.B,Y.F,Y.n⟩
theorem cut_yes (Y:Lay):cut Y true = Y:=rfl
theorem cut_pos {Y:Lay} (hN:Y.N = 2 ∨ Y.N = 3) (rd:Bool):0 < (cut Y rd).N:=by
 cases rd
 ·exact Nat.one_pos
 ·show 0 < Y.N; omega
theorem cut_le {Y:Lay} (hN:Y.N = 2 ∨ Y.N = 3) (rd:Bool):(cut Y rd).N ≤ Y.N:=by
 cases rd
 ·show 1 ≤ Y.N; omega
 ·exact Nat.le_refl _
theorem cut_tall {Y:Lay} (hN:Y.N = 2 ∨ Y.N = 3) {rd:Bool} {b:Nat} (h:b ∈ (cut Y rd).tall):b ∈ Y.tall:=by
 obtain ⟨i,hi,hb⟩:=List.mem_flatMap.1 h
 have:=List.mem_range.1 hi
 exact Lay.tin (by have:=cut_le hN rd; omega) hb
theorem cut_off {Y:Lay} {b:Nat} (h:b ∈ (cut Y false).tall):b = Y.T 0 ∨ b = Y.B 0:=by
 obtain ⟨i,hi,hb⟩:=List.mem_flatMap.1 h
 have : i < 1:=List.mem_range.1 hi
 obtain rfl:i = 0:=by omega
 simpa [cut] using hb
theorem js_lt {Y:Lay} (hN:Y.N = 2 ∨ Y.N = 3) (rd:Bool) (d h:Nat):∀ i ∈ js rd Y.N d h,i < (cut Y rd).N:=fun i hi => by
 cases rd
 ·obtain rfl:i = 0:=by simpa [js] using hi
  exact Nat.one_pos
 ·have q:=tgt_lt hN d h
  have : i = tgt Y.N d h ∨ i = 0:=by simpa [js] using hi
  show i < Y.N
  rcases this with rfl | rfl
  ·exact q
  ·omega
/-! ### a dual's box -/
structure DRow (D g dn:Nat) (dp:Int) (sB sT:Value) (pm:Option Addr) (sU:Value) (W:World):Prop where
 row:W.heap[D]? = some (.cells #[.int .i64 (g:Nat),.int .i64 (dn:Nat),.int .i64 dp,sB,sT,.pointer pm,sU] 197 (0,0))
section
variable {D g dn:Nat} {dp:Int} {sB sT:Value} {pm:Option Addr} {sU:Value} {W W':World}
theorem DRow.lt (h:DRow D g dn dp sB sT pm sU W):D < W.heap.size:=(Array.getElem?_eq_some_iff.1 h.row).1
theorem DRow.keep (h:DRow D g dn dp sB sT pm sU W) (hb:Below W.heap.size W W'):DRow D g dn dp sB sT pm sU W':=⟨(hb.block D h.lt).trans h.row⟩
theorem DRow.past {l:List Nat} (h:DRow D g dn dp sB sT pm sU W) (hp:Past l W W') (hD:D ∉ l):DRow D g dn dp sB sT pm sU W':=⟨(hp.block D h.lt hD).trans h.row⟩
theorem DRow.fz (h:DRow D g dn dp sB sT pm sU W) (i:Nat):W.frozen? ⟨D,i,none⟩ = false:=frozen_of_row _ _ i _ _ h.row
theorem DRow.c0 (h:DRow D g dn dp sB sT pm sU W):W.cell? ⟨D,0,none⟩ = some (.int .i64 (g:Nat)):=by rw [cell_of_row _ _ _ _ _ _ h.row]; rfl
theorem DRow.c1 (h:DRow D g dn dp sB sT pm sU W):W.cell? ⟨D,1,none⟩ = some (.int .i64 (dn:Nat)):=by rw [cell_of_row _ _ _ _ _ _ h.row]; rfl
theorem DRow.c2 (h:DRow D g dn dp sB sT pm sU W):W.cell? ⟨D,2,none⟩ = some (.int .i64 dp):=by rw [cell_of_row _ _ _ _ _ _ h.row]; rfl
theorem DRow.c3 (h:DRow D g dn dp sB sT pm sU W):W.cell? ⟨D,3,none⟩ = some sB:=by rw [cell_of_row _ _ _ _ _ _ h.row]; rfl
theorem DRow.c4 (h:DRow D g dn dp sB sT pm sU W):W.cell? ⟨D,4,none⟩ = some sT:=by rw [cell_of_row _ _ _ _ _ _ h.row]; rfl
theorem DRow.c5 (h:DRow D g dn dp sB sT pm sU W):W.cell? ⟨D,5,none⟩ = some (.pointer pm):=by rw [cell_of_row _ _ _ _ _ _ h.row]; rfl
theorem DRow.c6 (h:DRow D g dn dp sB sT pm sU W):W.cell? ⟨D,6,none⟩ = some sU:=by rw [cell_of_row _ _ _ _ _ _ h.row]; rfl
theorem DRow.set0 (h:DRow D g dn dp sB sT pm sU W) (x:Nat):DRow D x dn dp sB sT pm sU (W.setCell ⟨D,0,none⟩ (.int .i64 (x:Nat))):=⟨heap_setCell_same W D 0 _ _ _ h.row⟩
theorem DRow.set1 (h:DRow D g dn dp sB sT pm sU W) (x:Nat):DRow D g x dp sB sT pm sU (W.setCell ⟨D,1,none⟩ (.int .i64 (x:Nat))):=⟨heap_setCell_same W D 1 _ _ _ h.row⟩
theorem DRow.set3 (h:DRow D g dn dp sB sT pm sU W) (x:Value):DRow D g dn dp x sT pm sU (W.setCell ⟨D,3,none⟩ x):=⟨heap_setCell_same W D 3 _ _ _ h.row⟩
theorem DRow.set4 (h:DRow D g dn dp sB sT pm sU W) (x:Value):DRow D g dn dp sB x pm sU (W.setCell ⟨D,4,none⟩ x):=⟨heap_setCell_same W D 4 _ _ _ h.row⟩
theorem DRow.set5 (h:DRow D g dn dp sB sT pm sU W) (x:Option Addr):DRow D g dn dp sB sT x sU (W.setCell ⟨D,5,none⟩ (.pointer x)):=⟨heap_setCell_same W D 5 _ _ _ h.row⟩
theorem DRow.set6 (h:DRow D g dn dp sB sT pm sU W) (x:Value):DRow D g dn dp sB sT pm x (W.setCell ⟨D,6,none⟩ x):=⟨heap_setCell_same W D 6 _ _ _ h.row⟩
end
/-! ### where it lies -/
/-- the blocks of a dual: apart, and new -/
structure Pl (w0:World) (Y:Lay) (D:Nat) (Q:Nat → Nat) (n1 d:Nat) (dp:Int):Prop where
 N:Y.N = 2 ∨ Y.N = 3
 e1:∀ j,1 ≤ j → j < Y.N → Y.n j = n1
 o0:okN (Y.n 0)
 o1:okN n1
 ld:d ≤ 15
 dp:Y.N = 3 → dp = d
 hD:w0.heap.size ≤ D
 hQ:∀ j,1 ≤ j → j < Y.N → w0.heap.size ≤ Q j
 ht:∀ b ∈ Y.tall,w0.heap.size ≤ b
 sep:∀ i j,i < Y.N → j < Y.N → i ≠ j → ∀ b ∈ [Y.T i,Y.B i],b ∉ [Y.T j,Y.B j]
 nD:D ∉ Y.tall
 nQ:∀ j,1 ≤ j → j < Y.N → Q j ∉ Y.tall
 qD:∀ j,1 ≤ j → j < Y.N → Q j ≠ D
 qq:∀ i j,1 ≤ i → i < Y.N → 1 ≤ j → j < Y.N → i ≠ j → Q i ≠ Q j
/-- so many groups of table j are prepared -/
def kk (n1 p j:Nat):Nat:=min (p - (j - 1) * n1) n1
/-- while the new tables are prepared: p groups of them are -/
structure Pre (a:String → Addr) (w0:World) (Y:Lay) (D:Nat) (Q:Nat → Nat) (n1 d:Nat) (dp:Int) (GB cB GT cT p dn:Nat) (t:Nat → Tb) (W:World):Prop where
 pl:Pl w0 Y D Q n1 d dp
 row:DRow D (Y.n 0 + (Y.N - 1) * n1) dn dp (.slice (some ⟨GB,0,none⟩) (Y.N - 1) cB) (.slice (some ⟨GT,0,none⟩) 1 cT) none (.slice none 0 0) W
 gb:∀ j,1 ≤ j → j < Y.N → W.cell? ⟨GB,j - 1,none⟩ = some (.pointer (some ⟨Q j,0,none⟩))
 gt:W.cell? ⟨GT,0,none⟩ = some (.pointer (some ⟨Y.T 0,0,none⟩))
 re:Real a w0 (cut Y false) t W
 bx:∀ j,1 ≤ j → j < Y.N → build.BBox (Q j) n1 (kk n1 p j) (some ⟨Y.T j,0,none⟩) W
 tb:∀ j,1 ≤ j → j < Y.N → PAt (Y.T j) (Y.B j) n1 (kk n1 p j) W
 nGB:GB ∉ Y.tall ∧ GB ≠ D ∧ ∀ j,1 ≤ j → j < Y.N → Q j ≠ GB
 nGT:GT ∉ Y.tall ∧ GT ≠ D ∧ ∀ j,1 ≤ j → j < Y.N → Q j ≠ GT
 tn:∀ j,1 ≤ j → t j = Tb.new n1
 c1:cT = 1
/-- while the old one is moved: nx groups of it are -/
structure Mov (a:String → Addr) (w0:World) (Y:Lay) (D:Nat) (Q:Nat → Nat) (n1 d:Nat) (dp:Int) (GT cT GU cU V nx dn:Nat) (tk:Bool) (t:Nat → Tb) (W:World):Prop where
 pl:Pl w0 Y D Q n1 d dp
 row:∃ sB,DRow D (Y.n 0 + (Y.N - 1) * n1) dn dp sB (.slice (some ⟨GT,0,none⟩) Y.N cT) (some ⟨V,0,none⟩) (if tk = true then .slice none 0 0 else .slice (some ⟨GU,0,none⟩) (Y.N - 1) cU) W
 gt:∀ j,j < Y.N → W.cell? ⟨GT,j,none⟩ = some (.pointer (some ⟨Y.T j,0,none⟩))
 gu:∀ j,1 ≤ j → j < Y.N → W.cell? ⟨GU,j - 1,none⟩ = some (.pointer (some ⟨Y.T j,0,none⟩))
 re:Real a w0 Y t W
 ev:EvAt V Y d nx W
 hV:w0.heap.size ≤ V
 nV:V ∉ Y.tall ∧ V ≠ D
 nGT:GT ∉ Y.tall ∧ GT ≠ D ∧ GT ≠ V
 nGU:GU ∉ Y.tall ∧ GU ≠ D ∧ GU ≠ V
section
variable {a:String → Addr} {w0:World} {Y:Lay} {D:Nat} {Q:Nat → Nat} {n1 d:Nat} {dp:Int} {GB cB GT cT GU cU V p nx dn:Nat} {tk:Bool} {t:Nat → Tb} {W W':World}
theorem Pl.tin (h:Pl w0 Y D Q n1 d dp) {j:Nat} (hj:j < Y.N):Y.T j ∈ Y.tall ∧ Y.B j ∈ Y.tall:=⟨Lay.tin hj (by simp),Lay.tin hj (by simp)⟩
/-- the blocks of a dual whose new tables are prepared, of one that is moved -/
def fpP (Y:Lay) (D:Nat) (Q:Nat → Nat) (GB GT:Nat):List Nat:=GB :: GT :: D :: Q 1 :: Q (Y.N - 1) :: Y.tall
def fpM (Y:Lay) (D GT GU V:Nat):List Nat:=GT :: GU :: V :: D :: Y.tall
theorem fpP_q (hN:Y.N = 2 ∨ Y.N = 3) {j:Nat} (h1:1 ≤ j) (hj:j < Y.N):Q j ∈ fpP Y D Q GB GT:=by
 obtain rfl | rfl:j = 1 ∨ j = Y.N - 1:=by omega
 ·simp [fpP]
 ·simp [fpP]
theorem Pre.past {l:List Nat} {t':Nat → Tb} (h:Pre a w0 Y D Q n1 d dp GB cB GT cT p dn t W) (hp:Past l W W') (hl:∀ b ∈ l,b ∉ fpP Y D Q GB GT ∨ b ∈ (cut Y false).tall) (hr:Real a w0 (cut Y false) t' W') (ht:∀ j,1 ≤ j → t' j = t j):Pre a w0 Y D Q n1 d dp GB cB GT cT p dn t' W':=by
 have no:∀ x,x ∈ fpP Y D Q GB GT → x ∉ (cut Y false).tall → x ∉ l:=fun x hx hn e => (hl x e).elim (fun q => q hx) hn
 have ou:∀ x,x ∉ Y.tall → x ∉ (cut Y false).tall:=fun x hx e => hx (cut_tall h.pl.N e)
 have nt:∀ j,1 ≤ j → j < Y.N → ∀ b ∈ [Y.T j,Y.B j],b ∉ (cut Y false).tall:=fun j h1 hj b hb e => by
  have:=h.pl.sep j 0 hj (by omega) (by omega) b hb
  rcases cut_off e with rfl | rfl <;> simp at this
 have oD:=no D (by simp [fpP]) (ou _ h.pl.nD)
 have oQ:=fun j h1 hj => no (Q j) (fpP_q h.pl.N h1 hj) (ou _ (h.pl.nQ j h1 hj))
 have oT:=fun j h1 hj => no (Y.T j) (by simp only [fpP,List.mem_cons]; exact .inr (.inr (.inr (.inr (.inr (h.pl.tin hj).1))))) (nt j h1 hj _ (by simp))
 have oB:=fun j h1 hj => no (Y.B j) (by simp only [fpP,List.mem_cons]; exact .inr (.inr (.inr (.inr (.inr (h.pl.tin hj).2))))) (nt j h1 hj _ (by simp))
 exact ⟨h.pl,h.row.past hp oD,fun j h1 hj => hp.cell (h.gb j h1 hj) (no GB (by simp [fpP]) (ou _ h.nGB.1)),hp.cell h.gt (no GT (by simp [fpP]) (ou _ h.nGT.1)),hr,fun j h1 hj => (h.bx j h1 hj).past hp (oQ j h1 hj),fun j h1 hj => (h.tb j h1 hj).past hp (oT j h1 hj) (oB j h1 hj),h.nGB,h.nGT,fun j hj => (ht j hj).trans (h.tn j hj),h.c1⟩
theorem Mov.past {l:List Nat} {t':Nat → Tb} (h:Mov a w0 Y D Q n1 d dp GT cT GU cU V nx dn tk t W) (hp:Past l W W') (hl:∀ b ∈ l,b ∉ fpM Y D GT GU V ∨ b ∈ Y.tall) (hr:Real a w0 Y t' W'):Mov a w0 Y D Q n1 d dp GT cT GU cU V nx dn tk t' W':=by
 have no:∀ x,x ∈ fpM Y D GT GU V → x ∉ Y.tall → x ∉ l:=fun x hx hn e => (hl x e).elim (fun q => q hx) hn
 have oD:=no D (by simp [fpM]) h.pl.nD
 have oV:=no V (by simp [fpM]) h.nV.1
 obtain ⟨sB,hrow⟩:=h.row
 exact ⟨h.pl,⟨sB,hrow.past hp oD⟩,fun j hj => hp.cell (h.gt j hj) (no GT (by simp [fpM]) h.nGT.1),fun j h1 hj => hp.cell (h.gu j h1 hj) (no GU (by simp [fpM]) h.nGU.1),hr,h.ev.past hp oV,h.hV,h.nV,h.nGT,h.nGU⟩
theorem Pre.read (h:Pre a w0 Y D Q n1 d dp GB cB GT cT p dn t W) (hb:Below W.heap.size W W'):Pre a w0 Y D Q n1 d dp GB cB GT cT p dn t W':=
 h.past (Past.of (d:=[]) hb) (fun b hb => by cases hb) (h.re.read hb) fun _ _ => rfl
theorem Mov.read (h:Mov a w0 Y D Q n1 d dp GT cT GU cU V nx dn tk t W) (hb:Below W.heap.size W W'):Mov a w0 Y D Q n1 d dp GT cT GU cU V nx dn tk t W':=
 h.past (Past.of (d:=[]) hb) (fun b hb => by cases hb) (h.re.read hb)
end
/-- a dual of which q steps are done; fp: its blocks -/
def DAt (a:String → Addr) (w0:World) (Y:Lay) (D n1 d:Nat) (dp:Int) (q:Nat) (tk:Bool) (t:Nat → Tb) (fp:List Nat) (W:World):Prop:=
 (q < (Y.N - 1) * n1 ∧ tk = false ∧ ∃ Q GB cB GT cT,Pre a w0 Y D Q n1 d dp GB cB GT cT q q t W ∧ fp = fpP Y D Q GB GT) ∨
 ((Y.N - 1) * n1 ≤ q ∧ q ≤ Y.n 0 + (Y.N - 1) * n1 ∧ ∃ Q GT cT GU cU V,Mov a w0 Y D Q n1 d dp GT cT GU cU V (q - (Y.N - 1) * n1) q tk t W ∧ fp = fpM Y D GT GU V)
/-- are the new tables ready? -/
def rdy (Y:Lay) (n1 q:Nat):Bool:=decide ((Y.N - 1) * n1 ≤ q)
section
variable {a:String → Addr} {w0:World} {Y:Lay} {D n1 d:Nat} {dp:Int} {q:Nat} {tk:Bool} {t:Nat → Tb} {fp:List Nat} {W W':World}
theorem rdy_no (h:q < (Y.N - 1) * n1):rdy Y n1 q = false:=decide_eq_false (by omega)
theorem rdy_yes (h:(Y.N - 1) * n1 ≤ q):rdy Y n1 q = true:=decide_eq_true h
theorem DAt.pl (h:DAt a w0 Y D n1 d dp q tk t fp W):∃ Q,Pl w0 Y D Q n1 d dp:=by
 rcases h with ⟨_,_,Q,_,_,_,_,h,_⟩ | ⟨_,_,Q,_,_,_,_,_,h,_⟩
 ·exact ⟨Q,h.pl⟩
 ·exact ⟨Q,h.pl⟩
theorem DAt.N (h:DAt a w0 Y D n1 d dp q tk t fp W):Y.N = 2 ∨ Y.N = 3:=by obtain ⟨Q,h⟩:=h.pl; exact h.N
theorem DAt.re (h:DAt a w0 Y D n1 d dp q tk t fp W):Real a w0 (cut Y (rdy Y n1 q)) t W:=by
 rcases h with ⟨hq,_,Q,_,_,_,_,h,_⟩ | ⟨hq,_,Q,_,_,_,_,_,h,_⟩
 ·rw [rdy_no hq]; exact h.re
 ·rw [rdy_yes hq]; exact h.re
theorem DAt.le (h:DAt a w0 Y D n1 d dp q tk t fp W):q ≤ Y.n 0 + (Y.N - 1) * n1:=by
 rcases h with ⟨hq,_⟩ | ⟨_,hq,_⟩ <;> omega
theorem DAt.tin (h:DAt a w0 Y D n1 d dp q tk t fp W):∀ b ∈ Y.tall,b ∈ fp:=fun b hb => by
 rcases h with ⟨hq,_,Q,_,_,_,_,h,rfl⟩ | ⟨hq,_,Q,_,_,_,_,_,h,rfl⟩
 ·simp only [fpP,List.mem_cons]; exact .inr (.inr (.inr (.inr (.inr hb))))
 ·simp only [fpM,List.mem_cons]; exact .inr (.inr (.inr (.inr hb)))
theorem DAt.past {l:List Nat} {t':Nat → Tb} (h:DAt a w0 Y D n1 d dp q tk t fp W) (hp:Past l W W') (hl:∀ b ∈ l,b ∉ fp ∨ b ∈ (cut Y (rdy Y n1 q)).tall) (hr:Real a w0 (cut Y (rdy Y n1 q)) t' W') (ht:rdy Y n1 q = false → ∀ j,1 ≤ j → t' j = t j):DAt a w0 Y D n1 d dp q tk t' fp W':=by
 rcases h with ⟨hq,h1,Q,GB,cB,GT,cT,h,rfl⟩ | ⟨hq,h1,Q,GT,cT,GU,cU,V,h,rfl⟩
 ·have e:=rdy_no hq
  rw [e] at hl hr
  exact .inl ⟨hq,h1,Q,GB,cB,GT,cT,h.past hp hl hr (ht e),rfl⟩
 ·have e:=rdy_yes hq
  rw [e] at hl hr
  exact .inr ⟨hq,h1,Q,GT,cT,GU,cU,V,h.past hp hl hr,rfl⟩
theorem DAt.read (h:DAt a w0 Y D n1 d dp q tk t fp W) (hb:Below W.heap.size W W'):DAt a w0 Y D n1 d dp q tk t fp W':=
 h.past (Past.of (d:=[]) hb) (fun b hb => by cases hb) (h.re.read hb) fun _ _ _ => rfl
/-- a step that writes none of its blocks -/
theorem DAt.aside {l:List Nat} (h:DAt a w0 Y D n1 d dp q tk t fp W) (hp:Past l W W') (hl:∀ b ∈ l,w0.heap.size ≤ b ∧ b ∉ fp):DAt a w0 Y D n1 d dp q tk t fp W':=
 h.past hp (fun b hb => .inl (hl b hb).2) (h.re.past hp fun b hb => ⟨(hl b hb).1,fun e => (hl b hb).2 (h.tin b (cut_tall h.N e))⟩) fun _ _ _ => rfl
end
end Go.Proofs.YtdplhgpeggcmdaaGreatDoor.dual
