/- EvDuRf: facts and laws for the walks. -/
import Derived.Test.YtdplhgpeggcmdaaGreatDoorSplR
import Derived.Test.YtdplhgpeggcmdaaGreatDoorDualFd
import Derived.Test.YtdplhgpeggcmdaaGreatDoorRegs
namespace Go.Proofs.YtdplhgpeggcmdaaGreatDoor
set_option linter.unusedSimpArgs false
set_option linter.unusedVariables false
namespace evac
open Go.ChangeShapes Go.WideShapes Go.ChangeAt Go.RowKit Go.Shelf swar under trap meter group probe lens tail call table
attribute [local go_sem] Oper.semAt_some stage.pureUpon move.stepUpon
structure EmAt(E G c:Nat)(Y:Lay)(d next:Nat)(W:World):Prop where
 row:∃dz:Int,(Y.N=3→dz=(d:Nat))∧W.heap[E]?=some (.cells #[.pointer (some ⟨(Y.F 0).R,0,none⟩),.slice (some ⟨G,0,none⟩) (Y.N-1) c,.int .i64 dz,.int .i64 (next:Nat)] 138 (0,0))
 tg:∀j,1≤j→j<Y.N→W.cell? ⟨G,j-1,none⟩=some (.pointer (some ⟨(Y.F j).R,0,none⟩))
 lg:G<W.heap.size
 ne:E≠G
section
variable {E G c:Nat} {Y:Lay} {d next:Nat} {W W':World}
theorem EmAt.lt(h:EmAt E G c Y d next W):E<W.heap.size:=by obtain⟨dz,_,hr⟩:=h.row;exact (Array.getElem?_eq_some_iff.1 hr).1
theorem EmAt.of_blocks(h:EmAt E G c Y d next W)(hE:W'.heap[E]?=W.heap[E]?)(hG:W'.heap[G]?=W.heap[G]?)(hz:W.heap.size≤W'.heap.size):EmAt E G c Y d next W':=by
 obtain⟨dz,h1,hr⟩:=h.row;exact⟨⟨dz,h1,hE.trans hr⟩,fun j h1 h2=>(World.cell?_of_block (w:=W) hG).trans (h.tg j h1 h2),Nat.lt_of_lt_of_le h.lg hz,h.ne⟩
theorem EmAt.keep(h:EmAt E G c Y d next W)(hb:Below W.heap.size W W'):EmAt E G c Y d next W':=h.of_blocks (hb.block E h.lt) (hb.block G h.lg) hb.size
theorem EmAt.past{l:List Nat}(h:EmAt E G c Y d next W)(hp:Past l W W')(hE:E∉l)(hG:G∉l):EmAt E G c Y d next W':=h.of_blocks (hp.block E h.lt hE) (hp.block G h.lg hG) hp.size
theorem EmAt.c0(h:EmAt E G c Y d next W):W.cell? ⟨E,0,none⟩=some (.pointer (some ⟨(Y.F 0).R,0,none⟩)):=by obtain⟨dz,_,hr⟩:=h.row;rw [cell_of_row _ _ _ _ _ _ hr];rfl
theorem EmAt.c1(h:EmAt E G c Y d next W):W.cell? ⟨E,1,none⟩=some (.slice (some ⟨G,0,none⟩) (Y.N-1) c):=by obtain⟨dz,_,hr⟩:=h.row;rw [cell_of_row _ _ _ _ _ _ hr];rfl
theorem EmAt.c2(h:EmAt E G c Y d next W)(hN:Y.N=3):W.cell? ⟨E,2,none⟩=some (.int .i64 (d:Nat)):=by obtain⟨dz,h1,hr⟩:=h.row;rw [cell_of_row _ _ _ _ _ _ hr,←h1 hN];rfl
theorem EmAt.c3(h:EmAt E G c Y d next W):W.cell? ⟨E,3,none⟩=some (.int .i64 (next:Nat)):=by obtain⟨dz,_,hr⟩:=h.row;rw [cell_of_row _ _ _ _ _ _ hr];rfl
theorem EmAt.fz(h:EmAt E G c Y d next W)(i:Nat):W.frozen? ⟨E,i,none⟩=false:=by obtain⟨dz,_,hr⟩:=h.row;exact frozen_of_row _ _ i _ _ hr
theorem EmAt.set3(h:EmAt E G c Y d next W)(x:Nat):EmAt E G c Y d x (W.setCell ⟨E,3,none⟩ (.int .i64 (x:Nat))):=by
 obtain⟨dz,h1,hr⟩:=h.row;exact⟨⟨dz,h1,heap_setCell_same W E 3 _ _ _ hr⟩,fun j h1 h2=>(World.cell?_of_block (w:=W) (heap_setCell_other _ _ _ _ (show G≠E from h.ne.symm))).trans (h.tg j h1 h2),by simpa using h.lg,h.ne⟩
end
set_option maxRecDepth 20000 in
theorem rtarget_any(E G c:Nat)(Y:Lay)(hN:Y.N=2∨Y.N=3)(d next h:Nat)(hd:d≤15)(hh:h<18446744073709551616)(w:World)(hE:EmAt E G c Y d next w) :
  Calls Tryz.prog 124 #[.pointer (some ⟨E,0,none⟩),.int .u64 h] w fun e w'=>e=.returned (.pointer (some ⟨(Y.F (tgt Y.N d h)).R,0,none⟩))∧Below w.heap.size w w':=by
 have HE:=Lib.hid hE
 rcases hN with hN|hN
 ·have h1:w.cell? ⟨E,1,none⟩=some (.slice (some ⟨G,0,none⟩) 1 c):=by have:=hE.c1;rw [hN] at this;exact this
  have g0:w.cell? ⟨G,0,none⟩=some (.pointer (some ⟨(Y.F 1).R,0,none⟩)):=hE.tg 1 (Nat.le_refl _) (by omega);have y1:=Under.cell h1;rw [show tgt Y.N d h=1 from if_neg (by omega)];clear hE
  go_enter Tryz.func124,Tryz.ntmps124
  go_wp2;refine wp_region_under (by kernel_rfl) (by kernel_rfl) ?_
  repeat (go_big_quiet_step (fail))
  refine wpQuiet_nil ?_;intro wz hwz;obtain⟨z,rfl⟩:=hwz;have y2:=Under.cell h1 z;have y3:=Under.cell g0 z;go_wp2
  go_ret
  exact⟨rfl,z.below⟩
 ·have h1:w.cell? ⟨E,1,none⟩=some (.slice (some ⟨G,0,none⟩) 2 c):=by have:=hE.c1;rw [hN] at this;exact this
  have g0:w.cell? ⟨G,0,none⟩=some (.pointer (some ⟨(Y.F 1).R,0,none⟩)):=hE.tg 1 (Nat.le_refl _) (by omega);have g1:w.cell? ⟨G,1,none⟩=some (.pointer (some ⟨(Y.F 2).R,0,none⟩)):=hE.tg 2 (by decide) (by omega);have y1:=Under.cell h1;have y2:=Under.cell (hE.c2 hN);have kB:=fun (q:Under w)=>split.bits_any h hh q.W
  have fi:=split.index_bits h d (by omega);have et:tgt Y.N d h=1+split.bitN h d:=if_pos hN;have hbn:=split.bitN_lt h d;rw [et];clear hE et;generalize split.bitsA h=bs at *
  generalize split.bitN h d=bt at *
  obtain rfl|rfl:bt=0∨bt=1:=by omega
  ·go_enter Tryz.func124,Tryz.ntmps124
   go_wp2;refine wp_region_under (by kernel_rfl) (by kernel_rfl) ?_
   repeat (go_big_quiet_step ((go_at_call 154;(with_reducible refine under_call (kB _)))))
   refine wpQuiet_nil ?_;intro wz hwz;obtain⟨z,rfl⟩:=hwz;have z2:=Under.cell h1 z;have z3:=Under.cell g0 z;clear kB y1 y2 fi;go_wp2
   go_ret
   exact⟨rfl,z.below⟩
  ·go_enter Tryz.func124,Tryz.ntmps124
   go_wp2;refine wp_region_under (by kernel_rfl) (by kernel_rfl) ?_
   repeat (go_big_quiet_step ((go_at_call 154;(with_reducible refine under_call (kB _)))))
   refine wpQuiet_nil ?_;intro wz hwz;obtain⟨z,rfl⟩:=hwz;have z2:=Under.cell h1 z;have z3:=Under.cell g1 z;clear kB y1 y2 fi;go_wp2
   go_ret
   exact⟨rfl,z.below⟩
theorem rtake_any(a:String→Addr)(w0:World)(Y:Lay)(t u:Nat→Tb)(k:Nat→Nat)(h0:0<Y.N)(i:Nat)(hi:i<Y.n 0)(hK:k 0+64<9223372036854775807)(w:World)(h:Many a w0 Y t u k w) :
  Calls Tryz.prog 123 #[.pointer (some ⟨(Y.F 0).R,0,none⟩),.int .i64 i] w fun e w'=>∃o c,e=.returned (.tuple #[.slice o (lst u i).length c,.int .i64 0])∧ListAt w.heap.size o (lst u i) w'∧Many a w0 Y t (tak u i) (ktk k) w'∧Past (Y.rb 0) w w':=by
 have hn:=h.un 0 h0;have hi':i<(u 0).n:=by omega
 refine (rttake_any (Y.F 0) (u 0) (h.uok 0 h0).n (k 0) i hi' hK w (h.wa 0 h0)).mono fun e w' ⟨v,he,hk,hs⟩=>?_
 obtain⟨o,c,rfl,hl⟩:=Kept.list hk;obtain⟨h1,h2⟩:=h.ref h0 hs (tk_ok (h.uok 0 h0) hi' 8 (Nat.le_refl _)) ((tk_n _ _ _).trans hn);refine⟨o,c, ?_,hl,h1,h2⟩;rw [he];unfold lst entsG;rw [List.length_map]
structure RsI(a:String→Addr)(w0 w:World)(Y:Lay)(t u1:Nat→Tb)(k1:Nat→Nat)(l:List Sl)(E G c d next b K:Nat)(o:Option Addr)(j:Nat)(W:World):Prop where
 m:Many a w0 Y t (mvs Y.N d u1 (l.take j)) (kvs Y.N d u1 k1 (l.take j)) W
 e:EmAt E G c Y d next W
 li:ListAt b o l W
 hb:w.heap.size≤b
 hk:∀i,i<Y.N→kvs Y.N d u1 k1 (l.take j) i≤K+64*j
 past:Past (E::Y.rall) w W
 lts:∀x∈E::Y.rall,x<w.heap.size
 nE:E∉Y.rall
 nG:G∉Y.rall
 g:goods Y.N d u1 (l.take j)=true
theorem RsI.read{a:String→Addr}{w0 w:World}{Y:Lay}{t u1:Nat→Tb}{k1:Nat→Nat}{l:List Sl}{E G c d next b K:Nat}{o:Option Addr}{j:Nat}{W W':World}(h:RsI a w0 w Y t u1 k1 l E G c d next b K o j W)(hb:Below W.heap.size W W'):RsI a w0 w Y t u1 k1 l E G c d next b K o j W':=
 ⟨h.m.read hb,h.e.keep hb,h.li.read hb,h.hb,h.hk,h.past.trans (Past.of hb),h.lts,h.nE,h.nG,h.g⟩
theorem RsI.next{a:String→Addr}{w0 w:World}{Y:Lay}{t u1:Nat→Tb}{k1:Nat→Nat}{l:List Sl}{E G c d next b K:Nat}{o:Option Addr}{j:Nat}{W W':World}(h:RsI a w0 w Y t u1 k1 l E G c d next b K o j W)(hN:Y.N=2∨Y.N=3)(hj:j<l.length)
  (hg:good1 Y.N d (mvs Y.N d u1 (l.take j)) l[j]=true)(hm:Many a w0 Y t (mv1 Y.N d (mvs Y.N d u1 (l.take j)) l[j]) (kv1 Y.N d (mvs Y.N d u1 (l.take j)) (kvs Y.N d u1 k1 (l.take j)) l[j]) W')(hp:Past (Y.rb (tgt Y.N d l[j].hash)) W W'):RsI a w0 w Y t u1 k1 l E G c d next b K o (j+1) W':=by
 have hr:∀x∈Y.rb (tgt Y.N d l[j].hash),x∈Y.rall:=fun x hx=>Lay.rin (tgt_lt hN _ _) hx
 refine⟨?_,h.e.past hp (fun e=>h.nE (hr _ e)) (fun e=>h.nG (hr _ e)),list_past h.li hp fun x hx=>Nat.lt_of_lt_of_le (h.lts x (List.mem_cons_of_mem _ (hr x hx))) h.hb,h.hb, ?_,h.past.trans (hp.mono fun x hx=>List.mem_cons_of_mem _ (hr x hx)),h.lts,h.nE,h.nG, ?_⟩
 ·rw [take_next l hj,mvs_snoc,kvs_snoc];exact hm
 ·rw [take_next l hj,kvs_snoc]
  intro i hi;have:=kv1_le (N:=Y.N) (d:=d) (fun i hi=>okN_le (h.m.uok i hi).n) hN h.hk l[j] i hi;omega
 ·rw [take_next l hj,goods_snoc,h.g,hg];rfl
set_option maxRecDepth 20000 in
theorem rstep_off(E G c:Nat)(a:String→Addr)(w0:World)(Y:Lay)(t u:Nat→Tb)(k:Nat→Nat)(h0:0<Y.N)(d:Nat)(w:World)(hE:EmAt E G c Y d (Y.n 0) w)(h:Many a w0 Y t u k w) :
  Calls Tryz.prog 76 #[.pointer (some ⟨E,0,none⟩)] w fun e w'=>e=.returned (.tuple #[.bool false,.bool false])∧Below w.heap.size w w':=by
 have y0:=Under.cell hE.c0;have y3:=Under.cell hE.c3;have hr:=(h.wa 0 h0).cell0;rw [h.un 0 h0] at hr;have y1:=Under.cell hr;clear hE h hr
 go_enter Tryz.func76,Tryz.ntmps76
 go_wp2;refine wp_region_under (by kernel_rfl) (by kernel_rfl) ?_
 repeat (go_big_quiet_step (fail))
 refine wpQuiet_nil ?_;intro wz hwz;obtain⟨z,rfl⟩:=hwz;clear y0 y1 y3;go_wp2
 go_ret2
 exact⟨rfl,z.below⟩
set_option maxRecDepth 100000 in
set_option maxHeartbeats 4000000 in
theorem rstep_on(E G c:Nat)(a:String→Addr)(w0:World)(Y:Lay)(t u:Nat→Tb)(k:Nat→Nat)(hN:Y.N=2∨Y.N=3)(d next K:Nat)(hd:d≤15)(hn:next<Y.n 0)(hK:K≤100000000)(hk:∀i,i<Y.N→k i≤K)(w:World)(hE:EmAt E G c Y d next w)(h:Many a w0 Y t u k w)(nE:Out Y E)(nG:Out Y G)(hE0:w0.heap.size≤E) :
  Calls Tryz.prog 76 #[.pointer (some ⟨E,0,none⟩)] w fun e w' =>
   (goods Y.N d (tak u next) (lst u next)=true∧e=.returned (.tuple #[.bool true,.bool false])∧Many a w0 Y t (mvs Y.N d (tak u next) (lst u next)) (kvs Y.N d (tak u next) (ktk k) (lst u next)) w'∧EmAt E G c Y d (next+1) w'∧Past (E::Y.rall) w w') ∨
   (goods Y.N d (tak u next) (lst u next)=false∧e=.returned (.tuple #[.bool true,.bool true])∧Past (E::Y.rall) w w'):=by
 have h0:0<Y.N:=by omega
 have y0:=Under.cell hE.c0;have y3:=Under.cell hE.c3;have hr:=(h.wa 0 h0).cell0;rw [h.un 0 h0] at hr;have y1:=Under.cell hr;have hn64:Y.n 0≤64:=by rw [←h.un 0 h0];exact okN_le (h.uok 0 h0).n
 have d1:((next:Int)==(Y.n 0:Int))=false:=beq_eq_false_iff_ne.2 (by omega);have hk0:=hk 0 h0;have HM:=Lib.hid (And.intro h hE);have hlE:=hE.lt;have cT:=fun W (hb:Below w.heap.size w W)=>rtake_any a w0 Y t u k h0 next hn (by omega) W (h.read hb)
 have HK:=Lib.hid hk;have hlok:=lst_ok (h.uok 0 h0) next;have hl8:=lst_length u next;generalize hl:lst u next=l at *
 clear hE h hr
 go_enter Tryz.func76,Tryz.ntmps76
 go_wp2;refine wp_region_under (by kernel_rfl) (by kernel_rfl) ?_
 repeat (go_big_quiet_step (fail))
 refine wpQuiet_nil ?_;intro wz hwz;obtain⟨z,rfl⟩:=hwz;clear y0 y1 y3;go_wp2;have hEz:=HM.out.2.keep z.below;have y0:=Under.cell hEz.c0;have y3:=Under.cell hEz.c3;refine one.wp_region_one 8 _ (by kernel_rfl) (by kernel_rfl) rfl ?_;simp only [List.take_succ_cons,List.take_zero,List.drop_succ_cons,List.drop_zero]
 repeat (quiet_step (fail))
 refine wpQuiet_nil ?_;intro y Kc hKc;have hb2:=under.below_step z.below y.below;clear y0 y3 hEz d1;generalize hzy:y.W=w2 at *
 clear hzy y;have HB2:=Lib.hid hb2;go_simp;refine (cT _ hb2).mono ?_;rintro e w3 ⟨o,co,rfl,hL,hM3,hp3⟩;go_simp;refine hKc _ _ ?_;clear hKc Kc
 repeat (quiet_step (fail))
 refine wpQuiet_nil ?_;intro y2;have hb3:=y2.below;generalize hw4:y2.W=w4 at *
 clear hw4 y2;have hM4:=hM3.read hb3;have hE4:=((HM.out.2.keep hb2).past hp3 (fun e=>nE.r (Lay.rin h0 e)) (fun e=>nG.r (Lay.rin h0 e))).keep hb3;have hL4:=hL.read hb3;have z3:=hE4.c3;have zf:=hE4.fz;have ew:IntKind.i64.wrap ((next:Int)+1)=(next:Int)+1:=IntWalk.i64_in _ (by omega)
 have hE5:EmAt E G c Y d (next+1) (w4.setCell ⟨E,3,none⟩ (.int .i64 ((next:Int)+1))):=by
  have:=hE4.set3 (next+1)
  rwa [show ((next+1:Nat):Int)=(next:Int)+1 by omega] at this
 have hp5:=(Past.refl [E] w4).store (p:=⟨E,3,none⟩) (.inl (by simp)) (.int .i64 ((next:Int)+1))
 have hI:=(show RsI a w0 w Y t (tak u next) (ktk k) l E G c d (next+1) w2.heap.size (K+1) o 0 (w4.setCell ⟨E,3,none⟩ (.int .i64 ((next:Int)+1))) from
  ⟨hM4.past hp5 (fun b hb=>by
   obtain rfl:b=E:=by simpa using hb
   exact hE0) (fun i hi b hb e=>by
   obtain rfl:b=E:=by simpa using e
   exact nE i hi hb),hE5,list_past hL4 hp5 (fun x hx=>by
   obtain rfl:x=E:=by simpa using hx
   exact Nat.lt_of_lt_of_le hlE HB2.out.size),HB2.out.size,fun i hi=>by
   have:=HK.out i hi;have:=HK.out 0 h0;unfold ktk up;simp only [List.take_zero,kvs];split <;> omega,
   (Past.of HB2.out).trans ((hp3.mono fun b hb => List.mem_cons_of_mem _ (Lay.rin h0 hb)).trans ((Past.of hb3).trans (hp5.mono fun b hb => by
    obtain rfl:b=E:=by simpa using hb
    exact List.mem_cons_self))),fun x hx=>by
   rcases List.mem_cons.1 hx with rfl|hx
   ·exact hlE
   ·exact (HM.out.1.rall hx).2,nE.r,nG.r,rfl⟩)
 have HI:=Lib.hid hI;clear hI hp5 hM3 hL hM4 hL4 hE4 hE5 hp3 cT HM hk0 hb2 hb3 HK;generalize w2.heap.size=b at HI ⊢
 go_wp2_with (fail)
 generalize w4.setCell ⟨E,3,none⟩ (.int .i64 ((next:Int)+1))=w5 at HI ⊢;clear z3 zf ew HB2
 go_loopw [44] (fun i wr=>∃j:Nat,j≤l.length∧i=.int .i64 j∧Hid (RsI a w0 w Y t (tak u next) (ktk k) l E G c d (next+1) b (K+1) o j wr)) (fun i _=>l.length-(intOf i).toNat)
 case atStart=>exact⟨0,by omega,rfl,HI⟩
 case round =>
  obtain⟨j,hj,rfl,HR⟩:=hrel;clear HI
  rcases Nat.lt_or_ge j l.length with hjl|hjl
  ·have hji:(j:Int)<(l.length:Int):=by omega
   obtain⟨x,rfl,hxb,hc0,hc1,hc2⟩:=HR.out.li j hjl;have hs:=hlok _ (List.getElem_mem hjl);have HN:=Lib.hid (fun (W V:World) (hr:RsI a w0 w Y t (tak u next) (ktk k) l E G c d (next+1) b (K+1) (some x) j W) hg hm hp=>RsI.next (W':=V) hr hN hjl hg hm hp);have HF:=Lib.hid (fun hg=>goods_no (N:=Y.N) (d:=d) (u:=tak u next) hjl hg);have hkj:=HR.out.hk;generalize l[j]=en at *
   obtain⟨_,hkey,hval,hhash,_⟩:=hs;have hb5:=new_block wr (.cells #[.int .u64 (en.key:Nat),.int .u64 (en.val:Nat),.int .u64 (en.hash:Nat)] 44);have hV:=EBox.new en.key en.val en.hash wr;have HR5:=Lib.hid (HR.out.read hb5);have hst:(tgt Y.N d en.hash)<Y.N:=tgt_lt hN d en.hash;have kT:=fun (q:Under (wr.alloc (.cells #[.int .u64 (en.key:Nat),.int .u64 (en.val:Nat),.int .u64 (en.hash:Nat)] 44)))=>rtarget_any E G c Y hN d (next+1) en.hash hd hhash q.W (HR5.out.e.keep q.below)
   have cP:=fun (q:Under (wr.alloc (.cells #[.int .u64 (en.key:Nat),.int .u64 (en.val:Nat),.int .u64 (en.hash:Nat)] 44)))=>(HR5.out.read q.below).m.rput hst en.key en.hash en.val hkey hhash hval (by have:=hkj _ hst;omega)
   have hgd:good1 Y.N d (mvs Y.N d (tak u next) (l.take j)) en=(putB' (mvs Y.N d (tak u next) (l.take j) (tgt Y.N d en.hash)) en.key en.hash&&decide (putE' (mvs Y.N d (tak u next) (l.take j) (tgt Y.N d en.hash)) en.key en.hash=0)):=rfl;obtain⟨pb,hpb⟩:∃pb,putB' (mvs Y.N d (tak u next) (l.take j) (tgt Y.N d en.hash)) en.key en.hash=pb:=⟨_,rfl⟩;obtain⟨pe,hpe⟩:∃pe,putE' (mvs Y.N d (tak u next) (l.take j) (tgt Y.N d en.hash)) en.key en.hash=pe:=⟨_,rfl⟩;rw [hpb,hpe] at hgd cP;have HG:=Lib.hid hgd;clear hgd hpb hpe hkj;have y0:=Under.cell hV.c0;have y1:=Under.cell hV.c1;have y2:=Under.cell hV.c2;go_wp2;generalize wr.alloc (.cells #[.int .u64 (en.key:Nat),.int .u64 (en.val:Nat),.int .u64 (en.hash:Nat)] 44)=w6 at *
   refine one.wp_region_one 5 _ (by kernel_rfl) (by kernel_rfl) rfl ?_;simp only [List.take_succ_cons,List.take_zero,List.drop_succ_cons,List.drop_zero]
   repeat (quiet_step ((go_at_call 124;(with_reducible refine under_call (kT _)))))
   refine wpQuiet_nil ?_;intro y Kc hKc;have cPy:=cP y;have HRy:=Lib.hid (HR5.out.read y.below);clear y0 y1 y2 kT cP hV hb5;generalize y.W=w7 at *
   go_simp;refine cPy.mono ?_;rintro e w8 ⟨rfl,hm8,hp8⟩;go_simp;refine hKc _ _ ?_;clear hKc Kc cPy
   repeat (quiet_step (fail))
   refine wpQuiet_nil ?_;intro y3;have HX:=Lib.hid (show Past (E::Y.rall) w y3.W from (HRy.out.past.trans (hp8.mono (d':=E::Y.rall) fun b hb=>List.mem_cons_of_mem _ (Lay.rin hst hb))).trans (Past.of y3.below));have HY:=Lib.hid (fun hg=>(HN.out _ _ HRy.out hg hm8 hp8).read y3.below);clear hm8 hp8;generalize y3.W=w9 at *
   cases pb with
   | false =>
    go_wp2
    go_ret2
    exact .inr ⟨HF.out (by rw [HG.out];rfl),rfl,HX.out⟩
   | true =>
    by_cases hp0:pe=0
    ·subst hp0
     go_wp2
     go_roundw
     case rel=>exact⟨j+1,by omega,by simp,Lib.hid (HY.out (by rw [HG.out];rfl))⟩
     case measure=>simp [intOf];omega
    ·have d2:((pe:Int)==0)=false:=beq_eq_false_iff_ne.2 (by omega)
     have d3:(pe==0)=false:=beq_eq_false_iff_ne.2 hp0;go_wp2
     go_ret2
     exact .inr ⟨HF.out (by rw [HG.out];simp [hp0]),rfl,HX.out⟩
  ·obtain rfl:j=l.length:=by omega
   have hm:=HR.out.m;have hg:=HR.out.g;rw [List.take_length] at hm hg;have HG:=Lib.hid (And.intro hm hg);clear hm hg;go_wp2
   go_ret2
   exact .inl ⟨HG.out.2,rfl,HG.out.1,HR.out.e,HR.out.past⟩
def sumK(N:Nat)(k:Nat→Nat):Nat:=if N=3 then k 0+k 1+k 2 else k 0+k 1
end evac
namespace dual
open Go.ChangeShapes Go.WideShapes Go.ChangeAt Go.RowKit Go.Shelf swar under trap meter group probe lens tail call table evac
attribute [local go_sem] Oper.semAt_some stage.pureUpon move.stepUpon
structure Wn(w0:World)(Z:Lay)(u:Nat→Tb)(k:Nat→Nat)(W:World):Prop where
 wa:∀i,i<Z.N→WAt (Z.F i) (u i) (k i) W
 uok:∀i,i<Z.N→(u i).Ok
 un:∀i,i<Z.N→(u i).n=Z.n i
 sep:∀i j,i<Z.N→j<Z.N→i≠j→∀b∈Z.rb i,b∉Z.rb j
 new:∀i,i<Z.N→∀b∈Z.rb i,w0.heap.size≤b
 bel:Below w0.heap.size w0 W
section
variable {w0:World} {Z:Lay} {u:Nat→Tb} {k:Nat→Nat} {W W':World}
theorem Wn.lts(h:Wn w0 Z u k W){b:Nat}(hb:b∈Z.rall):b<W.heap.size:=by
 obtain⟨i,hi,hb⟩:=List.mem_flatMap.1 hb;have hi:=List.mem_range.1 hi
 rcases List.mem_cons.1 hb with rfl|hb
 ·exact (h.wa i hi).lts (.inr rfl)
 ·exact (h.wa i hi).lts (.inl (by rw [h.un i hi];exact hb))
theorem Wn.ge(h:Wn w0 Z u k W){b:Nat}(hb:b∈Z.rall):w0.heap.size≤b:=by
 obtain⟨i,hi,hb⟩:=List.mem_flatMap.1 hb;exact h.new i (List.mem_range.1 hi) b hb
theorem Wn.read(h:Wn w0 Z u k W)(hb:Below W.heap.size W W'):Wn w0 Z u k W':=⟨fun i hi=>(h.wa i hi).below hb,h.uok,h.un,h.sep,h.new,under.below_step h.bel hb⟩
theorem Wn.past{d:List Nat}(h:Wn w0 Z u k W)(hp:Past d W W')(hb:Below w0.heap.size w0 W')(ho:∀b∈d,b∉Z.rall):Wn w0 Z u k W':=
 ⟨fun i hi=>(h.wa i hi).past hp fun b hb' e=>ho b e (Lay.rin hi (Lay.rmem (by rw [←h.un i hi];exact hb'))),h.uok,h.un,h.sep,h.new,hb⟩
theorem Wn.ref{u':Tb}{k':Nat}(h:Wn w0 Z u k W){i:Nat}(hi:i<Z.N)(hs:WStep (Z.F i) u' k' W W')(ok:u'.Ok)(hn:u'.n=Z.n i):Wn w0 Z (up u i u') (up k i k') W'∧Past Z.rall W W':=by
 have hp:=hs.past;rw [hn] at hp;have hr:∀b∈(Z.F i).d (Z.n i),b∈Z.rb i:=fun b hb=>Lay.rmem (.inl hb)
 refine⟨⟨fun j hj=>?_,fun j hj=>?_,fun j hj=>?_,h.sep,h.new,h.bel.trans (hp.below h.bel.size fun b hb=>h.new i hi b (hr b hb))⟩,hp.mono fun b hb=>Lay.rin hi (hr b hb)⟩
 ·by_cases e:j=i
  ·subst e;rw [up_same,up_same];exact hs.at'
  ·rw [up_ne _ _ e,up_ne _ _ e]
   exact (h.wa j hj).past hp fun b hb hb'=>h.sep j i hj hi e b (Lay.rmem (by rw [←h.un j hj];exact hb)) (hr b hb')
 ·by_cases e:j=i
  ·subst e;rw [up_same];exact ok
  ·rw [up_ne _ _ e];exact h.uok j hj
 ·by_cases e:j=i
  ·subst e;rw [up_same];exact hn
  ·rw [up_ne _ _ e];exact h.un j hj
theorem Wn.rput(h:Wn w0 Z u k W){i:Nat}(hi:i<Z.N)(key hs v:Nat)(hk:key<18446744073709551616)(hh:hs<18446744073709551616)(hv:v<18446744073709551616)(hK:k i+64<9223372036854775807) :
  Calls Tryz.prog 51 #[.pointer (some ⟨(Z.F i).R,0,none⟩),group.entV key v hs] W fun e w'=>e=.returned (.tuple #[.bool (putB' (u i) key hs),.int .i64 (putE' (u i) key hs:Nat)])∧Wn w0 Z (up u i ((u i).puts key hs v)) (up k i (k i+looks (u i) key hs)) w'∧Past Z.rall W w':=
 (rtput_any (Z.F i) (u i) (h.uok i hi) (k i) key v hs hK hh W (h.wa i hi)).mono fun e w' ⟨he,hs'⟩=>⟨he,h.ref hi hs' ((h.uok i hi).puts hk hh hv) ((puts_n ..).trans (h.un i hi))⟩
theorem Wn.rfind(h:Wn w0 Z u k W){i:Nat}(hi:i<Z.N)(key hs:Nat)(hh:hs<18446744073709551616)(hK:k i+64<9223372036854775807) :
  Calls Tryz.prog 50 #[.pointer (some ⟨(Z.F i).R,0,none⟩),.int .u64 key,.int .u64 hs] W fun e w'=>e=.returned (.tuple #[group.entV (entOf (u i) key hs).key (entOf (u i) key hs).val (entOf (u i) key hs).hash,.bool (isThere (u i) key hs)])∧Wn w0 Z u (up k i (k i+looks (u i) key hs)) w'∧Past Z.rall W w':=
 (rtfind_any (Z.F i) (u i) (h.uok i hi).n (k i) key hs hK hh W (h.wa i hi)).mono fun e w' ⟨he,hs'⟩ => by
  obtain⟨h1,h2⟩:=h.ref hi hs' (h.uok i hi) (h.un i hi);rw [up_self] at h1;exact⟨he,h1,h2⟩
theorem Wn.rdelete(h:Wn w0 Z u k W){i:Nat}(hi:i<Z.N)(key hs:Nat)(hk:key<18446744073709551616)(hh:hs<18446744073709551616)(hK:k i+64<9223372036854775807) :
  Calls Tryz.prog 54 #[.pointer (some ⟨(Z.F i).R,0,none⟩),.int .u64 key,.int .u64 hs] W fun e w'=>e=.returned (.tuple #[group.entV (entOf (u i) key hs).key (entOf (u i) key hs).val (entOf (u i) key hs).hash,.bool (isThere (u i) key hs)])∧Wn w0 Z (up u i ((u i).remove key hs)) (up k i (k i+looks (u i) key hs)) w'∧Past Z.rall W w':=
 (rtdelete_any (Z.F i) (u i) (h.uok i hi) (k i) key hs hK hh W (h.wa i hi)).mono fun e w' ⟨he,hs'⟩=>⟨he,h.ref hi hs' ((h.uok i hi).remove ..) ((remove_n ..).trans (h.un i hi))⟩
theorem Wn.setK(h:Wn w0 Z u k W){i:Nat}(hi:i<Z.N)(c:Nat):Wn w0 Z u (up k i c) (W.setCell ⟨(Z.F i).R,1,none⟩ (.int .i64 (c:Nat)))∧Past Z.rall W (W.setCell ⟨(Z.F i).R,1,none⟩ (.int .i64 (c:Nat))):=by
 obtain⟨h1,h2⟩:=h.ref hi ((h.wa i hi).setK c) (h.uok i hi) (h.un i hi);rw [up_self] at h1;exact⟨h1,h2⟩
end
structure Dd(R E bare:Nat)(tk:Bool)(W:World):Prop where
 row:W.heap[R]?=some (.cells #[.pointer (some ⟨E,0,none⟩),.int .i64 (bare:Nat),.bool tk] 141 (0,0))
section
variable {R E bare:Nat} {tk:Bool} {W W':World}
theorem Dd.lt(h:Dd R E bare tk W):R<W.heap.size:=(Array.getElem?_eq_some_iff.1 h.row).1
theorem Dd.keep(h:Dd R E bare tk W)(hb:Below W.heap.size W W'):Dd R E bare tk W':=⟨(hb.block R h.lt).trans h.row⟩
theorem Dd.past{l:List Nat}(h:Dd R E bare tk W)(hp:Past l W W')(hR:R∉l):Dd R E bare tk W':=⟨(hp.block R h.lt hR).trans h.row⟩
theorem Dd.c0(h:Dd R E bare tk W):W.cell? ⟨R,0,none⟩=some (.pointer (some ⟨E,0,none⟩)):=by rw [cell_of_row _ _ _ _ _ _ h.row];rfl
theorem Dd.c1(h:Dd R E bare tk W):W.cell? ⟨R,1,none⟩=some (.int .i64 (bare:Nat)):=by rw [cell_of_row _ _ _ _ _ _ h.row];rfl
theorem Dd.fz(h:Dd R E bare tk W)(i:Nat):W.frozen? ⟨R,i,none⟩=false:=frozen_of_row _ _ i _ _ h.row
theorem Dd.set1(h:Dd R E bare tk W)(x:Nat):Dd R E x tk (W.setCell ⟨R,1,none⟩ (.int .i64 (x:Nat))):=⟨heap_setCell_same W R 1 _ _ _ h.row⟩
end
set_option maxRecDepth 20000 in
theorem rdleft_any{R E bare G c d next:Nat}{tk:Bool}{Z:Lay}{w0 w:World}{u:Nat→Tb}{k:Nat→Nat}(h:Dd R E bare tk w)(hE:EmAt E G c Z d next w)(hW:Wn w0 Z u k w)(h0:0<Z.N)(hn:next≤Z.n 0)(hb:bare≤1000) :
  Calls Tryz.prog 70 #[.pointer (some ⟨R,0,none⟩)] w fun e w'=>e=.returned (.int .i64 ((bare+Z.n 0-next:Nat):Int))∧Below w.heap.size w w':=by
 have c0:=h.c0;have c1:=h.c1;have e0:=hE.c0;have e3:=hE.c3;have f0:=(hW.wa 0 h0).cell0;have hun:=hW.un 0 h0;have hle:=okN_le (hW.uok 0 h0).n;rw [hun] at f0 hle;have x1:IntKind.i64.wrap ((bare:Int)+(Z.n 0:Nat))=(bare:Int)+(Z.n 0:Nat):=IntWalk.i64_in _ (by omega);have x2:IntKind.i64.wrap ((bare:Int)+(Z.n 0:Nat)-(next:Nat))=(bare:Int)+(Z.n 0:Nat)-(next:Nat):=IntWalk.i64_in _ (by omega);have x3:((bare+Z.n 0-next:Nat):Int)=(bare:Int)+(Z.n 0:Nat)-(next:Nat):=by omega
 rw [x3];generalize Z.n 0=n0 at *
 clear h hE hW x3 hun hle;have y0:=Under.cell c0;have y1:=Under.cell c1;have y2:=Under.cell e0;have y3:=Under.cell e3;have y4:=Under.cell f0
 go_enter Tryz.func70,Tryz.ntmps70
 go_wp2
 go_quiet (fail)
 go_wp2
 go_ret
 exact⟨rfl,below_drewN' _ _⟩
set_option maxRecDepth 20000 in
theorem rrows_no{R E bare G c d next:Nat}{tk:Bool}{Z:Lay}{w:World}(h:Dd R E bare tk w)(hE:EmAt E G c Z d next w)(hb:0<bare)(hs:Nat) :
  Calls Tryz.prog 107 #[.pointer (some ⟨R,0,none⟩),.int .u64 (hs:Nat)] w fun e w'=>∃B,e=.returned (.slice (some ⟨B,0,none⟩) 1 1)∧w'.cell? ⟨B,0,none⟩=some (.pointer (some ⟨(Z.F 0).R,0,none⟩))∧w.heap.size≤B∧Below w.heap.size w w':=by
 have c0:=h.c0;have c1:=h.c1;have e0:=hE.c0;have d1:decide ((0:Int)<(bare:Int))=true:=decide_eq_true (by omega);have d2:decide (0<bare)=true:=decide_eq_true hb;clear h hE hb
 go_enter Tryz.func107,Tryz.ntmps107
 go_wp2
 go_ret
 have hr:=World.alloc_heap_new w (.cells #[.pointer (some ⟨(Z.F 0).R,0,none⟩)] 72);exact⟨w.heap.size,rfl,by rw [cell_of_row _ _ _ _ _ _ hr];rfl,Nat.le_refl _,new_block _ _⟩
set_option maxRecDepth 20000 in
theorem rrows_yes{R E G c d next:Nat}{tk:Bool}{Z:Lay}{w:World}(hN:Z.N=2∨Z.N=3)(hd:d≤15)(h:Dd R E 0 tk w)(hE:EmAt E G c Z d next w)(hs:Nat)(hh:hs<18446744073709551616) :
  Calls Tryz.prog 107 #[.pointer (some ⟨R,0,none⟩),.int .u64 (hs:Nat)] w fun e w'=>∃B,e=.returned (.slice (some ⟨B,0,none⟩) 2 2)∧w'.cell? ⟨B,0,none⟩=some (.pointer (some ⟨(Z.F (tgt Z.N d hs)).R,0,none⟩))∧w'.cell? ⟨B,1,none⟩=some (.pointer (some ⟨(Z.F 0).R,0,none⟩))∧w.heap.size≤B∧Below w.heap.size w w':=by
 have c1:=h.c1;have y0:=Under.cell h.c0;have y1:=Under.cell hE.c0;have cT:=fun (q:Under w)=>rtarget_any E G c Z hN d next hs hd hh q.W (hE.keep q.below)
 clear h hE;generalize (Z.F (tgt Z.N d hs)).R=Rt at *
 generalize (Z.F 0).R=R0 at *
 go_enter Tryz.func107,Tryz.ntmps107
 go_wp2;refine tail.wp_region_tail_under 13 (by kernel_rfl) (by kernel_rfl) ?_;simp only [List.take_succ_cons,List.take_zero,List.drop_succ_cons,List.drop_zero]
 repeat (quiet_step ((go_at_call 124;(with_reducible refine under_call (cT _)))))
 refine wpQuiet_nil ?_;intro wz hwz;obtain⟨z,rfl⟩:=hwz;have hb:=z.below;clear y0 y1 cT;generalize z.W=w4 at *
 clear z;go_wp2
 go_ret
 have hr:=World.alloc_heap_new w4 (.cells #[.pointer (some ⟨Rt,0,none⟩),.pointer (some ⟨R0,0,none⟩)] 72);refine⟨w4.heap.size,rfl, ?_, ?_,hb.size,under.below_step hb (new_block _ _)⟩
 ·rw [cell_of_row _ _ _ _ _ _ hr];rfl
 ·rw [cell_of_row _ _ _ _ _ _ hr];rfl
def kst(u:Nat→Tb)(key h:Nat):List Nat→(Nat→Nat)→(Nat→Nat)
 | [],k=>k
 | i::l,k=>kst u key h l (up k i (k i+looks (u i) key h))
def lsum(u:Nat→Tb)(key h:Nat):List Nat→Nat
 | []=>0
 | i::l=>looks (u i) key h+lsum u key h l
theorem kst_snoc(u:Nat→Tb)(key h i:Nat):∀(l:List Nat) (k:Nat→Nat),kst u key h (l++[i]) k=up (kst u key h l k) i (kst u key h l k i+looks (u i) key h)
 | [],_=>rfl
 | j::l,k=>kst_snoc u key h i l (up k j (k j+looks (u j) key h))
theorem sumK_up{N:Nat}(hN:N=2∨N=3)(k:Nat→Nat){i c:Nat}(hi:i<N):sumK N (up k i (k i+c))=sumK N k+c:=by
 unfold sumK
 rcases hN with rfl|rfl
 ·rw [if_neg (by decide),if_neg (by decide)]
  obtain rfl|rfl:i=0∨i=1:=by omega
  ·rw [up_same,up_ne (h:=by decide)];omega
  ·rw [up_same,up_ne (h:=by decide)];omega
 ·rw [if_pos rfl,if_pos rfl]
  obtain rfl|rfl|rfl:i=0∨i=1∨i=2:=by omega
  ·rw [up_same,up_ne (h:=by decide),up_ne (h:=by decide)];omega
  ·rw [up_same,up_ne (h:=by decide),up_ne (h:=by decide)];omega
  ·rw [up_same,up_ne (h:=by decide),up_ne (h:=by decide)];omega
theorem kst_sum{u:Nat→Tb}{key h N:Nat}(hN:N=2∨N=3):∀(l:List Nat) (k:Nat→Nat),(∀i∈l,i<N)→sumK N (kst u key h l k)=sumK N k+lsum u key h l
 | [],_,_=>rfl
 | i::l,k,hl=>by
  have ih:=kst_sum (u:=u) (key:=key) (h:=h) hN l (up k i (k i+looks (u i) key h)) fun j hj=>hl j (List.mem_cons_of_mem _ hj)
  rw [sumK_up hN k (hl i List.mem_cons_self)] at ih;show sumK N (kst u key h l _)=_;rw [ih];show _=sumK N k+(looks (u i) key h+lsum u key h l);omega
theorem sumK_ge{N:Nat}(hN:N=2∨N=3)(k:Nat→Nat){i:Nat}(hi:i<N):k i≤sumK N k:=by
 unfold sumK
 rcases hN with rfl|rfl
 ·rw [if_neg (by decide)]
  obtain rfl|rfl:i=0∨i=1:=by omega
  ·omega
  ·omega
 ·rw [if_pos rfl]
  obtain rfl|rfl|rfl:i=0∨i=1∨i=2:=by omega
  ·omega
  ·omega
  ·omega
def fpos(u:Nat→Tb)(key h:Nat):List Nat→Nat
 | []=>0
 | i::l=>if isThere (u i) key h=true then 0 else fpos u key h l+1
theorem fnd_fpos(u:Nat→Tb)(key h:Nat):∀l,fnd u key h l=l[fpos u key h l]?
 | []=>rfl
 | i::l=>by
  have ih:=fnd_fpos u key h l;unfold fnd fpos
  split
  ·rfl
  ·rw [ih];rfl
theorem fndK_fpos(u:Nat→Tb)(key h:Nat):∀l,fndK u key h l=lsum u key h (l.take (fpos u key h l+1))
 | []=>rfl
 | i::l=>by
  have ih:=fndK_fpos u key h l;unfold fndK fpos
  split
  ·rfl
  ·rw [ih];rfl
structure RfI(w0:World)(Z:Lay)(u:Nat→Tb)(k:Nat→Nat)(key h:Nat)(J:List Nat)(B j:Nat)(W:World):Prop where
 w:Wn w0 Z u (kst u key h (J.take j) k) W
 off:∀i∈J.take j,isThere (u i) key h=false
 ps:∀i (hi:i<J.length),W.cell? ⟨B,i,none⟩=some (.pointer (some ⟨(Z.F J[i]).R,0,none⟩))
 nB:B∉Z.rall
section
variable {w0:World} {Z:Lay} {u:Nat→Tb} {k:Nat→Nat} {key h:Nat} {J:List Nat} {B j:Nat} {W W':World}
theorem RfI.read(hI:RfI w0 Z u k key h J B j W)(hb:Below W.heap.size W W'):RfI w0 Z u k key h J B j W':=⟨hI.w.read hb,hI.off,fun i hi=>keepc hb (hI.ps i hi),hI.nB⟩
theorem RfI.next(hI:RfI w0 Z u k key h J B j W)(hj:j<J.length)(ht:isThere (u J[j]) key h=false)(hW:Wn w0 Z u (up (kst u key h (J.take j) k) J[j] (kst u key h (J.take j) k J[j]+looks (u J[j]) key h)) W')(hp:Past Z.rall W W'):RfI w0 Z u k key h J B (j+1) W':=by
 have e:J.take (j+1)=J.take j++[J[j]]:=by rw [List.take_add_one,List.getElem?_eq_getElem hj];rfl
 refine⟨?_,fun i hi=>?_,fun i hi=>hp.cell (hI.ps i hi) hI.nB,hI.nB⟩
 ·rw [e,kst_snoc];exact hW
 ·rw [e] at hi
  rcases List.mem_append.1 hi with hi|hi
  ·exact hI.off i hi
  ·obtain rfl:i=J[j]:=by simpa using hi
   exact ht
end
theorem fpos_at{u:Nat→Tb}{key h:Nat}:∀{J:List Nat} {j:Nat} (hj:j<J.length),(∀i∈J.take j,isThere (u i) key h=false)→isThere (u J[j]) key h=true→fpos u key h J=j
 | i::l,0,_,_,ht=>by
  unfold fpos;exact if_pos ht
 | i::l,j+1,hj,ho,ht=>by
  have h0:=ho i (by simp);have ih:=fpos_at (J:=l) (j:=j) (by simpa using hj) (fun x hx=>ho x (by simp;exact .inr hx)) ht;unfold fpos;rw [if_neg (by rw [h0];decide),ih]
theorem fpos_off{u:Nat→Tb}{key h:Nat}:∀{J:List Nat},(∀i∈J,isThere (u i) key h=false)→fpos u key h J=J.length
 | [],_=>rfl
 | i::l,ho=>by
  have h0:=ho i (by simp);have ih:=fpos_off (J:=l) (fun x hx=>ho x (by simp [hx]));unfold fpos;rw [if_neg (by rw [h0];decide),ih];rfl
theorem kst_le{u:Nat→Tb}{key h:Nat}:∀(l:List Nat) (k:Nat→Nat) (i:Nat),kst u key h l k i≤k i+lsum u key h l
 | [],k,i=>Nat.le_add_right _ _
 | j::l,k,i=>by
  have ih:=kst_le (u:=u) (key:=key) (h:=h) l (up k j (k j+looks (u j) key h)) i;show kst u key h l _ i≤k i+(looks (u j) key h+lsum u key h l)
  by_cases e:i=j
  ·subst e;rw [up_same] at ih;omega
  ·rw [up_ne _ _ e] at ih;omega
theorem lsum_le{u:Nat→Tb}{key h:Nat}:∀(l:List Nat),(∀i∈l,looks (u i) key h≤64)→lsum u key h l≤64*l.length
 | [],_=>Nat.le_refl _
 | j::l,hl=>by
  have ih:=lsum_le (u:=u) (key:=key) (h:=h) l fun i hi=>hl i (List.mem_cons_of_mem _ hi)
  have h1:=hl j List.mem_cons_self;rw [List.length_cons];show looks (u j) key h+lsum u key h l≤_;omega
theorem fndE_pos{u:Nat→Tb}{key h:Nat}{J:List Nat}{j:Nat}(hj:j<J.length)(ho:∀i∈J.take j,isThere (u i) key h=false)(ht:isThere (u J[j]) key h=true):fndE u key h J=entOf (u J[j]) key h∧fnd u key h J=some J[j]:=by
 have e:=fpos_at hj ho ht;have e2:fnd u key h J=some J[j]:=by rw [fnd_fpos,e,List.getElem?_eq_getElem hj]
 exact⟨by unfold fndE;rw [e2],e2⟩
theorem fndE_off{u:Nat→Tb}{key h:Nat}{J:List Nat}(ho:∀i∈J,isThere (u i) key h=false):fndE u key h J=⟨1,0,0,0⟩∧fnd u key h J=none:=by
 have e:=fpos_off ho;have e2:fnd u key h J=none:=by rw [fnd_fpos,e];exact List.getElem?_eq_none (Nat.le_refl _)
 exact⟨by unfold fndE;rw [e2],e2⟩
theorem Wn.newset{w0:World}{Z:Lay}{u:Nat→Tb}{k:Nat→Nat}{W:World}(h:Wn w0 Z u k W){X:Nat}(hX:X∉Z.rall)(h0:w0.heap.size≤X)(i:Nat)(v:Value):Wn w0 Z u k (W.setCell ⟨X,i,none⟩ v):=by
 have hp:Past [X] W (W.setCell ⟨X,i,none⟩ v):=(Past.refl [X] W).store (p:=⟨X,i,none⟩) (.inl (by simp)) v;refine h.past hp (h.bel.trans (hp.below h.bel.size fun b hb=>?_)) fun b hb=>?_
 ·obtain rfl:b=X:=by simpa using hb
  exact h0
 ·obtain rfl:b=X:=by simpa using hb
  exact hX
theorem past_newset{d:List Nat}{w W:World}(hp:Past d w W){X:Nat}(hX:w.heap.size≤X)(i:Nat)(v:Value):Past d w (W.setCell ⟨X,i,none⟩ v):=
 ⟨hp.os,hp.tape,hp.output,by simpa [World.setCell] using hp.size,fun k hk hn=>(Below.heap_setCell _ _ _ _ (by show k≠X;omega)).trans (hp.block k hk hn)⟩
def pI(u:Nat→Tb)(key h:Nat)(J:List Nat):Int:=if (fnd u key h J).isSome=true then (fpos u key h J:Int) else -1
set_option maxRecDepth 20000 in
theorem rdfind_any(w0:World)(Z:Lay)(u:Nat→Tb)(k:Nat→Nat)(key h:Nat)(hh:h<18446744073709551616)(J:List Nat)(hJ:J.length≤2)(hJN:∀i∈J,i<Z.N)(R:Nat)(w:World)(hW:Wn w0 Z u k w)(hk:∀i,i<Z.N→k i≤100000000)
  (cR:∀W,Below w.heap.size w W→Calls Tryz.prog 107 #[.pointer (some ⟨R,0,none⟩),.int .u64 (h:Nat)] W fun e w'=>∃B c,e=.returned (.slice (some ⟨B,0,none⟩) J.length c)∧(∀i (hi:i<J.length),w'.cell? ⟨B,i,none⟩=some (.pointer (some ⟨(Z.F J[i]).R,0,none⟩)))∧W.heap.size≤B∧Below W.heap.size W w') :
  Calls Tryz.prog 105 #[.pointer (some ⟨R,0,none⟩),.int .u64 (key:Nat),.int .u64 (h:Nat)] w fun e w'=>e=.returned (.tuple #[group.entV (fndE u key h J).key (fndE u key h J).val (fndE u key h J).hash,.int .i64 (pI u key h J)])∧Wn w0 Z u (kst u key h (J.take (fpos u key h J+1)) k) w'∧Past Z.rall w w':=by
 have hb0:=new_block w (.cells #[.int .u64 0,.int .u64 0,.int .u64 0] 44);have hX:=EBox.new 0 0 0 w
 have lks:∀i∈J,looks (u i) key h≤64:=fun i hi=>by
  have:=looks_le (u i) key h;have:=okN_le (hW.uok i (hJN i hi)).n;omega
 have lsm:∀j,lsum u key h (J.take j)≤128:=fun j=>by
  have h1:=lsum_le (u:=u) (key:=key) (h:=h) (J.take j) fun i hi=>lks i (List.mem_of_mem_take hi)
  have h2:(J.take j).length≤2:=by rw [List.length_take];omega
  omega
 have HLS:=Lib.hid lsm;have HW:=Lib.hid hW;have HK:=Lib.hid hk;have hlt:∀b∈Z.rall,b<w.heap.size:=fun b hb=>hW.lts hb
 have HLT:=Lib.hid hlt;clear lks lsm hW hk hlt
 go_enter Tryz.func105,Tryz.ntmps105
 go_wp2_with (fail)
 refine (cR _ hb0).mono ?_;rintro e w1 ⟨B,c,rfl,hP,hB,hb1⟩;have hb01:=under.below_step hb0 hb1;have hz0:=World.size_alloc w (.cells #[.int .u64 0,.int .u64 0,.int .u64 0] 44);have HI:=Lib.hid (show RfI w0 Z u k key h J B 0 w1∧EBox w.heap.size 0 0 0 w1∧Past Z.rall w w1 from⟨⟨by simpa [kst] using HW.out.read hb01,fun i hi=>by simp at hi,hP,fun e=>by have:=HLT.out _ e;omega⟩,hX.keep hb1,Past.of hb01⟩);clear hX hP hB cR hb0 hb1 hb01
 go_wp2_with (fail)
 go_loopw [16] (fun i wr=>∃j:Nat,j≤J.length∧i=.int .i64 j∧Hid (RfI w0 Z u k key h J B j wr∧EBox w.heap.size 0 0 0 wr∧Past Z.rall w wr)) (fun i _=>J.length-(intOf i).toNat)
 case atStart=>exact⟨0,by omega,rfl,HI⟩
 case round =>
  obtain⟨j,hj,rfl,HF⟩:=hrel;clear HI
  rcases Nat.lt_or_ge j J.length with hjl|hjl
  ·have hji:(j:Int)<(J.length:Int):=by omega
   have hc:=HF.out.1.ps j hjl;have hadd:(⟨B,0,none⟩:Addr).add j=⟨B,j,none⟩:=by rw [add_at,Nat.zero_add]
   have hi:=hJN _ (List.getElem_mem hjl)
   have cF:=HF.out.1.w.rfind hi key h hh (by
    have h1:=kst_le (u:=u) (key:=key) (h:=h) (J.take j) k J[j];have h2:=HLS.out j;have h3:=HK.out _ hi
    omega)
   have HN:=Lib.hid (fun (W':World) ht hw hp=>HF.out.1.next (W':=W') hjl ht hw hp);have HE:=Lib.hid (fun ht=>fndE_pos hjl HF.out.1.off ht);have HP:=Lib.hid (fun ht=>fpos_at hjl HF.out.1.off ht);have eT:J.take (j+1)=J.take j++[J[j]]:=by rw [List.take_add_one,List.getElem?_eq_getElem hjl];rfl
   have HT:=Lib.hid eT;have HX:=Lib.hid HF.out.2;have hzl:w.heap.size<wr.heap.size:=HF.out.2.1.lt;clear eT;generalize hJj:J[j]=i at *
   generalize hen:entOf (u i) key h=en at *
   generalize hit:isThere (u i) key h=it at *
   cases it with
   | false =>
    clear HE HP HT
    go_wp2_with (go_at_call 50;refine cF.mono ?_;clear cF;rintro e w2 ⟨rfl,hw2,hp2⟩)
    have hb3:=new_block w2 (.cells #[.int .u64 (en.key:Nat),.int .u64 (en.val:Nat),.int .u64 (en.hash:Nat)] 44);have HN2:=Lib.hid ((HN.out _ (by simp) hw2 hp2).read hb3);have HX2:=Lib.hid (And.intro ((HX.out.1.past hp2 (fun e=>by have:=HLT.out _ e;omega)).keep hb3) ((HX.out.2.trans hp2).trans (Past.of hb3)));clear hw2 hp2 hb3 HN
    go_roundw
    case rel=>exact⟨j+1,by omega,by simp,Lib.hid ⟨HN2.out,HX2.out⟩⟩
    case measure=>simp [intOf];omega
   | true =>
    obtain⟨e1,e2⟩:=HE.out rfl;have e3:=HP.out rfl;clear HN HE HP
    go_wp2_with (go_at_call 50;refine cF.mono ?_;clear cF;rintro e w2 ⟨rfl,hw2,hp2⟩;have hr2:=(HX.out.1.past hp2 (fun e=>by have:=HLT.out _ e;omega)).keep (new_block w2 (.cells #[.int .u64 (en.key:Nat),.int .u64 (en.val:Nat),.int .u64 (en.hash:Nat)] 44));have hE2:=EBox.new en.key en.val en.hash w2;have y0:=hE2.c0;have y1:=hE2.c1;have y2:=hE2.c2;have x0:=hr2.c0;have x1:=hr2.c1;have x2:=hr2.c2;have x3:=hr2.fz;have hz:=hp2.size;have hnx:w2.heap.size≠w.heap.size:=(by omega))
    refine bodyPost_ret (v:=.tuple #[group.entV en.key en.val en.hash,.int .i64 j]) (by simp [results,Tryz.results105,go_sem,x0,x1,x2]) rfl ⟨?_, ?_, ?_⟩
    ·rw [e1]
     unfold pI;rw [e2,e3];rfl
    ·have hw3:=hw2.read (new_block w2 (.cells #[.int .u64 (en.key:Nat),.int .u64 (en.val:Nat),.int .u64 (en.hash:Nat)] 44))
     rw [e3,HT.out,kst_snoc];have nX:w.heap.size∉Z.rall:=fun e=>by have:=HLT.out _ e;omega
     have gX:=HW.out.bel.size;exact ((hw3.newset nX gX 0 _).newset nX gX 1 _).newset nX gX 2 _
    ·exact past_newset (past_newset (past_newset ((HX.out.2.trans hp2).trans (Past.of (new_block w2 (.cells #[.int .u64 (en.key:Nat),.int .u64 (en.val:Nat),.int .u64 (en.hash:Nat)] 44)))) (Nat.le_refl _) 0 _) (Nat.le_refl _) 1 _) (Nat.le_refl _) 2 _
  ·obtain rfl:j=J.length:=by omega
   have hI:=HF.out.1;have ho:=hI.off;have hw:=hI.w;rw [List.take_length] at ho hw;obtain⟨e1,e2⟩:=fndE_off ho;have e3:=fpos_off ho;have x0:=HF.out.2.1.c0;have x1:=HF.out.2.1.c1;have x2:=HF.out.2.1.c2;have x3:=HF.out.2.1.fz;have HWJ:=Lib.hid hw;clear hI ho hw;go_wp2;refine bodyPost_ret (v:=.tuple #[group.entV 0 0 0,.int .i64 (-1)]) (by simp [results,Tryz.results105,go_sem,x0,x1,x2]) rfl ⟨?_, ?_, ?_⟩
   ·rw [e1]
    unfold pI;rw [e2];rfl
   ·rw [e3,List.take_of_length_le (by omega)]
    have nX:w.heap.size∉Z.rall:=fun e=>by have:=HLT.out _ e;omega
    have gX:=HW.out.bel.size;exact ((HWJ.out.newset nX gX 0 _).newset nX gX 1 _).newset nX gX 2 _
   ·exact past_newset (past_newset (past_newset HF.out.2.2 (Nat.le_refl _) 0 _) (Nat.le_refl _) 1 _) (Nat.le_refl _) 2 _
def kvs(k:Nat→Nat)(n:Nat):List Value:=(List.range n).map fun i=>.int .i64 (k i:Nat)
theorem kvs_snoc(k:Nat→Nat)(n:Nat):kvs k (n+1)=kvs k n++[.int .i64 (k n:Nat)]:=by unfold kvs;rw [List.range_succ,List.map_append];rfl
theorem kvs_at(k:Nat→Nat)(n i:Nat)(h:i<n):(kvs k n)[i]?=some (.int .i64 (k i:Nat)):=by unfold kvs;simp [h]
theorem infoI:(Tryz.prog.info? 3).map (fun i=>(i.zero,i.size,i.bytes))=some (some (.int .i64 0),1,8):=by kernel_rfl
set_option maxRecDepth 20000 in
theorem rdlooks_any{R E bare G c d next:Nat}{tk:Bool}{Z:Lay}{w0 w:World}{u:Nat→Tb}{k:Nat→Nat}(hN:Z.N=2∨Z.N=3)(h:Dd R E bare tk w)(hE:EmAt E G c Z d next w)(hW:Wn w0 Z u k w) :
  Calls Tryz.prog 106 #[.pointer (some ⟨R,0,none⟩)] w fun e w'=>∃B c,e=.returned (.slice (some ⟨B,0,none⟩) Z.N c)∧(∀i,i<Z.N→w'.cell? ⟨B,i,none⟩=some (.int .i64 (k i:Nat)))∧w.heap.size≤B∧Below w.heap.size w w':=by
 obtain⟨i0,hi0,hq0,hq1,hq2⟩:=info_parts infoI;have c0:=h.c0;have e0:=hE.c0;have e1:=hE.c1;have f1:=(hW.wa 0 (by omega)).cell1;have b0:=new_block w (.cells #[.int .i64 (k 0:Nat)] 3);have hr0:(w.alloc (.cells #[.int .i64 (k 0:Nat)] 3)).ownsRow w.heap.size 3 1 (.slice (some ⟨w.heap.size,0,none⟩) 1 1) 1 (kvs k 1):=World.ownsRow_lit w #[.int .i64 (k 0:Nat)] 1 (Nat.le_refl _) (by decide) rfl;have y0:=keepc b0 c0;have y1:=keepc b0 e1;have HI:=Lib.hid (And.intro hr0 b0);have HH:=Lib.hid (fun W (hb:Below w.heap.size w W)=>And.intro (hE.keep hb) (hW.read hb));obtain⟨nb,hnb⟩:∃nb,Z.N-1=nb:=⟨_,rfl⟩;rw [hnb] at e1 y1;have HNB:=Lib.hid (show Z.N=nb+1 by omega);have hnb2:nb≤2:=by omega
 clear h hE hW hr0 b0 hnb
 go_enter Tryz.func106,Tryz.ntmps106
 go_wp2
 go_loopw [25,3] (fun i v wr=>∃m:Nat,m≤nb∧i=.int .i64 m∧Hid (wr.ownsRow w.heap.size 3 1 v (m+1) (kvs k (m+1))∧Below w.heap.size w wr)) (fun i _ _=>nb-(intOf i).toNat)
 case atStart=>exact⟨0,by omega,rfl,HI⟩
 case round =>
  obtain⟨m,hm,rfl,HF⟩:=hrel;clear HI y0 y1
  rcases Nat.lt_or_ge m nb with hml|hml
  ·have hmi:(m:Int)<(nb:Int):=by omega
   obtain⟨hE,hW⟩:=HH.out _ HF.out.2;have g0:=hE.tg (m+1) (by omega) (by have:=HNB.out;omega);rw [Nat.add_sub_cancel] at g0;have f2:=(hW.wa (m+1) (by have:=HNB.out;omega)).cell1;have hadd:(⟨G,0,none⟩:Addr).add m=⟨G,m,none⟩:=by rw [add_at,Nat.zero_add]
   obtain⟨g9,c9,hg9,_,_⟩:=HF.out.1.form (by omega);subst hg9;clear hE hW
   go_wp2_with (at_builtin;refine wpList_append_lies _ rfl _ _ 149 rfl w.heap.size 3 i0 (.int .i64 0) 1 8 Tryz.underlying149 hi0 hq0 hq1 hq2 rfl (by decide) _ _ _ rfl (row_below HF.out.1 (new_block _ _)) ⟨wr.heap.size,0,none⟩ 1 1 [.int .i64 (k (m+1):Nat)] rfl rfl (cell_one_new wr _ _) (by simp [Value.oneCell']) (by decide) (by simp only [maxLen];omega) (by omega) (by simp;omega) (wr.heap.size+1) (by simp) ?_;intro g1 c1 w3 hrA hgA haA hlA)
   have hb4:Below w.heap.size w w3:=by
    have hbx:=HF.out.2;have hz:=hbx.size;refine Below.grown (under.below_step hbx (new_block wr (.cells #[.int .i64 (k (m+1):Nat)] 3))) hgA (by rw [World.size_alloc];omega) fun x hx=>?_
    have h1:=HF.out.1.lt x hx;exact h1.1
   rw [←kvs_snoc] at hrA;have HN:=Lib.hid (And.intro hrA hb4);clear hrA hgA haA hlA hb4
   go_roundw
   case rel=>exact⟨m+1,by omega,by simp,HN⟩
   case measure=>simp [intOf];omega
  ·obtain rfl:m=nb:=by omega
   obtain⟨g9,c9,hg9,hgb,_⟩:=HF.out.1.form (by omega);subst hg9;go_wp2
   go_ret
   refine⟨g9,c9,by rw [HNB.out];rfl,fun i hi=>?_,hgb,HF.out.2⟩;have hi':i<m+1:=by have:=HNB.out;omega
   rw [HF.out.1.cellAt i (by omega),kvs_at k _ i hi']
def kb(k k0:Nat→Nat)(j:Nat):Nat→Nat:=fun i=>if i<j then k0 i else k i
theorem kb_next(k k0:Nat→Nat)(j:Nat):up (kb k k0 j) j (k0 j)=kb k k0 (j+1):=by
 funext i;unfold up kb
 by_cases e:i=j
 ·subst e;rw [if_pos rfl,if_pos (by omega)]
 ·rw [if_neg e]
  by_cases e2:i<j
  ·rw [if_pos e2,if_pos (by omega)]
  ·rw [if_neg e2,if_neg (by omega)]
theorem kb_zero(k k0:Nat→Nat):kb k k0 0=k:=by funext i;unfold kb;rw [if_neg (by omega)]
set_option maxRecDepth 20000 in
theorem rdagain_any{R E bare G c d next:Nat}{tk:Bool}{Z:Lay}{w0 w:World}{u:Nat→Tb}{k k0:Nat→Nat}(hN:Z.N=2∨Z.N=3)(h:Dd R E bare tk w)(hE:EmAt E G c Z d next w)(hW:Wn w0 Z u k w)(hR:R∉Z.rall)(hEr:E∉Z.rall)(hG:G∉Z.rall)(B cB:Nat)(hB:∀i,i<Z.N→w.cell? ⟨B,i,none⟩=some (.int .i64 (k0 i:Nat)))(nB:B∉Z.rall) :
  Calls Tryz.prog 108 #[.pointer (some ⟨R,0,none⟩),.slice (some ⟨B,0,none⟩) Z.N cB] w fun e w'=>e=.returned (.tuple #[])∧Wn w0 Z u (kb k k0 Z.N) w'∧Past Z.rall w w':=by
 have y0:=Under.cell h.c0;have y1:=Under.cell hE.c0;have y2:=Under.cell (hB 0 (by omega));have HH:=Lib.hid (fun W (hp:Past Z.rall w W)=>And.intro (h.past hp hR) (And.intro (hE.past hp hEr hG) (fun i (hi:i<Z.N)=>hp.cell (hB i hi) nB)));have HW:=Lib.hid hW;obtain⟨nb,hnb⟩:∃nb,Z.N=nb+1:=⟨Z.N-1,by omega⟩;have HNB:=Lib.hid hnb;have hnb2:nb≤2:=by omega
 have hnp:(0:Int)<((nb+1:Nat):Int):=by omega
 have hn1:0<nb+1:=by omega
 rw [hnb];clear h hE hW hB hnb
 go_enter Tryz.func108,Tryz.ntmps108
 go_upto_region 0 with (fail)
 refine one.wp_region_one 12 _ (by kernel_rfl) (by kernel_rfl) rfl ?_;simp only [List.take_succ_cons,List.take_zero,List.drop_succ_cons,List.drop_zero]
 repeat (quiet_step (fail))
 refine wpQuiet_nil ?_;intro y Kc hKc;have hw2:=HW.out.read y.below;have f1:=(hw2.wa 0 (by have:=HNB.out;omega)).cell1;have ff:∀i,y.W.frozen? ⟨(Z.F 0).R,i,none⟩=false:=fun i=>frozen_of_row _ _ i _ _ (hw2.wa 0 (by have:=HNB.out;omega)).row
 obtain⟨hs1,hs2⟩:=hw2.setK (i:=0) (by have:=HNB.out;omega) (k0 0);have hp2:=(Past.of (d:=Z.rall) y.below).trans hs2;have HS:=Lib.hid (And.intro hs1 hp2);clear y0 y1 y2 hw2 hs1 hs2 hp2;generalize y.W=w4 at *
 go_simp;refine hKc _ _ ?_;clear hKc Kc f1 ff;refine wpQuiet_nil ?_;intro y3;have HS3:=Lib.hid (show Wn w0 Z u (kb k k0 (0+1)) y3.W∧Past Z.rall w y3.W from⟨by rw [←kb_next,kb_zero];exact HS.out.1.read y3.below,HS.out.2.trans (Past.of y3.below)⟩);clear HS;generalize y3.W=w5 at *
 obtain⟨hD5,hE5,hB5⟩:=HH.out _ HS3.out.2;have z0:=hD5.c0;have z1:=hE5.c1;rw [HNB.out,Nat.add_sub_cancel] at z1;clear hD5 hE5 hB5;go_wp2
 go_loopw [26] (fun i wr=>∃m:Nat,m≤nb∧i=.int .i64 m∧Hid (Wn w0 Z u (kb k k0 (m+1)) wr∧Past Z.rall w wr)) (fun i _=>nb-(intOf i).toNat)
 case atStart=>exact⟨0,by omega,rfl,HS3⟩
 case round =>
  obtain⟨m,hm,rfl,HF⟩:=hrel;clear HS3 z0 z1
  rcases Nat.lt_or_ge m nb with hml|hml
  ·have hmi:(m:Int)<(nb:Int):=by omega
   obtain⟨hD,hE,hB⟩:=HH.out _ HF.out.2;have hi:m+1<Z.N:=by have:=HNB.out;omega
   have g0:=hE.tg (m+1) (by omega) hi;rw [Nat.add_sub_cancel] at g0;have b0:=hB (m+1) hi;have f1:=(HF.out.1.wa (m+1) hi).cell1;have ff:∀i,wr.frozen? ⟨(Z.F (m+1)).R,i,none⟩=false:=fun i=>frozen_of_row _ _ i _ _ (HF.out.1.wa (m+1) hi).row
   have hadd:(⟨G,0,none⟩:Addr).add m=⟨G,m,none⟩:=by rw [add_at,Nat.zero_add]
   have hadd2:(⟨B,0,none⟩:Addr).add (m+1)=⟨B,m+1,none⟩:=by rw [add_at,Nat.zero_add]
   have hw1:IntKind.i64.wrap ((m:Int)+1)=((m+1:Nat):Int):=by rw [IntWalk.i64_in _ (by omega)];omega
   have hlt:((m+1:Nat):Int)<((nb+1:Nat):Int):=by omega
   have hlt2:m+1<nb+1:=by omega
   have h0:(0:Int)≤((m+1:Nat):Int):=by omega
   obtain⟨hs1,hs2⟩:=HF.out.1.setK hi (k0 (m+1));rw [kb_next] at hs1;have HN:=Lib.hid (And.intro hs1 (HF.out.2.trans hs2));clear hD hE hB hs1 hs2 hi;go_wp2
   go_roundw
   case rel=>exact⟨m+1,by omega,by simp,HN⟩
   case measure=>simp [intOf];omega
  ·obtain rfl:m=nb:=by omega
   go_wp2
   go_end0
   exact⟨rfl,HF.out.1,HF.out.2⟩
structure Rd(w0:World)(R E G c d next bare:Nat)(tk:Bool)(Z:Lay)(u:Nat→Tb)(k:Nat→Nat)(W:World):Prop where
 dd:Dd R E bare tk W
 em:EmAt E G c Z d next W
 wn:Wn w0 Z u k W
 oR:R∉Z.rall
 oE:E∉Z.rall
 oG:G∉Z.rall
 N:Z.N=2∨Z.N=3
 ld:d≤15
 nRE:R≠E
 nRG:R≠G
section
variable {w0:World} {R E G c d next bare:Nat} {tk:Bool} {Z:Lay} {u u':Nat→Tb} {k k':Nat→Nat} {w W W':World}
theorem Rd.read(h:Rd w0 R E G c d next bare tk Z u k W)(hb:Below W.heap.size W W'):Rd w0 R E G c d next bare tk Z u k W':=⟨h.dd.keep hb,h.em.keep hb,h.wn.read hb,h.oR,h.oE,h.oG,h.N,h.ld,h.nRE,h.nRG⟩
theorem Rd.go(h:Rd w0 R E G c d next bare tk Z u k W)(hw:Wn w0 Z u' k' W')(hp:Past Z.rall W W'):Rd w0 R E G c d next bare tk Z u' k' W':=⟨h.dd.past hp h.oR,h.em.past hp h.oE h.oG,hw,h.oR,h.oE,h.oG,h.N,h.ld,h.nRE,h.nRG⟩
theorem Rd.rows(h:Rd w0 R E G c d next bare tk Z u k w)(hs:Nat)(hh:hs<18446744073709551616):∀W,Below w.heap.size w W→Calls Tryz.prog 107 #[.pointer (some ⟨R,0,none⟩),.int .u64 (hs:Nat)] W fun e w'=>∃B cB,e=.returned (.slice (some ⟨B,0,none⟩) (js (decide (bare=0)) Z.N d hs).length cB)∧(∀i (hi:i<(js (decide (bare=0)) Z.N d hs).length),w'.cell? ⟨B,i,none⟩=some (.pointer (some ⟨(Z.F (js (decide (bare=0)) Z.N d hs)[i]).R,0,none⟩)))∧W.heap.size≤B∧Below W.heap.size W w':=by
 intro W hb;have hW:=h.read hb
 by_cases h0:bare=0
 ·subst h0
  refine (rrows_yes hW.N hW.ld hW.dd hW.em hs hh).mono fun e w' ⟨B,he,c0,c1,hB,hb'⟩=>⟨B,2,he,fun i hi=>?_,hB,hb'⟩
  have hi2:i<2:=hi;obtain rfl|rfl:i=0∨i=1:=by omega
  ·exact c0
  ·exact c1
 ·have e0:decide (bare=0)=false:=decide_eq_false h0
  rw [e0];refine (rrows_no hW.dd hW.em (by omega) hs).mono fun e w' ⟨B,he,c0,hB,hb'⟩=>⟨B,1,he,fun i hi=>?_,hB,hb'⟩
  have hi2:i<1:=hi;obtain rfl:i=0:=by omega
  exact c0
theorem js_in(hN:Z.N=2∨Z.N=3)(rd:Bool)(hs:Nat):∀i∈js rd Z.N d hs,i<Z.N:=fun i hi=>by
 cases rd
 ·obtain rfl:i=0:=by simpa [js] using hi
  omega
 ·have q:=tgt_lt hN d hs
  have : i=tgt Z.N d hs∨i=0:=by simpa [js] using hi
  rcases this with rfl|rfl
  ·exact q
  ·omega
theorem Rd.find(h:Rd w0 R E G c d next bare tk Z u k w)(key hs:Nat)(hh:hs<18446744073709551616)(hk:∀i,i<Z.N→k i≤100000000) :
  Calls Tryz.prog 105 #[.pointer (some ⟨R,0,none⟩),.int .u64 (key:Nat),.int .u64 (hs:Nat)] w fun e w'=>e=.returned (.tuple #[group.entV (fndE u key hs (js (decide (bare=0)) Z.N d hs)).key (fndE u key hs (js (decide (bare=0)) Z.N d hs)).val (fndE u key hs (js (decide (bare=0)) Z.N d hs)).hash,.int .i64 (pI u key hs (js (decide (bare=0)) Z.N d hs))])∧(∃k',sumK Z.N k'=sumK Z.N k+fndK u key hs (js (decide (bare=0)) Z.N d hs)∧Rd w0 R E G c d next bare tk Z u k' w')∧Past Z.rall w w':=by
 have hJ:(js (decide (bare=0)) Z.N d hs).length≤2:=by cases decide (bare=0) <;> simp [js]
 refine (rdfind_any w0 Z u k key hs hh (js (decide (bare=0)) Z.N d hs) hJ (js_in h.N _ hs) R w h.wn hk (h.rows hs hh)).mono fun e w' ⟨he,hw,hp⟩=>⟨he,⟨_, ?_,h.go hw hp⟩,hp⟩
 rw [kst_sum h.N _ _ fun i hi=>js_in h.N _ hs i (List.mem_of_mem_take hi),fndK_fpos]
set_option maxRecDepth 20000 in
theorem Rd.step_bare(h:Rd w0 R E G c d next bare tk Z u k w)(hb:0<bare)(hb2:bare≤1000)(hR0:w0.heap.size≤R) :
  Calls Tryz.prog 30 #[.pointer (some ⟨R,0,none⟩)] w fun e w'=>e=.returned (.tuple #[.bool true,.bool false])∧Rd w0 R E G c d next (bare-1) tk Z u k w'∧Past [R] w w':=by
 have c1:=h.dd.c1;have cf:=h.dd.fz;have d1:decide ((0:Int)<(bare:Int))=true:=decide_eq_true (by omega);have d2:decide (0<bare)=true:=decide_eq_true hb;have hw1:IntKind.i64.wrap ((bare:Int)-1)=((bare-1:Nat):Int):=by rw [IntWalk.i64_in _ (by omega)];omega
 have hw2:wrap64 ((bare:Int)-1)=((bare-1:Nat):Int):=by unfold wrap64;omega
 have hp:Past [R] w (w.setCell ⟨R,1,none⟩ (.int .i64 (bare-1:Nat))):=(Past.refl [R] w).store (p:=⟨R,1,none⟩) (.inl (by simp)) _
 have hR1:∀b∈[R],w0.heap.size≤b∧b∉Z.rall:=fun b hb=>by
  obtain rfl:b=R:=by simpa using hb
  exact⟨hR0,h.oR⟩
 have hres:Rd w0 R E G c d next (bare-1) tk Z u k (w.setCell ⟨R,1,none⟩ (.int .i64 (bare-1:Nat))):=⟨h.dd.set1 _,h.em.past hp (by simp [Ne.symm h.nRE]) (by simp [Ne.symm h.nRG]),h.wn.past hp (h.wn.bel.trans (hp.below h.wn.bel.size fun b hb=>(hR1 b hb).1)) fun b hb=>(hR1 b hb).2,h.oR,h.oE,h.oG,h.N,h.ld,h.nRE,h.nRG⟩;have HR:=Lib.hid (And.intro hres hp);clear h hb hp hR1 hres hb2;generalize bare-1=b1 at *
 go_enter Tryz.func30,Tryz.ntmps30
 go_wp2
 go_ret2
 exact⟨rfl,HR.out.1,HR.out.2⟩
end
theorem kb_sum{N:Nat}(hN:N=2∨N=3)(k k0:Nat→Nat):sumK N (kb k k0 N)=sumK N k0:=by
 rcases hN with rfl|rfl <;> simp [sumK,kb]
section
variable {w0:World} {R E G c d next bare:Nat} {tk:Bool} {Z:Lay} {u u':Nat→Tb} {k k' k0:Nat→Nat} {w W W':World}
theorem Rd.again(h:Rd w0 R E G c d next bare tk Z u k w)(B cB:Nat)(hB:∀i,i<Z.N→w.cell? ⟨B,i,none⟩=some (.int .i64 (k0 i:Nat)))(nB:B∉Z.rall) :
  Calls Tryz.prog 108 #[.pointer (some ⟨R,0,none⟩),.slice (some ⟨B,0,none⟩) Z.N cB] w fun e w'=>e=.returned (.tuple #[])∧Rd w0 R E G c d next bare tk Z u (kb k k0 Z.N) w'∧Past Z.rall w w':=
 (rdagain_any h.N h.dd h.em h.wn h.oR h.oE h.oG B cB hB nB).mono fun e w' ⟨he,hw,hp⟩=>⟨he,h.go hw hp,hp⟩
theorem Rd.looks(h:Rd w0 R E G c d next bare tk Z u k w):Calls Tryz.prog 106 #[.pointer (some ⟨R,0,none⟩)] w fun e w'=>∃B c,e=.returned (.slice (some ⟨B,0,none⟩) Z.N c)∧(∀i,i<Z.N→w'.cell? ⟨B,i,none⟩=some (.int .i64 (k i:Nat)))∧w.heap.size≤B∧Below w.heap.size w w':=rdlooks_any h.N h.dd h.em h.wn
set_option maxRecDepth 20000 in
theorem Rd.put_full(h:Rd w0 R E G c d next bare tk Z u k w)(key v hs:Nat)(hh:hs<18446744073709551616)(hk:∀i,i<Z.N→k i≤100000000)(hf:fnd u key hs (js (decide (bare=0)) Z.N d hs)=none) :
  Calls Tryz.prog 49 #[.pointer (some ⟨R,0,none⟩),group.entV key v hs,.bool false] w fun e w'=>e=.returned (.tuple #[.bool false,.int .i64 2])∧(∃k',sumK Z.N k'=sumK Z.N k+fndK u key hs (js (decide (bare=0)) Z.N d hs)∧Rd w0 R E G c d next bare tk Z u k' w')∧Past Z.rall w w':=by
 have b0:=new_block w (.cells #[.int .u64 (key:Nat),.int .u64 (v:Nat),.int .u64 (hs:Nat)] 44);have hX:=EBox.new key v hs w;have x0:=hX.c0;have x1:=hX.c1;have x2:=hX.c2;have cF:=(h.read b0).find key hs hh hk;have eI:pI u key hs (js (decide (bare=0)) Z.N d hs)=-1:=by unfold pI;rw [hf];rfl
 rw [eI] at cF;have HN:=Lib.hid h.N;have hlt:∀b∈Z.rall,b<w.heap.size:=fun b hb=>h.wn.lts hb
 have HLT:=Lib.hid hlt;clear h hk eI hf hlt hX;generalize js (decide (bare=0)) Z.N d hs=J at *
 generalize fndE u key hs J=en at *
 generalize fndK u key hs J=fk at *
 go_enter Tryz.func49,Tryz.ntmps49
 go_wp2_with (first
  | (go_at_call 105;refine cF.mono ?_;clear cF;rintro e w2 ⟨rfl,⟨k1,hk1,hd1⟩,hp2⟩;have hd3:=hd1.read (new_block w2 (.cells #[.int .u64 (en.key:Nat),.int .u64 (en.val:Nat),.int .u64 (en.hash:Nat)] 44));have hp3:=((Past.of (d:=Z.rall) b0).trans hp2).trans (Past.of (new_block w2 (.cells #[.int .u64 (en.key:Nat),.int .u64 (en.val:Nat),.int .u64 (en.hash:Nat)] 44)));have cL:=hd3.looks)
  | (go_at_call 106;refine cL.mono ?_;clear cL;rintro e w4 ⟨B,cB,rfl,hB,hBn,hb4⟩;have nB:B∉Z.rall:=(fun e=>by have h1:=HLT.out _ e;have h2:=hp3.size;omega);have cA:=(hd3.read hb4).again B cB hB nB)
  | (go_at_call 108;refine cA.mono ?_;clear cA;rintro e w5 ⟨rfl,hd5,hp5⟩))
 go_ret2
 exact⟨rfl,⟨_,by rw [kb_sum HN.out];exact hk1,hd5⟩,(hp3.trans (Past.of hb4)).trans hp5⟩
set_option maxRecDepth 20000 in
theorem Rd.groups(h:Rd w0 R E G c d next bare tk Z u k w) :
  Calls Tryz.prog 115 #[.pointer (some ⟨R,0,none⟩)] w fun e w'=>e=.returned (.tuple #[.int .i64 (sumK Z.N Z.n:Nat),.int .i64 ((if bare=0 then sumK Z.N Z.n else Z.n 0:Nat):Int)])∧w=w':=by
 have c0:=h.dd.c0;have c1:=h.dd.c1;have e0:=h.em.c0
 have len:∀i,i<Z.N→w.cell? ⟨(Z.F i).R,0,none⟩=some (.slice (some ⟨(Z.F i).G,0,none⟩) (Z.n i) (Z.F i).c)∧Z.n i≤64:=fun i hi=>by
  have f0:=(h.wn.wa i hi).cell0;have hn:=h.wn.un i hi;have hle:=okN_le (h.wn.uok i hi).n;rw [hn] at f0 hle;exact⟨f0,hle⟩
 obtain⟨f0,l0⟩:=len 0 (by have:=h.N;omega);obtain⟨f1,l1⟩:=len 1 (by have:=h.N;omega);have g0:w.cell? ⟨G,0,none⟩=some (.pointer (some ⟨(Z.F 1).R,0,none⟩)):=h.em.tg 1 (Nat.le_refl _) (by have:=h.N;omega)
 have eb:((bare:Int)==0)=decide (bare=0):=by
  by_cases e:bare=0
  ·subst e;rfl
  ·rw [decide_eq_false e];exact beq_eq_false_iff_ne.2 (by omega)
 rcases h.N with hN|hN
 ·have e1:w.cell? ⟨E,1,none⟩=some (.slice (some ⟨G,0,none⟩) 1 c):=by have:=h.em.c1;rw [hN] at this;exact this
  rw [show sumK Z.N Z.n=Z.n 0+Z.n 1 from if_neg (by omega)];have x1:IntKind.i64.wrap (((Z.n 0:Nat):Int)+((Z.n 1:Nat):Int))=((Z.n 0+Z.n 1:Nat):Int):=by rw [IntWalk.i64_in _ (by omega)];omega
  clear h len;generalize Z.n 0=a0 at *
  generalize Z.n 1=a1 at *
  by_cases hb:bare=0
  ·subst hb
   rw [if_pos rfl]
   go_enter Tryz.func115,Tryz.ntmps115
   go_wp2;refine wp_loop_rounds 2 ?_
   iterate 2
    rw [rounds_succ];go_wp2
   go_ret2
   exact⟨by simp,rfl⟩
  ·rw [if_neg hb]
   have hb2:((bare:Int)==0)=false:=beq_eq_false_iff_ne.2 (by omega)
   go_enter Tryz.func115,Tryz.ntmps115
   go_wp2;refine wp_loop_rounds 2 ?_
   iterate 2
    rw [rounds_succ];go_wp2
   go_ret2
   exact⟨by simp,rfl⟩
 ·have e1:w.cell? ⟨E,1,none⟩=some (.slice (some ⟨G,0,none⟩) 2 c):=by have:=h.em.c1;rw [hN] at this;exact this
  obtain⟨f2,l2⟩:=len 2 (by omega);have g1:w.cell? ⟨G,1,none⟩=some (.pointer (some ⟨(Z.F 2).R,0,none⟩)):=h.em.tg 2 (by decide) (by omega);rw [show sumK Z.N Z.n=Z.n 0+Z.n 1+Z.n 2 from if_pos hN];have x1:IntKind.i64.wrap (((Z.n 0:Nat):Int)+((Z.n 1:Nat):Int))=((Z.n 0:Nat):Int)+((Z.n 1:Nat):Int):=IntWalk.i64_in _ (by omega);have x2:IntKind.i64.wrap (((Z.n 0:Nat):Int)+((Z.n 1:Nat):Int)+((Z.n 2:Nat):Int))=((Z.n 0:Nat):Int)+((Z.n 1:Nat):Int)+((Z.n 2:Nat):Int):=IntWalk.i64_in _ (by omega);clear h len;generalize Z.n 0=a0 at *
  generalize Z.n 1=a1 at *
  generalize Z.n 2=a2 at *
  by_cases hb:bare=0
  ·subst hb
   rw [if_pos rfl]
   go_enter Tryz.func115,Tryz.ntmps115
   go_wp2;refine wp_loop_rounds 3 ?_
   iterate 3
    rw [rounds_succ];go_wp2
   go_ret2
   exact⟨by simp,rfl⟩
  ·rw [if_neg hb]
   have hb2:((bare:Int)==0)=false:=beq_eq_false_iff_ne.2 (by omega)
   go_enter Tryz.func115,Tryz.ntmps115
   go_wp2;refine wp_loop_rounds 3 ?_
   iterate 3
    rw [rounds_succ];go_wp2
   go_ret2
   exact⟨by simp,rfl⟩
end
end dual
namespace dual
open Go.ChangeShapes Go.WideShapes Go.ChangeAt Go.RowKit Go.Shelf swar under trap meter group probe lens tail call table evac
attribute [local go_sem] Oper.semAt_some stage.pureUpon moves.stepUpon
theorem putE_there{t:Tb}{key hs:Nat}(h:isThere t key hs=true):putE' t key hs=0:=if_pos h
section
variable {w0:World} {R E G c d next bare:Nat} {tk:Bool} {Z:Lay} {u u':Nat→Tb} {k k' k0:Nat→Nat} {w W W':World}
set_option maxRecDepth 20000 in
set_option maxHeartbeats 1000000 in
theorem Rd.put_old(h:Rd w0 R E G c d next bare tk Z u k w)(key v hs:Nat)(hkey:key<18446744073709551616)(hv:v<18446744073709551616)(hh:hs<18446744073709551616)(hk:∀i,i<Z.N→k i≤100000000)(hks:sumK Z.N k+128≤100000000)(more:Bool)(i:Nat)(hf:fnd u key hs (js (decide (bare=0)) Z.N d hs)=some i) :
  Calls Tryz.prog 49 #[.pointer (some ⟨R,0,none⟩),group.entV key v hs,.bool more] w fun e w'=>e=.returned (.tuple #[.bool false,.int .i64 0])∧(∃k',sumK Z.N k'=sumK Z.N k+fndK u key hs (js (decide (bare=0)) Z.N d hs)∧Rd w0 R E G c d next bare tk Z (up u i ((u i).puts key hs v)) k' w')∧Past Z.rall w w':=by
 have b0:=new_block w (.cells #[.int .u64 (key:Nat),.int .u64 (v:Nat),.int .u64 (hs:Nat)] 44);have hX:=EBox.new key v hs w;have x0:=hX.c0;have x1:=hX.c1;have x2:=hX.c2;have cF:=(h.read b0).find key hs hh hk;have HRW:=Lib.hid (fun (k':Nat→Nat) W (h:Rd w0 R E G c d next bare tk Z u k' W)=>h.rows hs hh);have hJi:=js_in (d:=d) h.N (decide (bare=0)) hs;have hJ1:=(js_le (decide (bare=0)) Z.N d hs).1;have hJ2:=(js_le (decide (bare=0)) Z.N d hs).2;have hfk:=fndK_fpos u key hs (js (decide (bare=0)) Z.N d hs)
 have hfkb:fndK u key hs (js (decide (bare=0)) Z.N d hs)≤128:=by
  rw [hfk]
  have h1:=lsum_le (u:=u) (key:=key) (h:=hs) ((js (decide (bare=0)) Z.N d hs).take (fpos u key hs (js (decide (bare=0)) Z.N d hs)+1)) fun x hx=>by
   have h1:=looks_le (u x) key hs;have h2:=okN_le (h.wn.uok x (hJi x (List.mem_of_mem_take hx))).n;omega
  rw [List.length_take] at h1;omega
 have hfp:=fnd_fpos u key hs (js (decide (bare=0)) Z.N d hs);rw [hf] at hfp;obtain⟨p,hp⟩:∃p,fpos u key hs (js (decide (bare=0)) Z.N d hs)=p:=⟨_,rfl⟩;have eI:pI u key hs (js (decide (bare=0)) Z.N d hs)=(p:Int):=by unfold pI;rw [hf,hp];rfl
 rw [hp] at hfp
 have hpl:p<(js (decide (bare=0)) Z.N d hs).length:=by
  apply Classical.byContradiction;intro hn
  rw [List.getElem?_eq_none (by omega)] at hfp;cases hfp
 rw [List.getElem?_eq_getElem hpl] at hfp;injection hfp with hfp;have hi:i<Z.N:=hJi i (by rw [hfp];exact List.getElem_mem _);rw [eI] at cF;have HFP:=Lib.hid hfp;have HPL:=Lib.hid hpl;have HE0:=Lib.hid (putE_there (fnd_some hf).2);have HN:=Lib.hid h.N;have hlt:∀b∈Z.rall,b<w.heap.size:=fun b hb=>h.wn.lts hb
 have HLT:=Lib.hid hlt;clear h hk eI hf hlt hfk hp hJi;generalize js (decide (bare=0)) Z.N d hs=J at *
 generalize fndE u key hs J=en at *
 generalize fndK u key hs J=fk at *
 have hp2:p≤1:=by omega
 have hp0:(0:Int)≤(p:Int):=by omega
 have dp0:decide ((0:Int)≤(p:Int))=true:=decide_eq_true hp0;have dpl:(p:Int)<(J.length:Int):=by omega
 clear hJ1
 go_enter Tryz.func49,Tryz.ntmps49
 go_upto_block 0 with (first
  | (go_at_call 105;refine cF.mono ?_;clear cF;rintro e w2 ⟨rfl,⟨k1,hk1,hd1⟩,hp2⟩;have hX2:=hX.past hp2 (fun e=>by have:=HLT.out _ e;omega);have hX3:=hX2.keep (new_block w2 (.cells #[.int .u64 (en.key:Nat),.int .u64 (en.val:Nat),.int .u64 (en.hash:Nat)] 44));have hd3:=hd1.read (new_block w2 (.cells #[.int .u64 (en.key:Nat),.int .u64 (en.val:Nat),.int .u64 (en.hash:Nat)] 44));have hp3:=((Past.of (d:=Z.rall) b0).trans hp2).trans (Past.of (new_block w2 (.cells #[.int .u64 (en.key:Nat),.int .u64 (en.val:Nat),.int .u64 (en.hash:Nat)] 44)));have cL:=hd3.looks)
  | (go_at_call 106;refine cL.mono ?_;clear cL;rintro e w4 ⟨B,cB,rfl,hB,hBn,hb4⟩;have nB:B∉Z.rall:=(fun e=>by have h1:=HLT.out _ e;have h2:=hp3.size;omega);have hd4:=hd3.read hb4;have hX4:=hX3.keep hb4;have z0:=hX4.c0;have z1:=hX4.c1;have z2:=hX4.c2))
 have cW:∀W,Below w4.heap.size w4 W→Calls Tryz.prog 107 #[.pointer (some ⟨R,0,none⟩),.int .u64 (hs:Nat)] W fun e w'=>∃B cB,e=.returned (.slice (some ⟨B,0,none⟩) J.length cB)∧w'.cell? ⟨B,p,none⟩=some (.pointer (some ⟨(Z.F i).R,0,none⟩))∧W.heap.size≤B∧Below W.heap.size W w':=fun W hb=>(HRW.out k1 w4 hd4 W hb).mono fun e w' ⟨B,cB,h1,h2,h3,h4⟩=>⟨B,cB,h1,by have:=h2 p HPL.out;rwa [←HFP.out] at this,h3,h4⟩
 have hKI:k1 i+64<9223372036854775807:=by
  have:=sumK_ge HN.out k1 hi;omega
 have HD4:=Lib.hid hd4;have HB4:=Lib.hid (And.intro hB nB);have HP4:=Lib.hid (hp3.trans (Past.of hb4));have HK1:=Lib.hid hk1;clear hd4 hd3 hd1 hB nB hp3 hk1 hX hX2 hX3 hX4 hb4 hBn hp2 b0 x0 x1 x2 hks hfkb hJ2 HRW;generalize w.heap.size=X0 at *
 go_cut [11,12] from 13 to 57 (fun s11 s12 wx=>s12=.bool false∧s11=.int .i64 0∧Hid (∃k',Rd w0 R E G c d next bare tk Z (up u i ((u i).puts key hs v)) k' wx∧Past Z.rall w4 wx))
 case first =>
  go_upto_region 6 with (fail)
  obtain⟨PV,hPV⟩:∃PV,(Value.pointer (some ⟨(Z.F i).R,0,none⟩))=PV:=⟨_,rfl⟩;rw [hPV] at cW;refine rowreg.wp_region_rows p PV J.length 3 6 8 [false,false,false,true,false,false,false,false] _ rfl (by kernel_rfl) (by kernel_rfl) (by kernel_rfl) (by kernel_rfl) (by kernel_rfl) (by kernel_rfl) ?_;have q0:∀q:moves.Un (rowreg.LD w4 p PV),q.W.cell? ⟨X0,0,none⟩=some (.int .u64 (key:Nat)):=fun q=>keepc q.h.bel z0
  have q1:∀q:moves.Un (rowreg.LD w4 p PV),q.W.cell? ⟨X0,1,none⟩=some (.int .u64 (v:Nat)):=fun q=>keepc q.h.bel z1
  have q2:∀q:moves.Un (rowreg.LD w4 p PV),q.W.cell? ⟨X0,2,none⟩=some (.int .u64 (hs:Nat)):=fun q=>keepc q.h.bel z2
  haveI : Nonempty (moves.Un (rowreg.LD w4 p PV)):=⟨⟨[],w4,rowreg.LD.start _ _ _ (Below.refl _ _)⟩⟩
  have CW:=Lib.hid cW;clear cW z0 z1 z2;simp only [List.take_succ_cons,List.take_zero,List.drop_succ_cons,List.drop_zero]
  iterate 3
   refine late.pure_step (fun h=>absurd h (by decide)) (fun _ _ _=>trivial) (fun K hK=>?_);go_simp;refine hK _ ?_;clear hK K
  refine late.move_step (fun h=>absurd h (by decide)) (fun _ _ _=>trivial) (by kernel_rfl) (fun sd wd _ hd=>?_) ?_
  ·go_simp
   refine callsIn_wide.2 ((CW.out wd hd.bel).mono ?_);rintro e' w' ⟨B6,c6,rfl,q6,hB6,hb6⟩;exact⟨_,rfl,B6::sd,fun _=>⟨B6,c6,rfl,rfl,w',hd.more hb6 hB6 q6⟩,hd.more hb6 hB6 q6⟩
  intro v3 s3 hM3 K hK;obtain⟨B6,c6,rfl,rfl,-⟩:=hM3 rfl;refine hK _ ?_;clear hK K hM3;have hadd6:(⟨B6,0,none⟩:Addr).add p=⟨B6,p,none⟩:=by rw [add_at,Nat.zero_add]
  iterate 2
   refine late.pure_step (fun h=>absurd h (by decide)) (fun _ _ _=>trivial) (fun K hK=>?_);go_simp;refine hK _ ?_;clear hK K
  refine rowreg.known_step PV (fun _ _ _=>trivial) (by kernel_rfl) ?_ (fun s w hR hD=>hR rfl w hD) (fun K hK=>?_)
  ·intro _ W hW
   obtain⟨_,q6⟩:=hW.row B6 List.mem_cons_self;clear q0 q1 q2;go_simp
  refine hK _ ?_;clear hK K;refine late.pure_step (fun h=>absurd h (by decide)) (fun _ _ _=>trivial) (fun K hK=>?_);go_simp;refine hK _ ?_;clear hK K;refine late.nil_step ?_;intro w6 hw6;have hd6:=HD4.out.read hw6.bel;have hp6:Past Z.rall w4 w6:=Past.of hw6.bel;have cP:=hd6.wn.rput hi key hs v hkey hh hv hKI;rw [hPV] at cP;have HD6:=Lib.hid (And.intro hd6 hp6);clear hd6 hp6 hw6 q0 q1 q2 this CW;refine⟨by kernel_rfl, ?_⟩;go_simp;refine callsIn_wide.2 (cP.mono ?_);clear cP;rintro e w7 ⟨rfl,hw7,hp7⟩;refine⟨_,rfl, ?_⟩;have HD7:=Lib.hid (And.intro (HD6.out.1.go hw7 hp7) (HD6.out.2.trans hp7));clear hw7 hp7 HD6
  repeat (quiet_step_in (fail))
  refine wpQuietIn_nil ?_;intro y;have HD8:=Lib.hid (And.intro (HD7.out.1.read y.below) (HD7.out.2.trans (Past.of y.below)));clear HD7;generalize y.W=w8 at *
  go_wp2_with (fail)
  go_meet;refine⟨rfl, ?_,Lib.hid ⟨_,HD8.out⟩⟩;rw [←HFP.out,HE0.out];rfl
 case rest =>
  obtain⟨rfl,rfl,HC⟩:=hcut;obtain⟨k2,hd8,hp8⟩:=HC.out;have cA:=hd8.again B cB (fun x hx=>hp8.cell (HB4.out.1 x hx) HB4.out.2) HB4.out.2;clear HC
  go_wp2_with (go_at_call 108;refine cA.mono ?_;clear cA;rintro e w9 ⟨rfl,hd9,hp9⟩)
  go_ret2
  exact⟨rfl,⟨_,by rw [kb_sum HN.out];exact HK1.out,hd9⟩,(HP4.out.trans hp8).trans hp9⟩
set_option maxRecDepth 20000 in
set_option maxHeartbeats 1000000 in
theorem Rd.put_new(h:Rd w0 R E G c d next bare tk Z u k w)(key v hs:Nat)(hkey:key<18446744073709551616)(hv:v<18446744073709551616)(hh:hs<18446744073709551616)(hk:∀i,i<Z.N→k i≤100000000)(hks:sumK Z.N k+128≤100000000)(i:Nat)(hf:fnd u key hs (js (decide (bare=0)) Z.N d hs)=none)(hi0:(js (decide (bare=0)) Z.N d hs).headD 0=i) :
  Calls Tryz.prog 49 #[.pointer (some ⟨R,0,none⟩),group.entV key v hs,.bool true] w fun e w'=>e=.returned (.tuple #[.bool (putB' (u i) key hs),.int .i64 (putE' (u i) key hs:Nat)])∧(∃k',sumK Z.N k'=sumK Z.N k+fndK u key hs (js (decide (bare=0)) Z.N d hs)∧Rd w0 R E G c d next bare tk Z (up u i ((u i).puts key hs v)) k' w')∧Past Z.rall w w':=by
 have b0:=new_block w (.cells #[.int .u64 (key:Nat),.int .u64 (v:Nat),.int .u64 (hs:Nat)] 44);have hX:=EBox.new key v hs w;have x0:=hX.c0;have x1:=hX.c1;have x2:=hX.c2;have cF:=(h.read b0).find key hs hh hk;have HRW:=Lib.hid (fun (k':Nat→Nat) W (h:Rd w0 R E G c d next bare tk Z u k' W)=>h.rows hs hh);have hJi:=js_in (d:=d) h.N (decide (bare=0)) hs;have hJ1:=(js_le (decide (bare=0)) Z.N d hs).1;have hJ2:=(js_le (decide (bare=0)) Z.N d hs).2;have hfk:=fndK_fpos u key hs (js (decide (bare=0)) Z.N d hs)
 have hfkb:fndK u key hs (js (decide (bare=0)) Z.N d hs)≤128:=by
  rw [hfk]
  have h1:=lsum_le (u:=u) (key:=key) (h:=hs) ((js (decide (bare=0)) Z.N d hs).take (fpos u key hs (js (decide (bare=0)) Z.N d hs)+1)) fun x hx=>by
   have h1:=looks_le (u x) key hs;have h2:=okN_le (h.wn.uok x (hJi x (List.mem_of_mem_take hx))).n;omega
  rw [List.length_take] at h1;omega
 have eI:pI u key hs (js (decide (bare=0)) Z.N d hs)=-1:=by unfold pI;rw [hf];rfl
 obtain⟨p,hp⟩:∃p,p=0:=⟨_,rfl⟩;have hpl:p<(js (decide (bare=0)) Z.N d hs).length:=by omega
 have hfp:i=(js (decide (bare=0)) Z.N d hs)[p]:=by subst hp;rw [head_at (by omega)];exact hi0.symm
 have hi:i<Z.N:=hJi i (by rw [hfp];exact List.getElem_mem _);rw [eI] at cF;have HFP:=Lib.hid hfp;have HPL:=Lib.hid hpl;have HN:=Lib.hid h.N;have hlt:∀b∈Z.rall,b<w.heap.size:=fun b hb=>h.wn.lts hb
 have HLT:=Lib.hid hlt;clear h hk eI hf hlt hfk hJi hi0 hfp;generalize js (decide (bare=0)) Z.N d hs=J at *
 generalize fndE u key hs J=en at *
 generalize fndK u key hs J=fk at *
 have dpl:(0:Int)<(J.length:Int):=by omega
 have dpl2:0<J.length:=by omega
 clear hJ1
 go_enter Tryz.func49,Tryz.ntmps49
 go_upto_block 0 with (first
  | (go_at_call 105;refine cF.mono ?_;clear cF;rintro e w2 ⟨rfl,⟨k1,hk1,hd1⟩,hp2⟩;have hX2:=hX.past hp2 (fun e=>by have:=HLT.out _ e;omega);have hX3:=hX2.keep (new_block w2 (.cells #[.int .u64 (en.key:Nat),.int .u64 (en.val:Nat),.int .u64 (en.hash:Nat)] 44));have hd3:=hd1.read (new_block w2 (.cells #[.int .u64 (en.key:Nat),.int .u64 (en.val:Nat),.int .u64 (en.hash:Nat)] 44));have hp3:=((Past.of (d:=Z.rall) b0).trans hp2).trans (Past.of (new_block w2 (.cells #[.int .u64 (en.key:Nat),.int .u64 (en.val:Nat),.int .u64 (en.hash:Nat)] 44)));have cL:=hd3.looks)
  | (go_at_call 106;refine cL.mono ?_;clear cL;rintro e w4 ⟨B,cB,rfl,hB,hBn,hb4⟩;have nB:B∉Z.rall:=(fun e=>by have h1:=HLT.out _ e;have h2:=hp3.size;omega);have hd4:=hd3.read hb4;have hX4:=hX3.keep hb4;have z0:=hX4.c0;have z1:=hX4.c1;have z2:=hX4.c2))
 have cW:∀W,Below w4.heap.size w4 W→Calls Tryz.prog 107 #[.pointer (some ⟨R,0,none⟩),.int .u64 (hs:Nat)] W fun e w'=>∃B cB,e=.returned (.slice (some ⟨B,0,none⟩) J.length cB)∧w'.cell? ⟨B,p,none⟩=some (.pointer (some ⟨(Z.F i).R,0,none⟩))∧W.heap.size≤B∧Below W.heap.size W w':=fun W hb=>(HRW.out k1 w4 hd4 W hb).mono fun e w' ⟨B,cB,h1,h2,h3,h4⟩=>⟨B,cB,h1,by have:=h2 p HPL.out;rwa [←HFP.out] at this,h3,h4⟩
 have hKI:k1 i+64<9223372036854775807:=by
  have:=sumK_ge HN.out k1 hi;omega
 have HD4:=Lib.hid hd4;have HB4:=Lib.hid (And.intro hB nB);have HP4:=Lib.hid (hp3.trans (Past.of hb4));have HK1:=Lib.hid hk1;clear hd4 hd3 hd1 hB nB hp3 hk1 hX hX2 hX3 hX4 hb4 hBn hp2 b0 x0 x1 x2 hks hfkb hJ2 HRW;generalize w.heap.size=X0 at *
 subst hp
 go_cut [11,12] from 13 to 57 (fun s11 s12 wx=>s12=.bool (putB' (u i) key hs)∧s11=.int .i64 (putE' (u i) key hs:Nat)∧Hid (∃k',Rd w0 R E G c d next bare tk Z (up u i ((u i).puts key hs v)) k' wx∧Past Z.rall w4 wx))
 case first =>
  go_upto_region 4 with (fail)
  obtain⟨PV,hPV⟩:∃PV,(Value.pointer (some ⟨(Z.F i).R,0,none⟩))=PV:=⟨_,rfl⟩;rw [hPV] at cW;refine rowreg.wp_region_rows 0 PV J.length 3 5 7 [false,false,false,true,false,false,false] _ rfl (by kernel_rfl) (by kernel_rfl) (by kernel_rfl) (by kernel_rfl) (by kernel_rfl) (by kernel_rfl) ?_;have q0:∀q:moves.Un (rowreg.LD w4 0 PV),q.W.cell? ⟨X0,0,none⟩=some (.int .u64 (key:Nat)):=fun q=>keepc q.h.bel z0
  have q1:∀q:moves.Un (rowreg.LD w4 0 PV),q.W.cell? ⟨X0,1,none⟩=some (.int .u64 (v:Nat)):=fun q=>keepc q.h.bel z1
  have q2:∀q:moves.Un (rowreg.LD w4 0 PV),q.W.cell? ⟨X0,2,none⟩=some (.int .u64 (hs:Nat)):=fun q=>keepc q.h.bel z2
  haveI : Nonempty (moves.Un (rowreg.LD w4 0 PV)):=⟨⟨[],w4,rowreg.LD.start _ _ _ (Below.refl _ _)⟩⟩
  have CW:=Lib.hid cW;clear cW z0 z1 z2;simp only [List.take_succ_cons,List.take_zero,List.drop_succ_cons,List.drop_zero]
  iterate 3
   refine late.pure_step (fun h=>absurd h (by decide)) (fun _ _ _=>trivial) (fun K hK=>?_);go_simp;refine hK _ ?_;clear hK K
  refine late.move_step (fun h=>absurd h (by decide)) (fun _ _ _=>trivial) (by kernel_rfl) (fun sd wd _ hd=>?_) ?_
  ·go_simp
   refine callsIn_wide.2 ((CW.out wd hd.bel).mono ?_);rintro e' w' ⟨B6,c6,rfl,q6,hB6,hb6⟩;exact⟨_,rfl,B6::sd,fun _=>⟨B6,c6,rfl,rfl,w',hd.more hb6 hB6 q6⟩,hd.more hb6 hB6 q6⟩
  intro v3 s3 hM3 K hK;obtain⟨B6,c6,rfl,rfl,-⟩:=hM3 rfl;refine hK _ ?_;clear hK K hM3;have hadd6:(⟨B6,0,none⟩:Addr).add 0=⟨B6,0,none⟩:=by rw [add_at,Nat.zero_add]
  iterate 1
   refine late.pure_step (fun h=>absurd h (by decide)) (fun _ _ _=>trivial) (fun K hK=>?_);go_simp;refine hK _ ?_;clear hK K
  refine rowreg.known_step PV (fun _ _ _=>trivial) (by kernel_rfl) ?_ (fun s w hR hD=>hR rfl w hD) (fun K hK=>?_)
  ·intro _ W hW
   obtain⟨_,q6⟩:=hW.row B6 List.mem_cons_self;clear q0 q1 q2;go_simp
  refine hK _ ?_;clear hK K;refine late.pure_step (fun h=>absurd h (by decide)) (fun _ _ _=>trivial) (fun K hK=>?_);go_simp;refine hK _ ?_;clear hK K;refine late.nil_step ?_;intro w6 hw6;have hd6:=HD4.out.read hw6.bel;have hp6:Past Z.rall w4 w6:=Past.of hw6.bel;have cP:=hd6.wn.rput hi key hs v hkey hh hv hKI;rw [hPV] at cP;have HD6:=Lib.hid (And.intro hd6 hp6);clear hd6 hp6 hw6 q0 q1 q2 this CW;refine⟨by kernel_rfl, ?_⟩;go_simp;refine callsIn_wide.2 (cP.mono ?_);clear cP;rintro e w7 ⟨rfl,hw7,hp7⟩;refine⟨_,rfl, ?_⟩;have HD7:=Lib.hid (And.intro (HD6.out.1.go hw7 hp7) (HD6.out.2.trans hp7));clear hw7 hp7 HD6
  repeat (quiet_step_in (fail))
  refine wpQuietIn_nil ?_;intro y;have HD8:=Lib.hid (And.intro (HD7.out.1.read y.below) (HD7.out.2.trans (Past.of y.below)));clear HD7;generalize y.W=w8 at *
  go_wp2_with (fail)
  go_meet;exact⟨rfl,rfl,Lib.hid ⟨_,HD8.out⟩⟩
 case rest =>
  obtain⟨rfl,rfl,HC⟩:=hcut;obtain⟨k2,hd8,hp8⟩:=HC.out;have cA:=hd8.again B cB (fun x hx=>hp8.cell (HB4.out.1 x hx) HB4.out.2) HB4.out.2;clear HC
  go_wp2_with (go_at_call 108;refine cA.mono ?_;clear cA;rintro e w9 ⟨rfl,hd9,hp9⟩)
  go_ret2
  exact⟨rfl,⟨_,by rw [kb_sum HN.out];exact HK1.out,hd9⟩,(HP4.out.trans hp8).trans hp9⟩
theorem Rd.put(h:Rd w0 R E G c d next bare tk Z u k w)(key v hs:Nat)(hkey:key<18446744073709551616)(hv:v<18446744073709551616)(hh:hs<18446744073709551616)(hks:sumK Z.N k+128≤100000000)(more:Bool) :
  Calls Tryz.prog 49 #[.pointer (some ⟨R,0,none⟩),group.entV key v hs,.bool more] w fun e w'=>e=.returned (.tuple #[.bool (dB u key hs (js (decide (bare=0)) Z.N d hs) more),.int .i64 (dE u key hs (js (decide (bare=0)) Z.N d hs) more:Nat)])∧(∃k',sumK Z.N k'=sumK Z.N k+fndK u key hs (js (decide (bare=0)) Z.N d hs)∧Rd w0 R E G c d next bare tk Z (dT u key hs v (js (decide (bare=0)) Z.N d hs) more) k' w')∧Past Z.rall w w':=by
 have hk:∀i,i<Z.N→k i≤100000000:=fun i hi=>by have:=sumK_ge h.N k hi;omega
 cases hf:fnd u key hs (js (decide (bare=0)) Z.N d hs) with
 | some i =>
  obtain⟨e1,e2,e3⟩:=put_found (v:=v) (more:=more) hf;rw [e1,e2,e3];exact h.put_old key v hs hkey hv hh hk hks more i hf
 | none =>
  cases more with
  | false =>
   obtain⟨e1,e2,e3⟩:=put_off (v:=v) hf;rw [e1,e2,e3];exact h.put_full key v hs hh hk hf
  | true =>
   obtain⟨e1,e2,e3⟩:=put_on (v:=v) hf;rw [e1,e2,e3];exact h.put_new key v hs hkey hv hh hk hks _ hf rfl
end
end dual
namespace dual
open Go.ChangeShapes Go.WideShapes Go.ChangeAt Go.RowKit Go.Shelf swar under trap meter group probe lens tail call table evac
attribute [local go_sem] Oper.semAt_some stage.pureUpon move.stepUpon
section
variable {w0:World} {R E G c d next bare:Nat} {tk:Bool} {Z:Lay} {u u':Nat→Tb} {k k' k0:Nat→Nat} {w W W':World}
theorem Rd.lR(h:Rd w0 R E G c d next bare tk Z u k W):R<W.heap.size∧E<W.heap.size∧G<W.heap.size:=⟨h.dd.lt,h.em.lt,h.em.lg⟩
theorem Rd.aside{l:List Nat}(h:Rd w0 R E G c d next bare tk Z u k W)(hp:Past l W W')(hl:∀b∈l,w0.heap.size≤b∧b≠R∧b≠E∧b≠G∧b∉Z.rall):Rd w0 R E G c d next bare tk Z u k W':=
 ⟨h.dd.past hp fun e=>(hl _ e).2.1 rfl,h.em.past hp (fun e=>(hl _ e).2.2.1 rfl) (fun e=>(hl _ e).2.2.2.1 rfl),h.wn.past hp (h.wn.bel.trans (hp.below h.wn.bel.size fun b hb=>(hl b hb).1)) fun b hb=>(hl b hb).2.2.2.2,h.oR,h.oE,h.oG,h.N,h.ld,h.nRE,h.nRG⟩
theorem Rd.newset(h:Rd w0 R E G c d next bare tk Z u k W){X:Nat}(h0:w0.heap.size≤X)(hX:X≠R∧X≠E∧X≠G∧X∉Z.rall)(i:Nat)(v:Value):Rd w0 R E G c d next bare tk Z u k (W.setCell ⟨X,i,none⟩ v):=
 h.aside (l:=[X]) ((Past.refl [X] W).store (p:=⟨X,i,none⟩) (.inl (by simp)) v) fun b hb=>by
  obtain rfl:b=X:=by simpa using hb
  exact⟨h0,hX⟩
set_option maxRecDepth 20000 in
set_option maxHeartbeats 1000000 in
theorem Rd.delete_none(h:Rd w0 R E G c d next bare tk Z u k w)(key hs:Nat)(hkey:key<18446744073709551616)(hh:hs<18446744073709551616)(hks:sumK Z.N k+128≤100000000)(hf:fnd u key hs (js (decide (bare=0)) Z.N d hs)=none) :
  Calls Tryz.prog 53 #[.pointer (some ⟨R,0,none⟩),.int .u64 (key:Nat),.int .u64 (hs:Nat)] w fun e w'=>e=.returned (.tuple #[group.entV (fndE u key hs (js (decide (bare=0)) Z.N d hs)).key (fndE u key hs (js (decide (bare=0)) Z.N d hs)).val (fndE u key hs (js (decide (bare=0)) Z.N d hs)).hash,.bool false])∧(∃k',sumK Z.N k'=sumK Z.N k+fndK u key hs (js (decide (bare=0)) Z.N d hs)∧Rd w0 R E G c d next bare tk Z u k' w')∧Past Z.rall w w':=by
 have hk:∀i,i<Z.N→k i≤100000000:=fun i hi=>by have:=sumK_ge h.N k hi;omega
 have b0:=new_block w (.cells #[.int .u64 0,.int .u64 0,.int .u64 0] 44);have hR:=EBox.new 0 0 0 w;have cF:=(h.read b0).find key hs hh hk;have hlR:=h.lR;have hw0:=h.wn.bel.size;have HRW:=Lib.hid (fun (k':Nat→Nat) W (h:Rd w0 R E G c d next bare tk Z u k' W)=>h.rows hs hh);have hJi:=js_in (d:=d) h.N (decide (bare=0)) hs;have hJ1:=(js_le (decide (bare=0)) Z.N d hs).1;have hJ2:=(js_le (decide (bare=0)) Z.N d hs).2;have hfk:=fndK_fpos u key hs (js (decide (bare=0)) Z.N d hs)
 have hfkb:fndK u key hs (js (decide (bare=0)) Z.N d hs)≤128:=by
  rw [hfk]
  have h1:=lsum_le (u:=u) (key:=key) (h:=hs) ((js (decide (bare=0)) Z.N d hs).take (fpos u key hs (js (decide (bare=0)) Z.N d hs)+1)) fun x hx=>by
   have h1:=looks_le (u x) key hs;have h2:=okN_le (h.wn.uok x (hJi x (List.mem_of_mem_take hx))).n;omega
  rw [List.length_take] at h1;omega
 have eI:pI u key hs (js (decide (bare=0)) Z.N d hs)=-1:=by unfold pI;rw [hf];rfl
 rw [eI] at cF;have HN:=Lib.hid h.N;have hlt:∀b∈Z.rall,b<w.heap.size:=fun b hb=>h.wn.lts hb
 have HLT:=Lib.hid hlt;clear h hk eI hf hlt hfk hJi;generalize js (decide (bare=0)) Z.N d hs=J at *
 generalize fndE u key hs J=en at *
 generalize fndK u key hs J=fk at *
 go_enter Tryz.func53,Tryz.ntmps53
 go_upto_region 6 with (first
  | (go_at_call 105;refine cF.mono ?_;clear cF;rintro e w2 ⟨rfl,⟨k1,hk1,hd1⟩,hp2⟩;have b2:=new_block w2 (.cells #[.int .u64 (en.key:Nat),.int .u64 (en.val:Nat),.int .u64 (en.hash:Nat)] 44);have hX3:=EBox.new en.key en.val en.hash w2;have hR3:=(hR.past hp2 (fun e=>by have:=HLT.out _ e;omega)).keep b2;have hd3:=hd1.read b2;have hp3:=((Past.of (d:=Z.rall) b0).trans hp2).trans (Past.of b2);have hs2:=hp2.size;have cL:=hd3.looks)
  | (go_at_call 106;refine cL.mono ?_;clear cL;rintro e w4 ⟨B,cB,rfl,hB,hBn,hb4⟩;have nB:B∉Z.rall:=(fun e=>by have h1:=HLT.out _ e;have h2:=hp3.size;omega);have hd4:=hd3.read hb4;have hX4:=hX3.keep hb4;have hR4:=hR3.keep hb4;have hp4:=hp3.trans (Past.of hb4);have cA:=hd4.again B cB hB nB)
  | (go_at_call 108;refine cA.mono ?_;clear cA;rintro e w9 ⟨rfl,hd9,hp9⟩;have hX9:=hX4.past hp9 (fun e=>by have:=HLT.out _ e;rw [World.size_alloc] at hs2;omega);have hR9:=hR4.past hp9 (fun e=>by have:=HLT.out _ e;omega);have hpF:=hp4.trans hp9))
 have HK:=Lib.hid (fun q=>show sumK Z.N (kb q k1 Z.N)=sumK Z.N k+fk from (kb_sum HN.out q k1).trans hk1);have y0:=hX9.c0;have y1:=hX9.c1;have y2:=hX9.c2;have r0:=hR9.c0;have r1:=hR9.c1;have r2:=hR9.c2;have r3:=hR9.fz;rw [World.size_alloc] at hs2;have hne:w2.heap.size≠w.heap.size:=by omega
 have HF:=Lib.hid (And.intro hd9 hpF);have HNX:=Lib.hid (show w.heap.size≠R∧w.heap.size≠E∧w.heap.size≠G∧w.heap.size∉Z.rall from⟨by omega,by omega,by omega,fun e=>by have:=HLT.out _ e;omega⟩);have HW0:=Lib.hid hw0;clear hX9 hR9 hd9 hpF hs2 hw0 hlR;go_wp2;refine bodyPost_ret (v:=.tuple #[group.entV en.key en.val en.hash,.bool false]) (by simp [results,Tryz.results53,go_sem,r0,r1,r2,hne]) rfl ⟨rfl, ?_, ?_⟩
 ·exact⟨_,HK.out _,(((HF.out.1.newset HW0.out HNX.out 0 _).newset HW0.out HNX.out 1 _).newset HW0.out HNX.out 2 _)⟩
 ·exact past_newset (past_newset (past_newset HF.out.2 (Nat.le_refl _) 0 _) (Nat.le_refl _) 1 _) (Nat.le_refl _) 2 _
set_option maxRecDepth 20000 in
set_option maxHeartbeats 1000000 in
theorem Rd.delete_some(h:Rd w0 R E G c d next bare tk Z u k w)(key hs:Nat)(hkey:key<18446744073709551616)(hh:hs<18446744073709551616)(hks:sumK Z.N k+128≤100000000)(i:Nat)(hf:fnd u key hs (js (decide (bare=0)) Z.N d hs)=some i) :
  Calls Tryz.prog 53 #[.pointer (some ⟨R,0,none⟩),.int .u64 (key:Nat),.int .u64 (hs:Nat)] w fun e w'=>e=.returned (.tuple #[group.entV (fndE u key hs (js (decide (bare=0)) Z.N d hs)).key (fndE u key hs (js (decide (bare=0)) Z.N d hs)).val (fndE u key hs (js (decide (bare=0)) Z.N d hs)).hash,.bool true])∧(∃k',sumK Z.N k'=sumK Z.N k+fndK u key hs (js (decide (bare=0)) Z.N d hs)∧Rd w0 R E G c d next bare tk Z (up u i ((u i).remove key hs)) k' w')∧Past Z.rall w w':=by
 have hk:∀i,i<Z.N→k i≤100000000:=fun i hi=>by have:=sumK_ge h.N k hi;omega
 have b0:=new_block w (.cells #[.int .u64 0,.int .u64 0,.int .u64 0] 44);have hR:=EBox.new 0 0 0 w;have cF:=(h.read b0).find key hs hh hk;have hlR:=h.lR;have hw0:=h.wn.bel.size;have HRW:=Lib.hid (fun (k':Nat→Nat) W (h:Rd w0 R E G c d next bare tk Z u k' W)=>h.rows hs hh);have hJi:=js_in (d:=d) h.N (decide (bare=0)) hs;have hJ1:=(js_le (decide (bare=0)) Z.N d hs).1;have hJ2:=(js_le (decide (bare=0)) Z.N d hs).2;have hfk:=fndK_fpos u key hs (js (decide (bare=0)) Z.N d hs)
 have hfkb:fndK u key hs (js (decide (bare=0)) Z.N d hs)≤128:=by
  rw [hfk]
  have h1:=lsum_le (u:=u) (key:=key) (h:=hs) ((js (decide (bare=0)) Z.N d hs).take (fpos u key hs (js (decide (bare=0)) Z.N d hs)+1)) fun x hx=>by
   have h1:=looks_le (u x) key hs;have h2:=okN_le (h.wn.uok x (hJi x (List.mem_of_mem_take hx))).n;omega
  rw [List.length_take] at h1;omega
 have hfp:=fnd_fpos u key hs (js (decide (bare=0)) Z.N d hs);rw [hf] at hfp;obtain⟨p,hp⟩:∃p,fpos u key hs (js (decide (bare=0)) Z.N d hs)=p:=⟨_,rfl⟩;have eI:pI u key hs (js (decide (bare=0)) Z.N d hs)=(p:Int):=by unfold pI;rw [hf,hp];rfl
 rw [hp] at hfp
 have hpl:p<(js (decide (bare=0)) Z.N d hs).length:=by
  apply Classical.byContradiction;intro hn
  rw [List.getElem?_eq_none (by omega)] at hfp;cases hfp
 rw [List.getElem?_eq_getElem hpl] at hfp;injection hfp with hfp;have hi:i<Z.N:=hJi i (by rw [hfp];exact List.getElem_mem _);rw [eI] at cF;have HFP:=Lib.hid hfp;have HPL:=Lib.hid hpl;clear hp;have HN:=Lib.hid h.N;have hlt:∀b∈Z.rall,b<w.heap.size:=fun b hb=>h.wn.lts hb
 have HLT:=Lib.hid hlt;clear h hk eI hf hlt hfk hJi;generalize js (decide (bare=0)) Z.N d hs=J at *
 generalize fndE u key hs J=en at *
 generalize fndK u key hs J=fk at *
 have hp0:(0:Int)≤(p:Int):=by omega
 have dp0:decide ((0:Int)≤(p:Int))=true:=decide_eq_true hp0;have dpl:(p:Int)<(J.length:Int):=by omega
 clear hJ1 hJ2 hfp
 go_enter Tryz.func53,Tryz.ntmps53
 go_upto_region 6 with (first
  | (go_at_call 105;refine cF.mono ?_;clear cF;rintro e w2 ⟨rfl,⟨k1,hk1,hd1⟩,hp2⟩;have b2:=new_block w2 (.cells #[.int .u64 (en.key:Nat),.int .u64 (en.val:Nat),.int .u64 (en.hash:Nat)] 44);have hX3:=EBox.new en.key en.val en.hash w2;have hR3:=(hR.past hp2 (fun e=>by have:=HLT.out _ e;omega)).keep b2;have hd3:=hd1.read b2;have hp3:=((Past.of (d:=Z.rall) b0).trans hp2).trans (Past.of b2);have hs2:=hp2.size;have cL:=hd3.looks)
  | (go_at_call 106;refine cL.mono ?_;clear cL;rintro e w4 ⟨B,cB,rfl,hB,hBn,hb4⟩;have nB:B∉Z.rall:=(fun e=>by have h1:=HLT.out _ e;have h2:=hp3.size;omega);have hd4:=hd3.read hb4;have hX4:=hX3.keep hb4;have hR4:=hR3.keep hb4;have hp4:=hp3.trans (Past.of hb4);have cW:=HRW.out k1 w4 hd4;have hKI:k1 i+64<9223372036854775807:=(by have:=sumK_ge HN.out k1 hi;omega))
  | (go_at_call 107;refine (cW _ (Below.refl _ _)).mono ?_;clear cW;rintro e w6 ⟨B6,c6,rfl,hP6,hB6,hb6⟩;have q6:=hP6 p HPL.out;rw [←HFP.out] at q6;clear hP6;have hadd6:(⟨B6,0,none⟩:Addr).add p=⟨B6,p,none⟩:=(by rw [add_at,Nat.zero_add]);have hd6:=hd4.read hb6;have hp6:=hp4.trans (Past.of hb6);have hX6:=hX4.keep hb6;have hR6:=hR4.keep hb6;have cP:=hd6.wn.rdelete hi key hs hkey hh hKI)
  | (go_at_call 54;refine cP.mono ?_;clear cP;rintro e w7 ⟨rfl,hw7,hp7⟩;have hd7:=hd6.go hw7 hp7;have hX7:=hX6.past hp7 (fun e=>by have:=HLT.out _ e;rw [World.size_alloc] at hs2;omega);have hR7:=hR6.past hp7 (fun e=>by have:=HLT.out _ e;omega);have cA:=hd7.again B cB (fun x hx=>hp7.cell (keepc hb6 (hB x hx)) nB) nB)
  | (go_at_call 108;refine cA.mono ?_;clear cA;rintro e w9 ⟨rfl,hd9,hp9⟩;have hX9:=hX7.past hp9 (fun e=>by have:=HLT.out _ e;rw [World.size_alloc] at hs2;omega);have hR9:=hR7.past hp9 (fun e=>by have:=HLT.out _ e;omega);have hpF:=(hp6.trans hp7).trans hp9))
 have HK:=Lib.hid (fun q=>show sumK Z.N (kb q k1 Z.N)=sumK Z.N k+fk from (kb_sum HN.out q k1).trans hk1);have y0:=hX9.c0;have y1:=hX9.c1;have y2:=hX9.c2;have r0:=hR9.c0;have r1:=hR9.c1;have r2:=hR9.c2;have r3:=hR9.fz;rw [World.size_alloc] at hs2;have hne:w2.heap.size≠w.heap.size:=by omega
 have HF:=Lib.hid (And.intro hd9 hpF);have HNX:=Lib.hid (show w.heap.size≠R∧w.heap.size≠E∧w.heap.size≠G∧w.heap.size∉Z.rall from⟨by omega,by omega,by omega,fun e=>by have:=HLT.out _ e;omega⟩);have HW0:=Lib.hid hw0;clear hX9 hR9 hd9 hpF hs2 hw0 hlR;go_wp2;refine bodyPost_ret (v:=.tuple #[group.entV en.key en.val en.hash,.bool true]) (by simp [results,Tryz.results53,go_sem,r0,r1,r2,hne]) rfl ⟨rfl, ?_, ?_⟩
 ·exact⟨_,HK.out _,(((HF.out.1.newset HW0.out HNX.out 0 _).newset HW0.out HNX.out 1 _).newset HW0.out HNX.out 2 _)⟩
 ·exact past_newset (past_newset (past_newset HF.out.2 (Nat.le_refl _) 0 _) (Nat.le_refl _) 1 _) (Nat.le_refl _) 2 _
theorem Rd.delete(h:Rd w0 R E G c d next bare tk Z u k w)(key hs:Nat)(hkey:key<18446744073709551616)(hh:hs<18446744073709551616)(hks:sumK Z.N k+128≤100000000) :
  Calls Tryz.prog 53 #[.pointer (some ⟨R,0,none⟩),.int .u64 (key:Nat),.int .u64 (hs:Nat)] w fun e w'=>e=.returned (.tuple #[group.entV (fndE u key hs (js (decide (bare=0)) Z.N d hs)).key (fndE u key hs (js (decide (bare=0)) Z.N d hs)).val (fndE u key hs (js (decide (bare=0)) Z.N d hs)).hash,.bool (fnd u key hs (js (decide (bare=0)) Z.N d hs)).isSome])∧(∃k',sumK Z.N k'=sumK Z.N k+fndK u key hs (js (decide (bare=0)) Z.N d hs)∧Rd w0 R E G c d next bare tk Z (eT u key hs (js (decide (bare=0)) Z.N d hs)) k' w')∧Past Z.rall w w':=by
 cases hf:fnd u key hs (js (decide (bare=0)) Z.N d hs) with
 | none =>
  rw [del_off hf];exact h.delete_none key hs hkey hh hks hf
 | some i =>
  rw [del_found hf];exact h.delete_some key hs hkey hh hks i hf
end
def entsA(u:Nat→Tb)(n:Nat):List Sl:=(List.range n).flatMap fun i=>ents (u i) (u i).n
theorem entsA_succ(u:Nat→Tb)(n:Nat):entsA u (n+1)=entsA u n++ents (u n) (u n).n:=by simp [entsA,List.range_succ]
theorem entsA_one(u:Nat→Tb):entsA u 1=ents (u 0) (u 0).n:=by simp [entsA]
theorem entsA_le{u:Nat→Tb}{N:Nat}(h:∀i,i<N→(u i).n≤64):∀k,k≤N→(entsA u k).length≤512*k
 | 0,_=>by simp [entsA]
 | k+1,hk=>by
  have h1:=entsA_le h k (by omega);have h2:=table.ents_le (u k) (u k).n;have h3:=h k (by omega);rw [entsA_succ,List.length_append];omega
section
variable {w0:World} {R E G c d next bare:Nat} {tk:Bool} {Z:Lay} {u u':Nat→Tb} {k k' k0:Nat→Nat} {w W W':World}
set_option maxRecDepth 20000 in
set_option maxHeartbeats 1000000 in
theorem Rd.all(h:Rd w0 R E G c d next bare tk Z u k w) :
  Calls Tryz.prog 55 #[.pointer (some ⟨R,0,none⟩)] w fun e w'=>∃v,e=.returned v∧KeptE w.heap.size w' v (entsA u Z.N)∧Below w.heap.size w w':=by
 obtain⟨i0,hi0,hq0,hq1,hq2⟩:=info_parts infoEnt;have hN:=h.N;have c0:=h.dd.c0;have e0:=h.em.c0;have hn6:∀i,i<Z.N→okN (u i).n:=fun i hi=>(h.wn.uok i hi).n
 have cT:=fun i (hi:i<Z.N) W (hb:Below w.heap.size w W)=>rtall_any (Z.F i) (u i) (hn6 i hi) (k i) W ((h.read hb).wn.wa i hi)
 have cE:=fun W (hb:Below w.heap.size w W)=>(h.read hb).em.c1
 have cG:=fun j (h1:1≤j) (hj:j<Z.N) W (hb:Below w.heap.size w W)=>(h.read hb).em.tg j h1 hj
 have cC:=fun W (hb:Below w.heap.size w W)=>(h.read hb).dd.c0
 obtain⟨nb,hnb⟩:∃nb,Z.N=nb+1:=⟨Z.N-1,by omega⟩;have hl0:=table.ents_le (u 0) (u 0).n;have hl6:=okN_le (hn6 0 (by omega))
 have hla:∀j,j≤Z.N→(entsA u j).length≤2000:=fun j hj=>by
  have:=entsA_le (u:=u) (N:=Z.N) (fun i hi=>okN_le (hn6 i hi)) j hj;omega
 have HLA:=Lib.hid hla;have HT:=Lib.hid cT;have HE:=Lib.hid cE;have HG:=Lib.hid cG;have HC:=Lib.hid cC;have HN:=Lib.hid hnb;have HO6:=Lib.hid hn6;have hnb2:nb≤2:=by omega
 have cT0:=cT 0 (by omega) w (Below.refl _ _);clear h cT cE cG cC hn6 hla hN;rw [hnb];clear hnb
 go_enter Tryz.func55,Tryz.ntmps55
 go_wp2_with (fail)
 refine cT0.mono ?_;rintro e w1 ⟨v1,rfl,hK1,hb1⟩;have x0:=HC.out _ hb1;have x1:=HE.out _ hb1;rw [HN.out,Nat.add_sub_cancel] at x1;have HI:=Lib.hid (And.intro (show KeptE w.heap.size w1 v1 (entsA u 1) from by rw [entsA_one];exact hK1) hb1);clear hK1 hb1 cT0 c0 e0
 go_wp2_with (fail)
 go_loopw [22,3] (fun j v wr=>∃c:Nat,c≤nb∧j=.int .i64 c∧Hid (KeptE w.heap.size wr v (entsA u (c+1))∧Below w.heap.size w wr)) (fun j _ _=>nb-(intOf j).toNat)
 case atStart=>exact⟨0,by omega,rfl,HI⟩
 case round =>
  obtain⟨c,hc,rfl,HR⟩:=hrel;clear HI x0 x1
  rcases Nat.lt_or_ge c nb with hcn|hcn
  ·have hci:(c:Int)<(nb:Int):=by omega
   have hN1:c+1<Z.N:=by have:=HN.out;omega
   have a1:=HG.out (c+1) (by omega) hN1 _ HR.out.2;rw [Nat.add_sub_cancel] at a1;have hadd:(⟨G,0,none⟩:Addr).add c=⟨G,c,none⟩:=by rw [add_at,Nat.zero_add]
   have cE:=HT.out (c+1) hN1 wr HR.out.2;have hes:=entsA_succ u (c+1);have h8:=table.ents_le (u (c+1)) (u (c+1)).n;have h64:=okN_le (HO6.out (c+1) hN1);have h9:=HLA.out (c+1) (by omega);have hr:=HR.out.1;have hz:=HR.out.2.size;unfold KeptE at hr;have HO:=Lib.hid hr;have HES:=Lib.hid hes;clear hr hes;obtain⟨m,hm⟩:∃m,(entsA u (c+1)).length=m:=⟨_,rfl⟩;obtain⟨n8,hn8⟩:∃n8,(ents (u (c+1)) (u (c+1)).n).length=n8:=⟨_,rfl⟩;rw [hn8] at h8;rw [hm] at h9 HO;have HM:=Lib.hid hm;have HN8:=Lib.hid hn8;have hlen:(rowsS (ents (u (c+1)) (u (c+1)).n)).length=n8*3:=by rw [rowsS_length,hn8]
   have HL:=Lib.hid hlen;clear hm hn8 hlen;generalize (Z.F (c+1)).R=Rc at *
   go_wp2_with (first
    | (go_at_call 56;(with_reducible refine cE.mono ?_);rintro e w2 ⟨v2,rfl,hK,hb2⟩;have HK:=Lib.hid (app.HasRow.own hK);have HO2:=Lib.hid (row_below HO.out hb2);have hz2:=hb2.size;rw [HN8.out] at HK;clear hK)
    | (at_builtin;refine app.wpList_append_val _ rfl _ _ 60 rfl w.heap.size 44 i0 (.agg #[.int .u64 0,.int .u64 0,.int .u64 0]) 3 24 Tryz.underlying60 hi0 hq0 hq1 hq2 rfl (by decide) _ _ _ rfl HO2.out _ n8 (rowsS (ents (u (c+1)) (u (c+1)).n)) rfl HK.out HL.out (rowsS_one _) (by simp only [maxLen];omega) (by omega) (by omega) ?_;intro v' w1 hown' hgrow;have HO3:=Lib.hid hown';have HGr:=Lib.hid hgrow;clear hown' hgrow))
   go_roundw
   case rel =>
    have hb3:=under.below_step HR.out.2 hb2;refine⟨c+1,by omega,by simp,Lib.hid ⟨?_,hb3.grown HGr.out hb3.size fun j e=>(HO.out.lt j e).1⟩⟩;rw [HES.out];exact KeptE.append (by rw [HM.out,HN8.out];exact HO3.out)
   case measure=>simp [intOf];omega
  ·obtain rfl:c=nb:=by omega
   go_wp2
   go_ret
   exact⟨_,rfl,HR.out.1,HR.out.2⟩
end
theorem sumK_kvs{N d:Nat}(hN:N=2∨N=3):∀(l:List Sl) (u:Nat→Tb) (k:Nat→Nat),sumK N (evac.kvs N d u k l)=sumK N k+lkc N d u l
 | [],_,_=>rfl
 | e::l,u,k=>by
  show sumK N (evac.kvs N d (mv1 N d u e) (kv1 N d u k e) l)=sumK N k+(looks (u (tgt N d e.hash)) e.key e.hash+lkc N d (mv1 N d u e) l);rw [sumK_kvs hN l];unfold kv1;rw [sumK_up hN _ (tgt_lt hN d e.hash)];omega
section
variable {a:String→Addr} {w0:World} {R E G c d next bare:Nat} {tk:Bool} {Y:Lay} {t u u':Nat→Tb} {k k' k0:Nat→Nat} {w W W':World}
theorem Rd.many(h:Rd w0 R E G c d next bare tk Y u k w)(hr:Real a w0 Y t w)(hs:∀b∈Y.tall,b∉Y.rall):Many a w0 Y t u k w:=by
 have ht:∀i,i<Y.N→∀b∈[Y.T i,Y.B i],b∈Y.tall:=fun i hi b hb=>Lay.tin hi hb
 have cs:∀i,∀b∈Y.bs i,b∈[Y.T i,Y.B i]∨b∈Y.rb i:=fun i b hb=>by
  rcases List.mem_cons.1 hb with rfl|hb
  ·exact .inl (by simp)
  ·rcases List.mem_cons.1 hb with rfl|hb
   ·exact .inl (by simp)
   ·exact .inr hb
 refine⟨hr.at',hr.ok,hr.tn,h.wn.wa,h.wn.uok,h.wn.un,fun i hi=>⟨fun e=>hs _ (ht i hi (Y.T i) (by simp)) (Lay.rin hi e),fun e=>hs _ (ht i hi (Y.B i) (by simp)) (Lay.rin hi e)⟩,fun i j hi hj hne b hb hb'=>?_,fun i hi b hb=>?_,hr.bel,hr.base⟩
 ·rcases cs i b hb with h1|h1
  ·rcases cs j b hb' with h2|h2
   ·exact hr.sep i j hi hj hne b h1 h2
   ·exact hs b (ht i hi b h1) (Lay.rin hj h2)
  ·rcases cs j b hb' with h2|h2
   ·exact hs b (ht j hj b h2) (Lay.rin hi h1)
   ·exact h.wn.sep i j hi hj hne b h1 h2
 ·rcases cs i b hb with h1|h1
  ·exact hr.new b (ht i hi b h1)
  ·exact h.wn.new i hi b h1
theorem out_of{x:Nat}(h1:x∉Y.tall)(h2:x∉Y.rall):Out Y x:=fun i hi e=>by
 rcases List.mem_cons.1 e with rfl|e
 ·exact h1 (Lay.tin hi (by simp))
 ·rcases List.mem_cons.1 e with rfl|e
  ·exact h1 (Lay.tin hi (by simp))
  ·exact h2 (Lay.rin hi e)
theorem Many.wn(h:Many a w0 Y t u k w):Wn w0 Y u k w:=⟨h.wa,h.uok,h.un,fun i j hi hj hne b hb hb'=>h.sep i j hi hj hne b (Lay.rbs hb) (Lay.rbs hb'),fun i hi b hb=>h.new i hi b (Lay.rbs hb),h.bel⟩
set_option maxRecDepth 20000 in
theorem Rd.step_move(h:Rd w0 R E G c d next 0 tk Y u k w)(hr:Real a w0 Y t w)(hs:∀b∈Y.tall,b∉Y.rall)(hE:E∉Y.tall)(hG:G∉Y.tall)(hE0:w0.heap.size≤E)(hn:next<Y.n 0)(hks:sumK Y.N k+600≤100000000) :
  Calls Tryz.prog 30 #[.pointer (some ⟨R,0,none⟩)] w fun e w' =>
   (goods Y.N d u (lst u next)=true∧e=.returned (.tuple #[.bool true,.bool false])∧(∃k',sumK Y.N k'=sumK Y.N k+1+lkc Y.N d u (lst u next)∧Rd w0 R E G c d (next+1) 0 tk Y (tak (mvs Y.N d u (lst u next)) next) k' w')∧Past (E::Y.rall) w w') ∨
   (goods Y.N d u (lst u next)=false∧e=.returned (.tuple #[.bool true,.bool true])∧Past (E::Y.rall) w w'):=by
 have cS:=rstep_on E G c a w0 Y t u k h.N d next 100000000 h.ld hn (by decide) (fun i hi=>by have:=sumK_ge h.N k hi;omega) w h.em (h.many hr hs) (out_of hE h.oE) (out_of hG h.oG) hE0;have c0:=h.dd.c0;have c1:=h.dd.c1;have HH:=Lib.hid h;have HS:=Lib.hid cS;clear h hr cS
 go_enter Tryz.func30,Tryz.ntmps30
 go_wp2_with (fail)
 refine HS.out.mono ?_;rintro e w1 (⟨hg,rfl,hm,hE1,hp⟩|⟨hg,rfl,hp⟩)
 ·have h:=HH.out
  have HF:=Lib.hid (show (∃k',sumK Y.N k'=sumK Y.N k+1+lkc Y.N d u (lst u next)∧Rd w0 R E G c d (next+1) 0 tk Y (tak (mvs Y.N d u (lst u next)) next) k' w1)∧Past (E::Y.rall) w w1 from by
   refine⟨⟨evac.kvs Y.N d (tak u next) (ktk k) (lst u next), ?_,h.dd.past hp ?_,hE1, ?_,h.oR,h.oE,h.oG,h.N,h.ld,h.nRE,h.nRG⟩,hp⟩
   ·rw [sumK_kvs h.N,lkc_tak]
    unfold ktk;rw [sumK_up h.N _ (by have:=h.N;omega)]
   ·exact fun e=>(List.mem_cons.1 e).elim h.nRE h.oR
   ·have:=Many.wn hm
    rwa [mvs_tak] at this)
  rw [goods_tak] at hg;have HG:=Lib.hid hg;clear h hm hE1 hp hg;go_wp2
  go_ret2
  exact .inl ⟨HG.out,rfl,HF.out⟩
 ·rw [goods_tak] at hg
  have HG:=Lib.hid hg;have HP:=Lib.hid hp;clear hg hp;go_wp2
  go_ret2
  exact .inr ⟨HG.out,rfl,HP.out⟩
set_option maxRecDepth 20000 in
theorem Rd.step_stop(h:Rd w0 R E G c d next 0 tk Y u k w)(hr:Real a w0 Y t w)(hs:∀b∈Y.tall,b∉Y.rall)(hn:next=Y.n 0) :
  Calls Tryz.prog 30 #[.pointer (some ⟨R,0,none⟩)] w fun e w'=>e=.returned (.tuple #[.bool false,.bool false])∧Below w.heap.size w w':=by
 have hEm:=h.em;rw [hn] at hEm;have cS:=rstep_off E G c a w0 Y t u k (by have:=h.N;omega) d w hEm (h.many hr hs);have c0:=h.dd.c0;have c1:=h.dd.c1;have HS:=Lib.hid cS;clear h hr cS hEm
 go_enter Tryz.func30,Tryz.ntmps30
 go_wp2_with (fail)
 refine HS.out.mono ?_;rintro e w1 ⟨rfl,hb⟩;go_wp2
 go_ret2
 exact⟨rfl,hb⟩
end
end dual
end Go.Proofs.YtdplhgpeggcmdaaGreatDoor
