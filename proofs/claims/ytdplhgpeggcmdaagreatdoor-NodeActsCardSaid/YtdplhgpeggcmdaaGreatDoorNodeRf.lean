/- NodeRf: facts and laws for the walks. -/
import Derived.Test.YtdplhgpeggcmdaaGreatDoorNodePut
import Derived.Test.YtdplhgpeggcmdaaGreatDoorEvDuRf
import Derived.Test.YtdplhgpeggcmdaaGreatDoorChoR
namespace Go.Proofs.YtdplhgpeggcmdaaGreatDoor
set_option linter.unusedSimpArgs false
set_option linter.unusedVariables false
open Go.ChangeShapes Go.WideShapes Go.ChangeAt Go.RowKit Go.Shelf swar under trap meter group probe lens tail call table evac dual
namespace node
attribute [local go_sem] Oper.semAt_some stage.pureUpon move.stepUpon movex.stepUpon
structure QRow(X p d:Nat)(k:Int)(T:Nat)(pd:Option Addr)(W:World):Prop where
 row:W.heap[X]?=some (.cells #[.int .i64 (p:Nat),.int .i64 (d:Nat),.int .i64 k,.pointer (some ⟨T,0,none⟩),.pointer pd] 75 (0,0))
section
variable {X p d T:Nat} {k:Int} {pd:Option Addr} {W W':World}
theorem QRow.lt(h:QRow X p d k T pd W):X<W.heap.size:=(Array.getElem?_eq_some_iff.1 h.row).1
theorem QRow.keep(h:QRow X p d k T pd W)(hb:Below W.heap.size W W'):QRow X p d k T pd W':=⟨(hb.block X h.lt).trans h.row⟩
theorem QRow.past{l:List Nat}(h:QRow X p d k T pd W)(hp:Past l W W')(hX:X∉l):QRow X p d k T pd W':=⟨(hp.block X h.lt hX).trans h.row⟩
theorem QRow.fz(h:QRow X p d k T pd W)(i:Nat):W.frozen? ⟨X,i,none⟩=false:=frozen_of_row _ _ i _ _ h.row
theorem QRow.c0(h:QRow X p d k T pd W):W.cell? ⟨X,0,none⟩=some (.int .i64 (p:Nat)):=by rw [cell_of_row _ _ _ _ _ _ h.row];rfl
theorem QRow.c1(h:QRow X p d k T pd W):W.cell? ⟨X,1,none⟩=some (.int .i64 (d:Nat)):=by rw [cell_of_row _ _ _ _ _ _ h.row];rfl
theorem QRow.c2(h:QRow X p d k T pd W):W.cell? ⟨X,2,none⟩=some (.int .i64 k):=by rw [cell_of_row _ _ _ _ _ _ h.row];rfl
theorem QRow.c3(h:QRow X p d k T pd W):W.cell? ⟨X,3,none⟩=some (.pointer (some ⟨T,0,none⟩)):=by rw [cell_of_row _ _ _ _ _ _ h.row];rfl
theorem QRow.c4(h:QRow X p d k T pd W):W.cell? ⟨X,4,none⟩=some (.pointer pd):=by rw [cell_of_row _ _ _ _ _ _ h.row];rfl
theorem QRow.set0(h:QRow X p d k T pd W)(x:Nat):QRow X x d k T pd (W.setCell ⟨X,0,none⟩ (.int .i64 (x:Nat))):=⟨heap_setCell_same W X 0 _ _ _ h.row⟩
theorem QRow.set1(h:QRow X p d k T pd W)(x:Nat):QRow X p x k T pd (W.setCell ⟨X,1,none⟩ (.int .i64 (x:Nat))):=⟨heap_setCell_same W X 1 _ _ _ h.row⟩
theorem QRow.set2(h:QRow X p d k T pd W)(x:Int):QRow X p d x T pd (W.setCell ⟨X,2,none⟩ (.int .i64 x)):=⟨heap_setCell_same W X 2 _ _ _ h.row⟩
theorem QRow.set3(h:QRow X p d k T pd W)(x:Nat):QRow X p d k x pd (W.setCell ⟨X,3,none⟩ (.pointer (some ⟨x,0,none⟩))):=⟨heap_setCell_same W X 3 _ _ _ h.row⟩
theorem QRow.set4(h:QRow X p d k T pd W)(x:Option Addr):QRow X p d k T x (W.setCell ⟨X,4,none⟩ (.pointer x)):=⟨heap_setCell_same W X 4 _ _ _ h.row⟩
end
theorem szRd:(Tryz.prog.info? 141).map (·.size)=some 3:=by kernel_rfl
theorem rd_some(x:Addr)(w:World):(Op.equalIn 10000 73 (.pointer (some x)) (.pointer none)).run Tryz.prog w=.ok false w:=by
 obtain⟨j,hj,_⟩:=Option.map_eq_some_iff.1 szRd
 have h:∀d:Nat,(Op.equalIn (d+1) 73 (.pointer (some x)) (.pointer none)).run Tryz.prog w=.ok false w:=fun d=>by
  simp [Op.equalIn,run_underlying Tryz.underlying73,sizeOf,typeInfo,hj,sameAddr]
 exact h 9999
theorem rd_none(w:World):(Op.equalIn 10000 73 (.pointer none) (.pointer none)).run Tryz.prog w=.ok true w:=by
 obtain⟨j,hj,_⟩:=Option.map_eq_some_iff.1 szRd
 have h:∀d:Nat,(Op.equalIn (d+1) 73 (.pointer none) (.pointer none)).run Tryz.prog w=.ok true w:=fun d=>by
  simp [Op.equalIn,run_underlying Tryz.underlying73,sizeOf,typeInfo,hj,sameAddr]
 exact h 9999
theorem wstep_newset{f:Rf}{t:Tb}{k:Nat}{w w':World}(h:WStep f t k w w')(hl:∀b∈f.d t.n,b<w.heap.size)(hG:f.G<w.heap.size){B:Nat}(hB:w.heap.size≤B)(i:Nat)(u:Value):WStep f t k w (w'.setCell ⟨B,i,none⟩ u):=by
 have hp:Past [B] w' (w'.setCell ⟨B,i,none⟩ u):=(Past.refl [B] w').store (p:=⟨B,i,none⟩) (.inl (by simp)) u;refine⟨pnew h.past hB i u,h.at'.past hp fun b hb e=>?_⟩;obtain rfl:b=B:=by simpa using e
 rcases hb with hb|hb
 ·have:=hl b hb;omega
 ·omega
section
variable {X p d:Nat} {kd:Int} {w:World} {f:Rf} {t:Tb} {k:Nat}
theorem rall_off(h:QRow X p d kd f.R none w)(hW:WAt f t k w)(hn:okN t.n):Calls Tryz.prog 18 #[.pointer (some ⟨X,0,none⟩)] w fun e w'=>∃v,e=.returned v∧KeptE w.heap.size w' v (ents t t.n)∧Below w.heap.size w w':=by
 have c3:=h.c3;have c4:=h.c4;have hn0:=rd_none;have cA:=rtall_any f t hn k w hW;clear h hW
 go_enter Tryz.func18,Tryz.ntmps18
 go_wp2_with (go_at_call 56;refine cA.mono ?_;rintro e w1 ⟨v,rfl,hk,hb⟩)
 go_ret
 exact⟨v,rfl,hk,hb⟩
theorem rall_on{R:Nat}{T:Nat}{l:List Sl}(h:QRow X p d kd T (some ⟨R,0,none⟩) w)(hc:Calls Tryz.prog 55 #[.pointer (some ⟨R,0,none⟩)] w fun e w'=>∃v,e=.returned v∧KeptE w.heap.size w' v l∧Below w.heap.size w w'):Calls Tryz.prog 18 #[.pointer (some ⟨X,0,none⟩)] w fun e w'=>∃v,e=.returned v∧KeptE w.heap.size w' v l∧Below w.heap.size w w':=by
 have c4:=h.c4;have hn0:=rd_some;clear h
 go_enter Tryz.func18,Tryz.ntmps18
 go_wp2_with (go_at_call 55;refine hc.mono ?_;rintro e w1 ⟨v,rfl,hk,hb⟩)
 go_ret
 exact⟨v,rfl,hk,hb⟩
theorem rdel_off(h:QRow X p d kd f.R none w)(hW:WAt f t k w)(ht:t.Ok)(key hs:Nat)(hk:k+64<9223372036854775807)(hh:hs<18446744073709551616)(hl:∀b∈f.d t.n,b<w.heap.size):Calls Tryz.prog 15 #[.pointer (some ⟨X,0,none⟩),.int .u64 (key:Nat),.int .u64 (hs:Nat)] w fun e w'=>e=.returned (.tuple #[group.entV (entOf t key hs).key (entOf t key hs).val (entOf t key hs).hash,.bool (isThere t key hs)])∧WStep f (t.remove key hs) (k+looks t key hs) w w':=by
 have hb1:=new_block w (.cells #[.int .u64 0,.int .u64 0,.int .u64 0] 44);have h1:=h.keep hb1;have c3:=h1.c3;have c4:=h1.c4;have hn0:=rd_none;have hV:=EBox.new 0 0 0 w;have cD:=rtdelete_any f t ht k key hs hk hh _ (hW.below hb1);have hG:=hW.lt;have hrn:(t.remove key hs).n=t.n:=remove_n ..;clear h h1;generalize entOf t key hs=en at *
 generalize isThere t key hs=it at *
 generalize t.remove key hs=t1 at *
 go_enter Tryz.func15,Tryz.ntmps15
 go_wp2_with (go_at_call 54;refine cD.mono ?_;rintro e w1 ⟨rfl,hs1⟩;have hV1:=hV.past hs1.past (fun e=>by have:=hl _ (by rw [←hrn];exact e);omega);have y0:=hV1.c0;have y1:=hV1.c1;have y2:=hV1.c2;have y3:=hV1.fz)
 have hs2:WStep f t1 (k+looks t key hs) w w1:=⟨(Past.of hb1).trans hs1.past,hs1.at'⟩;have hl1:∀b∈f.d t1.n,b<w.heap.size:=by rw [hrn];exact hl
 exact bodyPost_ret (v:=.tuple #[group.entV en.key en.val en.hash,.bool it]) (by simp [results,Tryz.results15,go_sem,y0,y1,y2]) rfl ⟨rfl,wstep_newset (wstep_newset (wstep_newset hs2 hl1 hG (Nat.le_refl _) 0 _) hl1 hG (Nat.le_refl _) 1 _) hl1 hG (Nat.le_refl _) 2 _⟩
theorem rdel_on{R:Nat}{T:Nat}{l:List Nat}{x y z:Nat}{b:Bool}{Q:World→Prop}(h:QRow X p d kd T (some ⟨R,0,none⟩) w)(key hs:Nat)(hl:∀b∈l,b<w.heap.size)(hc:∀W,Below w.heap.size w W→Calls Tryz.prog 53 #[.pointer (some ⟨R,0,none⟩),.int .u64 (key:Nat),.int .u64 (hs:Nat)] W fun e w'=>e=.returned (.tuple #[group.entV x y z,.bool b])∧Q w'∧Past l W w')(hQ:∀w' B i u,Q w'→w.heap.size≤B→Q (w'.setCell ⟨B,i,none⟩ u)) :
  Calls Tryz.prog 15 #[.pointer (some ⟨X,0,none⟩),.int .u64 (key:Nat),.int .u64 (hs:Nat)] w fun e w'=>e=.returned (.tuple #[group.entV x y z,.bool b])∧Q w'∧Past l w w':=by
 have hb1:=new_block w (.cells #[.int .u64 0,.int .u64 0,.int .u64 0] 44);have h1:=h.keep hb1;have c4:=h1.c4;have hn0:=rd_some;have hV:=EBox.new 0 0 0 w;have cD:=hc _ hb1;clear h h1 hc
 go_enter Tryz.func15,Tryz.ntmps15
 go_wp2_with (go_at_call 53;refine cD.mono ?_;rintro e w1 ⟨rfl,hq1,hp1⟩;have hV1:=hV.past hp1 (fun e=>by have:=hl _ e;omega);have y0:=hV1.c0;have y1:=hV1.c1;have y2:=hV1.c2;have y3:=hV1.fz)
 exact bodyPost_ret (v:=.tuple #[group.entV x y z,.bool b]) (by simp [results,Tryz.results15,go_sem,y0,y1,y2]) rfl ⟨rfl,hQ _ _ _ _ (hQ _ _ _ _ (hQ _ _ _ _ hq1 (Nat.le_refl _)) (Nat.le_refl _)) (Nat.le_refl _),pnew (pnew (pnew ((Past.of hb1).trans hp1) (Nat.le_refl _) 0 _) (Nat.le_refl _) 1 _) (Nat.le_refl _) 2 _⟩
end
structure PF(w:World)(f:Rf)(t:Tb)(k1 X p d:Nat)(kd:Int)(key v hs:Nat)(W:World):Prop where
 ws:WStep f t k1 w W
 eb:EBox w.heap.size key v hs W
 qr:QRow X p d kd f.R none W
 hl:∀b∈f.d t.n,b<w.heap.size
 hG:f.G<w.heap.size
 hX:X<w.heap.size
theorem PF.read{w:World}{f:Rf}{t:Tb}{k1 X p d:Nat}{kd:Int}{key v hs:Nat}{W W':World}(h:PF w f t k1 X p d kd key v hs W)(hb:Below W.heap.size W W'):PF w f t k1 X p d kd key v hs W':=⟨⟨h.ws.past.trans (Past.of hb),h.ws.at'.below hb⟩,h.eb.keep hb,h.qr.keep hb,h.hl,h.hG,h.hX⟩
theorem PF.set{w:World}{f:Rf}{t:Tb}{k1 X p d:Nat}{kd:Int}{key v hs:Nat}{W:World}(h:PF w f t k1 X p d kd key v hs W){B:Nat}(hB:w.heap.size<B)(i:Nat)(u:Value):PF w f t k1 X p d kd key v hs (W.setCell ⟨B,i,none⟩ u):=by
 have hp:Past [B] W (W.setCell ⟨B,i,none⟩ u):=(Past.refl [B] W).store (p:=⟨B,i,none⟩) (.inl (by simp)) u;have hX:=h.hX;exact⟨wstep_newset h.ws h.hl h.hG (Nat.le_of_lt hB) i u,h.eb.past hp (by simp;omega),h.qr.past hp (by simp;omega),h.hl,h.hG,h.hX⟩
section
variable {X p d:Nat} {kd:Int} {w:World} {f:Rf} {t:Tb} {k:Nat}
set_option maxRecDepth 20000 in
set_option maxHeartbeats 20000000 in
theorem rput_off(h:QRow X p d kd f.R none w)(hW:WAt f t k w)(ht:t.Ok)(key v hs:Nat)(hk:k+200<9223372036854775807)(hh:hs<18446744073709551616)(hl:∀b∈f.d t.n,b<w.heap.size)(hX:X∉f.d t.n)(more:Bool):Calls Tryz.prog 13 #[.pointer (some ⟨X,0,none⟩),group.entV key v hs,.bool more] w fun e w'=>e=.returned (.tuple #[.bool (pB t key hs more),.int .i64 (pE t key hs more:Nat)])∧∃k',k'≤k+128∧WStep f (pT t key hs v more) k' w w':=by
 have hn64:=okN_le ht.n;have hlk:=looks_le t key hs;have hb1:=new_block w (.cells #[.int .u64 (key:Nat),.int .u64 (v:Nat),.int .u64 (hs:Nat)] 44);have hXlt:=h.lt;have h1:=h.keep hb1;have c4:=h1.c4;have c3:=h1.c3;have hn0:=rd_none;have hV:=EBox.new key v hs w;have v0:=hV.c0;have v1:=hV.c1;have v2:=hV.c2;have cF:=fun W (hb:Below w.heap.size w W)=>rtfind_any f t ht.n k key hs (by omega) hh W (hW.below hb)
 have HX:=Lib.hid h1;have hb2:=under.below_step hb1 (under.drew_below _);have hb3:Below w.heap.size w ((w.alloc (.cells #[.int .u64 (key:Nat),.int .u64 (v:Nat),.int .u64 (hs:Nat)] 44)).alloc (.cells #[.int .u64 0,.int .u64 0,.int .u64 0] 44)).drew:=under.below_step (two_new w _ _) (under.drew_below _);clear h h1;generalize hpb:pB t key hs more=rB;generalize hpe:pE t key hs more=nE;generalize hpt:pT t key hs v more=rT
 go_enter Tryz.func13,Tryz.ntmps13
 go_upto_region 3 with (fail)
 have hE0:=(EBox.second 0 0 0 w (.cells #[.int .u64 (key:Nat),.int .u64 (v:Nat),.int .u64 (hs:Nat)] 44)).keep (under.drew_below _);have hnd:w.heap.size+1∉f.d t.n:=fun e=>by have:=hl _ e;omega
 have hbZ:Below (w.alloc (.cells #[.int .u64 (key:Nat),.int .u64 (v:Nat),.int .u64 (hs:Nat)] 44)).heap.size (w.alloc (.cells #[.int .u64 (key:Nat),.int .u64 (v:Nat),.int .u64 (hs:Nat)] 44)) ((w.alloc (.cells #[.int .u64 (key:Nat),.int .u64 (v:Nat),.int .u64 (hs:Nat)] 44)).alloc (.cells #[.int .u64 0,.int .u64 0,.int .u64 0] 44)).drew:=under.below_step (new_block _ _) (under.drew_below _);have hVz:=hV.keep hbZ;have z0:=hVz.c0;have z2:=hVz.c2;have z3:=(HX.out.keep hbZ).c3;have hbY:Below (w.alloc (.cells #[.int .u64 (key:Nat),.int .u64 (v:Nat),.int .u64 (hs:Nat)] 44)).heap.size (w.alloc (.cells #[.int .u64 (key:Nat),.int .u64 (v:Nat),.int .u64 (hs:Nat)] 44)) (w.alloc (.cells #[.int .u64 (key:Nat),.int .u64 (v:Nat),.int .u64 (hs:Nat)] 44)).drew:=under.drew_below _
 have HPF:=Lib.hid (fun W w2 (hb:Below (w.alloc (.cells #[.int .u64 (key:Nat),.int .u64 (v:Nat),.int .u64 (hs:Nat)] 44)).heap.size (w.alloc (.cells #[.int .u64 (key:Nat),.int .u64 (v:Nat),.int .u64 (hs:Nat)] 44)) W) (hs2:WStep f t (k+looks t key hs) W w2)=>show PF w f t (k+looks t key hs) X p d kd key v hs w2 from by
  have hq:=HX.out.lt;rw [World.size_alloc] at hq
  exact⟨⟨(Past.of (under.below_step hb1 hb)).trans hs2.past,hs2.at'⟩,(hV.keep hb).past hs2.past (fun e=>by have:=hl _ e;omega),(HX.out.keep hb).past hs2.past hX,hl,hW.lt,hXlt⟩)
 go_cut [8,9] from 24 to 35 (fun s8 s9 wx=>∃E,s8=.pointer (some ⟨E,0,none⟩)∧s9=.bool (isThere t key hs)∧Hid (PF w f t (k+looks t key hs) X p d kd key v hs wx))
 case first =>
  as_aux_lemma =>
   go_region_with (go_at_call 50;refine (cF _ (by first|exact hb2|exact hb3)).mono ?_;rintro e w2 ⟨rfl,hs2⟩;have hP2:PF w f t (k+looks t key hs) X p d kd key v hs w2:=HPF.out _ _ (by first|exact hbY|exact hbZ) hs2;first|(have hE1:=hE0.past hs2.past hnd;have s0:=hE1.c0;have s1:=hE1.c1;have s2:=hE1.c2;have s5:=hE1.fz)|skip)
   all_goals
    go_wp2;go_meet
    first
     | exact⟨_,rfl,rfl,Lib.hid (((hP2.set (Nat.lt_succ_self _) 0 _).set (Nat.lt_succ_self _) 1 _).set (Nat.lt_succ_self _) 2 _)⟩
     | exact⟨_,rfl,rfl,Lib.hid ((((hP2.set (Nat.lt_succ_self _) 0 _).set (Nat.lt_succ_self _) 1 _).set (Nat.lt_succ_self _) 2 _).read (under.drew_below _))⟩
     | exact⟨_,rfl,rfl,Lib.hid (hP2.read (new_block _ _))⟩
     | exact⟨_,rfl,rfl,Lib.hid (hP2.read (under.below_step (new_block _ _) (under.drew_below _)))⟩
 case rest =>
  as_aux_lemma =>
   obtain⟨E,rfl,rfl,HC⟩:=hcut;have hP:=HC.out;have x0:=hP.eb.c0;have u0:=Under.cell hP.eb.c0;have u1:=Under.cell hP.eb.c1;have u2:=Under.cell hP.eb.c2;have u3:=Under.cell hP.qr.c3;have cP:=fun W (hb:Below wc.heap.size wc W)=>(rtput_any f t ht (k+looks t key hs) key v hs (by omega) hh W (hP.ws.at'.below hb)).mono (R':=fun e w'=>e=.returned (.tuple #[.bool (putB' t key hs),.int .i64 (putE' t key hs:Nat)])∧WStep f (t.puts key hs v) (k+looks t key hs+looks t key hs) w w') fun e w' ⟨he,hs'⟩=>⟨he,⟨by have h2:=hs'.past;rw [puts_n] at h2 ⊢;exact (hP.ws.past.trans (Past.of hb)).trans h2,hs'.at'⟩⟩
   have hws:=hP.ws;clear hP HC;unfold pB at hpb;unfold pE at hpe;unfold pT at hpt;cases hit:isThere t key hs
   ·cases more
    ·simp only [hit,Bool.false_eq_true,if_false,Bool.or_false,Bool.false_and] at hpb hpe hpt
     subst hpb hpe hpt;go_wp2
     go_ret2
     exact⟨rfl,_,by omega,hws⟩
    ·simp only [hit,Bool.false_eq_true,if_false,Bool.or_true,Bool.true_and,if_true] at hpb hpe hpt
     generalize putB' t key hs=b1 at *
     generalize putE' t key hs=n1 at *
     subst hpb hpe hpt
     go_upto_region 6 with (fail)
     refine one.wp_region_one 5 _ (by kernel_rfl) (by kernel_rfl) rfl ?_;simp only [List.take_succ_cons,List.take_zero,List.drop_succ_cons,List.drop_zero]
     repeat (quiet_step (fail))
     refine wpQuiet_nil ?_;intro y Kc hKc;have cPy:=cP _ y.below;clear u0 u1 u2 u3 cP;generalize y.W=w8 at *
     go_simp;refine cPy.mono ?_;clear cPy;rintro e w9 ⟨rfl,hs9⟩;go_simp;refine hKc _ _ ?_;clear hKc Kc
     repeat (quiet_step (fail))
     refine wpQuiet_nil ?_;intro y3;have hs10:WStep f (t.puts key hs v) (k+looks t key hs+looks t key hs) w y3.W:=⟨hs9.past.trans (Past.of y3.below),hs9.at'.below y3.below⟩;clear hs9;generalize y3.W=w10 at *
     go_wp2
     go_ret2
     exact⟨rfl,_,by omega,hs10⟩
   ·have e2:putB' t key hs=false:=by unfold putB';rw [hit];rfl
    have e3:putE' t key hs=0:=by unfold putE';rw [hit];rfl
    rw [e2,e3] at cP;simp only [hit,if_true,Bool.true_or] at hpb hpe hpt;subst hpb hpe hpt
    go_upto_region 6 with (fail)
    refine one.wp_region_one 5 _ (by kernel_rfl) (by kernel_rfl) rfl ?_;simp only [List.take_succ_cons,List.take_zero,List.drop_succ_cons,List.drop_zero]
    repeat (quiet_step (fail))
    refine wpQuiet_nil ?_;intro y Kc hKc;have cPy:=cP _ y.below;clear u0 u1 u2 u3 cP;generalize y.W=w8 at *
    go_simp;refine cPy.mono ?_;clear cPy;rintro e w9 ⟨rfl,hs9⟩;go_simp;refine hKc _ _ ?_;clear hKc Kc
    repeat (quiet_step (fail))
    refine wpQuiet_nil ?_;intro y3;have hs10:WStep f (t.puts key hs v) (k+looks t key hs+looks t key hs) w y3.W:=⟨hs9.past.trans (Past.of y3.below),hs9.at'.below y3.below⟩;clear hs9;generalize y3.W=w10 at *
    go_wp2
    go_ret2
    exact⟨rfl,_,by omega,hs10⟩
end
section
variable {X p d:Nat} {kd:Int} {w:World} {f:Rf} {t:Tb} {k:Nat}
set_option maxRecDepth 20000 in
theorem rput_on{R T:Nat}{l:List Nat}{b:Bool}{n:Nat}{Q:World→Prop}(h:QRow X p d kd T (some ⟨R,0,none⟩) w)(key v hs:Nat)(more:Bool)(hc:∀W,Below w.heap.size w W→Calls Tryz.prog 49 #[.pointer (some ⟨R,0,none⟩),group.entV key v hs,.bool more] W fun e w'=>e=.returned (.tuple #[.bool b,.int .i64 (n:Nat)])∧Q w')(hQ:∀w' w'',Q w'→Below w'.heap.size w' w''→Q w'') :
  Calls Tryz.prog 13 #[.pointer (some ⟨X,0,none⟩),group.entV key v hs,.bool more] w fun e w'=>e=.returned (.tuple #[.bool b,.int .i64 (n:Nat)])∧Q w':=by
 have hb1:=new_block w (.cells #[.int .u64 (key:Nat),.int .u64 (v:Nat),.int .u64 (hs:Nat)] 44);have h1:=h.keep hb1;have c4:=h1.c4;have hn0:=rd_some;have hV:=EBox.new key v hs w;have u4:=Under.cell c4;have u0:=Under.cell hV.c0;have u1:=Under.cell hV.c1;have u2:=Under.cell hV.c2;clear h h1
 go_enter Tryz.func13,Tryz.ntmps13
 go_upto_region 2 with (fail)
 refine one.wp_region_one 6 _ (by kernel_rfl) (by kernel_rfl) rfl ?_;simp only [List.take_succ_cons,List.take_zero,List.drop_succ_cons,List.drop_zero]
 repeat (quiet_step (fail))
 refine wpQuiet_nil ?_;intro y Kc hKc;have cPy:=hc _ (under.below_step hb1 y.below);clear u0 u1 u2 u4;generalize y.W=w8 at *
 go_simp;refine cPy.mono ?_;clear cPy;rintro e w9 ⟨rfl,hq9⟩;go_simp;refine hKc _ _ ?_;clear hKc Kc
 repeat (quiet_step (fail))
 refine wpQuiet_nil ?_;intro y3;have hq10:=hQ _ _ hq9 y3.below;clear hq9;generalize y3.W=w10 at *
 go_wp2
 go_ret2
 exact⟨rfl,hq10⟩
theorem rnum_off(h:QRow X p d kd f.R none w)(hW:WAt f t k w)(hn:t.n≤64):Calls Tryz.prog 59 #[.pointer (some ⟨X,0,none⟩)] w fun e w'=>e=.returned (.agg #[.int .i64 (cntT 3 t:Nat),.int .i64 (cntT 2 t:Nat),.int .i64 (t.n:Nat),.int .i64 0])∧Below w.heap.size w w':=by
 have hb1:=new_block w (.cells #[.int .i64 0,.int .i64 0,.int .i64 0,.int .i64 0] 116);have h1:=h.keep hb1;have c4:=h1.c4;have c3:=Under.cell h1.c3;have hn0:=rd_none;have hWb:=hW.below hb1;have c0:=Under.cell hWb.cell0;have a3:=fun W (hb:Below (w.alloc (.cells #[.int .i64 0,.int .i64 0,.int .i64 0,.int .i64 0] 116)).heap.size (w.alloc (.cells #[.int .i64 0,.int .i64 0,.int .i64 0,.int .i64 0] 116)) W)=>rtcount_any f t k 3 hn W (hWb.below hb)
 have a2:=fun W (hb:Below (w.alloc (.cells #[.int .i64 0,.int .i64 0,.int .i64 0,.int .i64 0] 116)).heap.size (w.alloc (.cells #[.int .i64 0,.int .i64 0,.int .i64 0,.int .i64 0] 116)) W)=>rtcount_any f t k 2 hn W (hWb.below hb)
 have hA:=World.alloc_heap_new w (.cells #[.int .i64 0,.int .i64 0,.int .i64 0,.int .i64 0] 116);clear h h1 hW;generalize cntT 3 t=n3 at *
 generalize cntT 2 t=n2 at *
 go_enter Tryz.func59,Tryz.ntmps59
 go_upto_region 4 with (fail)
 refine tail.wp_region_tail_under 19 (by kernel_rfl) (by kernel_rfl) ?_;simp only [List.take_succ_cons,List.take_zero,List.drop_succ_cons,List.drop_zero]
 repeat (quiet_step (first
  | (go_at_call 116;(with_reducible refine under_call (a3 _ (Under.below _))))
  | (go_at_call 116;(with_reducible refine under_call (a2 _ (Under.below _))))))
 refine wpQuiet_nil ?_;intro wz hwz;obtain⟨z,rfl⟩:=hwz;have hr:=z.below.block _ (show w.heap.size<(w.alloc (.cells #[.int .i64 0,.int .i64 0,.int .i64 0,.int .i64 0] 116)).heap.size by rw [World.size_alloc];omega);rw [hA] at hr;have q0:z.W.cell? ⟨w.heap.size,0,none⟩=some (.int .i64 0):=by rw [cell_of_row _ _ _ _ _ _ hr];rfl
 have q1:z.W.cell? ⟨w.heap.size,1,none⟩=some (.int .i64 0):=by rw [cell_of_row _ _ _ _ _ _ hr];rfl
 have q2:z.W.cell? ⟨w.heap.size,2,none⟩=some (.int .i64 0):=by rw [cell_of_row _ _ _ _ _ _ hr];rfl
 have q3:z.W.cell? ⟨w.heap.size,3,none⟩=some (.int .i64 0):=by rw [cell_of_row _ _ _ _ _ _ hr];rfl
 have qf:∀i,z.W.frozen? ⟨w.heap.size,i,none⟩=false:=fun i=>frozen_of_row _ _ i _ _ hr
 have hbz:=under.below_step hb1 z.below;clear a2 a3 c0 c3 c4;generalize z.W=wz at *
 go_wp2;have e1:=heap_setCell_same wz w.heap.size 0 _ _ (.int .i64 (n3:Nat)) hr;have e2:=heap_setCell_same _ w.heap.size 1 _ _ (.int .i64 (n2:Nat)) e1;have e3:=heap_setCell_same _ w.heap.size 2 _ _ (.int .i64 (t.n:Nat)) e2;have e4:=heap_setCell_same _ w.heap.size 3 _ _ (.int .i64 0) e3;have hB:=(((hbz.setCell (p:=⟨w.heap.size,0,none⟩) (Nat.le_refl _) (.int .i64 (n3:Nat))).setCell (p:=⟨w.heap.size,1,none⟩) (Nat.le_refl _) (.int .i64 (n2:Nat))).setCell (p:=⟨w.heap.size,2,none⟩) (Nat.le_refl _) (.int .i64 (t.n:Nat))).setCell (p:=⟨w.heap.size,3,none⟩) (Nat.le_refl _) (.int .i64 0);have r0:=cell_of_row _ _ 0 _ _ _ e4;have r1:=cell_of_row _ _ 1 _ _ _ e4;have r2:=cell_of_row _ _ 2 _ _ _ e4;have r3:=cell_of_row _ _ 3 _ _ _ e4;refine bodyPost_ret (v:=.agg #[.int .i64 (n3:Nat),.int .i64 (n2:Nat),.int .i64 (t.n:Nat),.int .i64 0]) (by simp [results,Tryz.results59,go_sem,r0,r1,r2,r3]) rfl ⟨rfl,hB⟩
end
theorem QRow.of_box(p d T:Nat)(k:Int)(pd:Option Addr)(w:World):QRow w.heap.size p d k T pd (w.alloc (.cells #[.int .i64 (p:Nat),.int .i64 (d:Nat),.int .i64 k,.pointer (some ⟨T,0,none⟩),.pointer pd] 75)):=⟨World.alloc_heap_new _ _⟩
set_option maxRecDepth 20000 in
theorem rnnew_yes(p d:Nat)(hd:d≤5)(hp:p<2^d)(w:World):Calls Tryz.prog 7 #[.int .i64 p,.int .i64 d] w fun e w'=>∃X f,e=.returned (.tuple #[.pointer (some ⟨X,0,none⟩),.int .i64 0])∧QRow X p d 0 f.R none w'∧WAt f (Tb.new 1) 0 w'∧(∀b,b∈f.d 1∨b=f.G→w.heap.size≤b)∧w.heap.size≤X∧X∉f.d 1∧X≠f.G∧Below w.heap.size w w':=by
 have cL:=fun W=>split.rends_yes p d (by omega) hp W
 have cT:=fun W=>rtnew_yes 1 (by decide) W
 have d1:decide (5<(d:Int))=false:=decide_eq_false (by omega)
 go_enter Tryz.func7,Tryz.ntmps7
 go_wp2_with (first
  | (go_at_call 39;refine (cL _).mono ?_;rintro e w1 ⟨rfl,hb1⟩)
  | (go_at_call 40;refine (cT _).mono ?_;rintro e w2 ⟨f,rfl,ht2,hf2,hb2⟩))
 go_ret2
 have hb12:=under.below_step hb1 hb2;have hX:∀b,b∈f.d 1∨b=f.G→b<w2.heap.size:=fun b hb=>ht2.lts hb
 exact⟨_,f,rfl,QRow.of_box p d f.R 0 none w2,ht2.below (new_block w2 _),fun b hb=>Nat.le_trans hb1.size (hf2 b hb),hb12.size,fun e=>Nat.lt_irrefl _ (hX _ (.inl e)),fun e=>Nat.lt_irrefl _ (hX _ (.inr e)),under.below_step hb12 (new_block w2 _)⟩
set_option maxRecDepth 20000 in
theorem rnnew_deep(p d:Int)(hd:5<d)(w:World):Calls Tryz.prog 7 #[.int .i64 p,.int .i64 d] w fun e w'=>e=.returned (.tuple #[.pointer none,.int .i64 1])∧Below w.heap.size w w':=by
 have d1:decide (5<d)=true:=decide_eq_true hd
 go_enter Tryz.func7,Tryz.ntmps7
 go_wp2
 go_ret2
 exact⟨rfl,Below.refl _ _⟩
set_option maxRecDepth 20000 in
theorem rnnew_far(p d:Int)(hd:d≤5)(hp:split.NoPrefix p d)(w:World):Calls Tryz.prog 7 #[.int .i64 p,.int .i64 d] w fun e w'=>e=.returned (.tuple #[.pointer none,.int .i64 1])∧Below w.heap.size w w':=by
 have d1:decide (5<d)=false:=decide_eq_false (by omega);have cL:=split.rends_no p d hp w
 go_enter Tryz.func7,Tryz.ntmps7
 go_wp2_with (go_at_call 39;refine cL.mono ?_;rintro e w1 ⟨rfl,rfl⟩)
 go_ret2
 exact⟨rfl,Below.refl _ _⟩
section
variable {X p d T:Nat} {kd:Int} {w:World} {f:Rf} {t:Tb} {k:Nat}
theorem rwants_on{R:Nat}(h:QRow X p d kd T (some ⟨R,0,none⟩) w)(g:Int):Calls Tryz.prog 21 #[.pointer (some ⟨X,0,none⟩),.int .i64 g] w fun e w'=>e=.returned (.tuple #[.int .i64 0,.bool false])∧Below w.heap.size w w':=by
 have c4:=h.c4;have hn0:=rd_some;clear h
 go_enter Tryz.func21,Tryz.ntmps21
 go_wp2
 go_ret2
 exact⟨rfl,Below.refl _ _⟩
theorem rstart_state{R:Nat}(h:QRow X p d kd T (some ⟨R,0,none⟩) w)(g:Int):Calls Tryz.prog 23 #[.pointer (some ⟨X,0,none⟩),.int .i64 g] w fun e w'=>e=.returned (.int .i64 5)∧Below w.heap.size w w':=by
 have c4:=h.c4;have hn0:=rd_some;clear h
 go_enter Tryz.func23,Tryz.ntmps23
 go_wp2
 go_ret
 exact⟨rfl,Below.refl _ _⟩
theorem rstart_bad(h:QRow X p d kd f.R none w)(hW:WAt f t k w)(g:Int)(hx:choose.gx g t.n≠0):Calls Tryz.prog 23 #[.pointer (some ⟨X,0,none⟩),.int .i64 g] w fun e w'=>e=.returned (.int .i64 (choose.gx g t.n:Nat))∧Below w.heap.size w w':=by
 have c3:=h.c3;have c4:=h.c4;have hn0:=rd_none;have cG:=choose.rgroups_any g t.n w;have c0:=hW.cell0;have hx':((choose.gx g t.n:Nat):Int)≠0:=by omega
 have hx0:(((choose.gx g t.n:Nat):Int)==0)=false:=beq_eq_false_iff_ne.2 hx';have hx1:(choose.gx g t.n==0)=false:=beq_eq_false_iff_ne.2 hx;generalize choose.gx g t.n=x at *
 clear h hW
 go_enter Tryz.func23,Tryz.ntmps23
 go_wp2_with (go_at_call 66;refine cG.mono ?_;rintro e w2 ⟨rfl,hb2⟩)
 go_ret
 exact⟨rfl,hb2⟩
theorem gm_of{k g:Int}(h:choose.gx k g=0):choose.gm k g=if k=3 then 2 else 1:=by
 unfold choose.gx at h;unfold choose.gm
 split at h
 ·rename_i h1
  split at h
  ·rename_i h2
   rw [if_pos ⟨h1,h2⟩]
  ·cases h
 ·cases h
theorem rstart_range(h:QRow X p 5 kd f.R none w)(hW:WAt f t k w)(hx:choose.gx 3 t.n=0):Calls Tryz.prog 23 #[.pointer (some ⟨X,0,none⟩),.int .i64 3] w fun e w'=>e=.returned (.int .i64 1)∧Below w.heap.size w w':=by
 have HN:=Lib.hid h;have c3:=h.c3;have c4:=h.c4;have hn0:=rd_none;have cG:=choose.rgroups_any 3 t.n w;rw [hx,gm_of hx,if_pos rfl] at cG;have c0:=hW.cell0;clear h hW;generalize choose.ge 3 t.n=x at *
 go_enter Tryz.func23,Tryz.ntmps23
 go_wp2_with (go_at_call 66;refine cG.mono ?_;rintro e w2 ⟨rfl,hb2⟩;have y1:=(HN.out.keep hb2).c1)
 go_ret
 exact⟨rfl,hb2⟩
theorem rstart_yes(h:QRow X p d kd f.R none w)(hW:WAt f t k w)(g:Int)(hx:choose.gx g t.n=0)(hd:g=3→d≠5){Q:Nat→World→Prop}
  (hc:∀W,Below w.heap.size w W→Calls Tryz.prog 67 #[.pointer (some ⟨f.R,0,none⟩),.int .i64 (choose.ge g t.n),.int .i64 (if g=3 then (d:Int) else -1)] W fun e w'=>∃R,e=.returned (.tuple #[.pointer (some ⟨R,0,none⟩),.int .i64 0])∧Q R w'∧Below W.heap.size W w') :
  Calls Tryz.prog 23 #[.pointer (some ⟨X,0,none⟩),.int .i64 g] w fun e w'=>e=.returned (.int .i64 0)∧∃R w1,Q R w1∧Below w.heap.size w w1∧w'=(w1.setCell ⟨X,4,none⟩ (.pointer (some ⟨R,0,none⟩))).setCell ⟨X,2,none⟩ (.int .i64 g):=by
 have HN:=Lib.hid h;have c3:=h.c3;have c4:=h.c4;have hn0:=rd_none;have cG:=choose.rgroups_any g t.n w;rw [hx,gm_of hx] at cG;have c0:=hW.cell0;clear h hW hx;generalize choose.ge g t.n=x at *
 by_cases h3:g=3
 ·subst h3
  have hd5:((d:Int)==5)=false:=beq_eq_false_iff_ne.2 (by have:=hd rfl;omega);have hd5':(d==5)=false:=beq_eq_false_iff_ne.2 (hd rfl);rw [if_pos rfl] at hc cG
  go_enter Tryz.func23,Tryz.ntmps23
  go_wp2_with (first
   | (go_at_call 66;refine cG.mono ?_;rintro e w2 ⟨rfl,hb2⟩;have y1:=(HN.out.keep hb2).c1;have y2:=(HN.out.keep hb2).c3)
   | (go_at_call 67;refine (hc _ hb2).mono ?_;rintro e w4 ⟨R,rfl,hR4,hb4⟩;have hn4:=(HN.out.keep hb2).keep hb4;have z2:=hn4.c2;have z4:=hn4.c4;have zf:=hn4.fz))
  go_ret
  exact⟨rfl,R,_,hR4,under.below_step hb2 hb4,rfl⟩
 ·have h3':(g==3)=false:=beq_eq_false_iff_ne.2 h3
  rw [if_neg h3] at hc cG
  go_enter Tryz.func23,Tryz.ntmps23
  go_wp2_with (first
   | (go_at_call 66;refine cG.mono ?_;rintro e w2 ⟨rfl,hb2⟩;have y1:=(HN.out.keep hb2).c1;have y2:=(HN.out.keep hb2).c3)
   | (go_at_call 67;refine (hc _ hb2).mono ?_;rintro e w4 ⟨R,rfl,hR4,hb4⟩;have hn4:=(HN.out.keep hb2).keep hb4;have z2:=hn4.c2;have z4:=hn4.c4;have zf:=hn4.fz))
  go_ret
  exact⟨rfl,R,_,hR4,under.below_step hb2 hb4,rfl⟩
theorem rend_off(h:QRow X p d kd T none w):Calls Tryz.prog 25 #[.pointer (some ⟨X,0,none⟩)] w fun e w'=>e=.returned (.tuple #[.pointer none,.int .i64 5])∧Below w.heap.size w w':=by
 have c4:=h.c4;have hn0:=rd_none;clear h
 go_enter Tryz.func25,Tryz.ntmps25
 go_wp2
 go_ret2
 exact⟨rfl,Below.refl _ _⟩
theorem rend_more{R:Nat}{x:Int}(h:QRow X p d kd T (some ⟨R,0,none⟩) w)(hc:Calls Tryz.prog 70 #[.pointer (some ⟨R,0,none⟩)] w fun e w'=>e=.returned (.int .i64 x)∧Below w.heap.size w w')(hx:0<x):Calls Tryz.prog 25 #[.pointer (some ⟨X,0,none⟩)] w fun e w'=>e=.returned (.tuple #[.pointer none,.int .i64 5])∧Below w.heap.size w w':=by
 have c4:=h.c4;have hn0:=rd_some;have d1:decide (0<x)=true:=decide_eq_true hx;clear h
 go_enter Tryz.func25,Tryz.ntmps25
 go_wp2_with (go_at_call 70;refine hc.mono ?_;rintro e w1 ⟨rfl,hb1⟩)
 go_ret2
 exact⟨rfl,hb1⟩
set_option maxRecDepth 20000 in
theorem rend_one{R E G c T1:Nat}(h:QRow X p d kd T (some ⟨R,0,none⟩) w)(hc:Calls Tryz.prog 70 #[.pointer (some ⟨R,0,none⟩)] w fun e w'=>e=.returned (.int .i64 0)∧Below w.heap.size w w')(e0:w.cell? ⟨R,0,none⟩=some (.pointer (some ⟨E,0,none⟩)))(e1:w.cell? ⟨E,1,none⟩=some (.slice (some ⟨G,0,none⟩) 1 c))(g0:w.cell? ⟨G,0,none⟩=some (.pointer (some ⟨T1,0,none⟩))):Calls Tryz.prog 25 #[.pointer (some ⟨X,0,none⟩)] w fun e w'=>e=.returned (.tuple #[.pointer none,.int .i64 0])∧QRow X p d 0 T1 none w'∧Past [X] w w':=by
 have HN:=Lib.hid h;have c4:=h.c4;have hn0:=rd_some;clear h
 go_enter Tryz.func25,Tryz.ntmps25
 go_wp2_with (go_at_call 70;refine hc.mono ?_;rintro e w1 ⟨rfl,hb1⟩;have hn1:=HN.out.keep hb1;have z2:=hn1.c2;have z3:=hn1.c3;have z4:=hn1.c4;have zf:=hn1.fz;have e0:=keepc hb1 e0;have e1:=keepc hb1 e1;have g0:=keepc hb1 g0)
 go_ret2
 have hpX:Past [X] w1 (((w1.setCell ⟨X,3,none⟩ (.pointer (some ⟨T1,0,none⟩))).setCell ⟨X,4,none⟩ (.pointer none)).setCell ⟨X,2,none⟩ (.int .i64 0)):=(((Past.refl [X] w1).store (.inl (by simp)) _).store (.inl (by simp)) _).store (.inl (by simp)) _;exact⟨rfl,((hn1.set3 T1).set4 none).set2 0,(Past.of hb1).trans hpX⟩
set_option maxRecDepth 20000 in
theorem rend_two{R E G c T1 T2:Nat}(h:QRow X p d kd T (some ⟨R,0,none⟩) w)(hc:Calls Tryz.prog 70 #[.pointer (some ⟨R,0,none⟩)] w fun e w'=>e=.returned (.int .i64 0)∧Below w.heap.size w w')(e0:w.cell? ⟨R,0,none⟩=some (.pointer (some ⟨E,0,none⟩)))(e1:w.cell? ⟨E,1,none⟩=some (.slice (some ⟨G,0,none⟩) 2 c))(g0:w.cell? ⟨G,0,none⟩=some (.pointer (some ⟨T1,0,none⟩)))(g1:w.cell? ⟨G,1,none⟩=some (.pointer (some ⟨T2,0,none⟩)))(hG:G≠X)(hp16:p≤65536)(hd16:d≤16):Calls Tryz.prog 25 #[.pointer (some ⟨X,0,none⟩)] w fun e w'=>∃X',e=.returned (.tuple #[.pointer (some ⟨X',0,none⟩),.int .i64 0])∧w.heap.size≤X'∧QRow X (2*p) (d+1) 0 T1 none w'∧QRow X' (2*p+1) (d+1) 0 T2 none w'∧Past [X] w w':=by
 have HN:=Lib.hid h;have c4:=h.c4;have hn0:=rd_some;clear h;have x1:wrap64 ((p:Int)*2)=(p:Int)*2:=IntWalk.wrap64_in _ (by omega);have x2:wrap64 ((d:Int)+1)=(d:Int)+1:=IntWalk.wrap64_in _ (by omega);have x3:wrap64 ((p:Int)*2+1)=(p:Int)*2+1:=IntWalk.wrap64_in _ (by omega)
 go_enter Tryz.func25,Tryz.ntmps25
 go_wp2_with (go_at_call 70;refine hc.mono ?_;rintro e w1 ⟨rfl,hb1⟩;have hn1:=HN.out.keep hb1;have z0:=hn1.c0;have z1:=hn1.c1;have z2:=hn1.c2;have z3:=hn1.c3;have z4:=hn1.c4;have zf:=hn1.fz;have e0:=keepc hb1 e0;have e1:=keepc hb1 e1;have g0:=keepc hb1 g0;have g1:=keepc hb1 g1)
 have q1:((2*p:Nat):Int)=(p:Int)*2:=by omega
 have q2:((d+1:Nat):Int)=(d:Int)+1:=by omega
 have q3:((2*p+1:Nat):Int)=(p:Int)*2+1:=by omega
 have hn3:=((((hn1.set3 T1).set4 none).set2 0).set0 (2*p)).set1 (d+1);simp only [q1,q2] at hn3;have hpX:Past [X] w1 (((((w1.setCell ⟨X,3,none⟩ (.pointer (some ⟨T1,0,none⟩))).setCell ⟨X,4,none⟩ (.pointer none)).setCell ⟨X,2,none⟩ (.int .i64 0)).setCell ⟨X,0,none⟩ (.int .i64 ((p:Int)*2))).setCell ⟨X,1,none⟩ (.int .i64 ((d:Int)+1))):=(((((Past.refl [X] w1).store (.inl (by simp)) _).store (.inl (by simp)) _).store (.inl (by simp)) _).store (.inl (by simp)) _).store (.inl (by simp)) _;have gg0:=hpX.cell g0 (by simpa using hG);have gg1:=hpX.cell g1 (by simpa using hG);have hpA:=(Past.of hb1).trans hpX;clear z0 z1 z2 z3 z4 zf e0 e1 g0 g1 hc hpX c4 hn1 HN;generalize ((((w1.setCell ⟨X,3,none⟩ (.pointer (some ⟨T1,0,none⟩))).setCell ⟨X,4,none⟩ (.pointer none)).setCell ⟨X,2,none⟩ (.int .i64 0)).setCell ⟨X,0,none⟩ (.int .i64 ((p:Int)*2))).setCell ⟨X,1,none⟩ (.int .i64 ((d:Int)+1))=w3 at *
 have k0:w3.cell? ⟨X,0,none⟩=some (.int .i64 ((p:Int)*2)):=by have:=hn3.c0;rwa [q1] at this
 have k1:w3.cell? ⟨X,1,none⟩=some (.int .i64 ((d:Int)+1)):=by have:=hn3.c1;rwa [q2] at this
 go_region
 go_wp2
 go_ret2
 have hnb:=QRow.of_box (2*p+1) (d+1) T2 0 none w3;simp only [q2,q3] at hnb;have hb6:=under.below_step (new_block w3 (.cells #[.int .i64 ((p:Int)*2+1),.int .i64 ((d:Int)+1),.int .i64 0,.pointer (some ⟨T2,0,none⟩),.pointer none] 75)) (under.drew_below _);exact⟨w3.heap.size,rfl,hpA.size,hn3.keep hb6,hnb.keep (under.drew_below _),hpA.trans (Past.of hb6)⟩
end
def BD(w:World):Unit→World→Prop:=fun _ W=>Below w.heap.size w W
def BM(len:Nat)(x:Value):Nat→Unit→Value→Unit→Prop:=fun k _ v _=>if k=4 then ∃o cc,v=.slice o len cc else v=x
theorem BM.has(len:Nat)(x:Value)(k:Nat)(s:Unit):∃v s',BM len x k s v s':=by
 unfold BM
 split
 ·exact⟨_,(),none,0,rfl⟩
 ·exact⟨_,(),rfl⟩
section
variable {X p d T:Nat} {kd:Int} {w:World} {f:Rf} {t:Tb} {k:Nat}
set_option maxRecDepth 20000 in
theorem rnum_on{R len gs x:Nat}(h:QRow X p d kd T (some ⟨R,0,none⟩) w)(hG:∀W,Below w.heap.size w W→Calls Tryz.prog 115 #[.pointer (some ⟨R,0,none⟩)] W fun e w'=>(∃y,e=.returned (.tuple #[.int .i64 (gs:Nat),y]))∧W=w')(hA:∀W,Below w.heap.size w W→Calls Tryz.prog 55 #[.pointer (some ⟨R,0,none⟩)] W fun e w'=>∃o cc,e=.returned (.slice o len cc)∧Below W.heap.size W w')
  (hL:∀W,Below w.heap.size w W→Calls Tryz.prog 70 #[.pointer (some ⟨R,0,none⟩)] W fun e w'=>e=.returned (.int .i64 (x:Nat))∧Below W.heap.size W w') :
  Calls Tryz.prog 59 #[.pointer (some ⟨X,0,none⟩)] w fun e w'=>e=.returned (.agg #[.int .i64 (len:Nat),.int .i64 0,.int .i64 (gs:Nat),.int .i64 (x:Nat)])∧Below w.heap.size w w':=by
 have hb1:=new_block w (.cells #[.int .i64 0,.int .i64 0,.int .i64 0,.int .i64 0] 116);have h1:=h.keep hb1;have c4:=h1.c4;have hn0:=rd_some;have cG:=hG _ hb1;clear h
 go_enter Tryz.func59,Tryz.ntmps59
 go_upto_region 3 with (go_at_call 115;refine cG.mono ?_;rintro e w1 ⟨⟨y,rfl⟩,rfl⟩)
 have hb2:=under.drew_below (w.alloc (.cells #[.int .i64 0,.int .i64 0,.int .i64 0,.int .i64 0] 116));have hA0:=World.alloc_heap_new w (.cells #[.int .i64 0,.int .i64 0,.int .i64 0,.int .i64 0] 116);have hlt0:w.heap.size<(w.alloc (.cells #[.int .i64 0,.int .i64 0,.int .i64 0,.int .i64 0] 116)).heap.size:=by rw [World.size_alloc];omega
 generalize hW0:w.alloc (.cells #[.int .i64 0,.int .i64 0,.int .i64 0,.int .i64 0] 116)=w0 at *
 have q4:∀y:movex.Un (BD w0),y.W.cell? ⟨X,4,none⟩=some (.pointer (some ⟨R,0,none⟩)):=fun y=>keepc y.h c4
 haveI : Nonempty (movex.Un (BD w0)):=⟨⟨(),_,hb2⟩⟩
 clear cG hG;refine (wpIn_wide (n:=3)).1 ?_;refine movex.region (D:=BD w0) (BM len (.int .i64 (x:Nat))) 13 13 [false,false,false,false,true,false,false,false,false,false,false,true,false] [] (by kernel_rfl) (by kernel_rfl) (by kernel_rfl) (fun k s _=>BM.has _ _ k s) (fun i j hij=>by cases hij) () hb2 ?_;simp only [List.take_succ_cons,List.take_zero,List.drop_succ_cons,List.drop_zero]
 iterate 4
  refine movex.pure_step (fun _ _ _=>trivial) (fun K hK=>?_);go_simp;refine hK _ ?_;clear hK K
 refine movex.move_step (fun _ _ _=>trivial) (by kernel_rfl) (fun sd wd hd=>?_) ?_
 ·go_simp
  refine callsIn_wide.2 ((hA _ (under.below_step hb1 hd)).mono ?_);rintro e' w' ⟨o,cc,rfl,hl'⟩;exact⟨_,rfl,(),⟨o,cc,rfl⟩,under.below_step hd hl'⟩
 rintro _ _ ⟨o,cc,rfl⟩ K hK;refine hK _ ?_;clear hK K
 iterate 6
  refine movex.pure_step (fun _ _ _=>trivial) (fun K hK=>?_);go_simp;refine hK _ ?_;clear hK K
 refine movex.move_step (fun _ _ _=>trivial) (by kernel_rfl) (fun sd wd hd=>?_) ?_
 ·go_simp
  refine callsIn_wide.2 ((hL _ (under.below_step hb1 hd)).mono ?_);rintro e' w' ⟨rfl,hl'⟩;exact⟨_,rfl,(),rfl,under.below_step hd hl'⟩
 intro v5 _ hv K hK;obtain rfl:v5=.int .i64 (x:Nat):=hv;refine hK _ ?_;clear hK K;refine movex.pure_step (fun _ _ _=>trivial) (fun K hK=>?_);go_simp;refine hK _ ?_;clear hK K;refine movex.nil_step ?_;intro wz hw5;have hbz:Below w0.heap.size w0 wz:=hw5;have hr:=hbz.block _ hlt0;rw [hA0] at hr;have q0:wz.cell? ⟨w.heap.size,0,none⟩=some (.int .i64 0):=by rw [cell_of_row _ _ _ _ _ _ hr];rfl
 have q1:wz.cell? ⟨w.heap.size,1,none⟩=some (.int .i64 0):=by rw [cell_of_row _ _ _ _ _ _ hr];rfl
 have q2:wz.cell? ⟨w.heap.size,2,none⟩=some (.int .i64 0):=by rw [cell_of_row _ _ _ _ _ _ hr];rfl
 have q3:wz.cell? ⟨w.heap.size,3,none⟩=some (.int .i64 0):=by rw [cell_of_row _ _ _ _ _ _ hr];rfl
 have qf:∀i,wz.frozen? ⟨w.heap.size,i,none⟩=false:=fun i=>frozen_of_row _ _ i _ _ hr
 have hbw:=under.below_step hb1 hbz;clear hA hL c4 q4 this hw5 hb2;gi_wp2;go_wp2;have e1:=heap_setCell_same wz w.heap.size 0 _ _ (.int .i64 (len:Nat)) hr;have e2:=heap_setCell_same _ w.heap.size 1 _ _ (.int .i64 0) e1;have e3:=heap_setCell_same _ w.heap.size 2 _ _ (.int .i64 (gs:Nat)) e2;have e4:=heap_setCell_same _ w.heap.size 3 _ _ (.int .i64 (x:Nat)) e3;have hB:=(((hbw.setCell (p:=⟨w.heap.size,0,none⟩) (Nat.le_refl _) (.int .i64 (len:Nat))).setCell (p:=⟨w.heap.size,1,none⟩) (Nat.le_refl _) (.int .i64 0)).setCell (p:=⟨w.heap.size,2,none⟩) (Nat.le_refl _) (.int .i64 (gs:Nat))).setCell (p:=⟨w.heap.size,3,none⟩) (Nat.le_refl _) (.int .i64 (x:Nat));have r0:=cell_of_row _ _ 0 _ _ _ e4;have r1:=cell_of_row _ _ 1 _ _ _ e4;have r2:=cell_of_row _ _ 2 _ _ _ e4;have r3:=cell_of_row _ _ 3 _ _ _ e4;refine bodyPost_ret (v:=.agg #[.int .i64 (len:Nat),.int .i64 0,.int .i64 (gs:Nat),.int .i64 (x:Nat)]) (by simp [results,Tryz.results59,go_sem,r0,r1,r2,r3]) rfl ⟨rfl,hB⟩
theorem rwants_off(h:QRow X p d kd f.R none w)(hW:WAt f t k w)(hn:t.n≤64)(g:Int):Calls Tryz.prog 21 #[.pointer (some ⟨X,0,none⟩),.int .i64 g] w fun e w'=>e=.returned (.tuple #[.int .i64 (choose.wh (cntT 3 t) (cntT 2 t) t.n d g),.bool (choose.db (cntT 3 t) (cntT 2 t) t.n d g)])∧Below w.heap.size w w':=by
 have HN:=Lib.hid h;have cN:=rnum_off h hW hn;have c1:=h.c1;have c4:=h.c4;have hn0:=rd_none;have cW:=fun W=>choose.rwhich_any (cntT 3 t) (cntT 2 t) t.n d g W
 have cD:=fun W=>choose.rdouble_any (cntT 3 t) (cntT 2 t) t.n d g W
 clear h hW;generalize choose.wh (cntT 3 t) (cntT 2 t) t.n d g=rw at *
 generalize choose.db (cntT 3 t) (cntT 2 t) t.n d g=rd at *
 generalize cntT 3 t=n3 at *
 generalize cntT 2 t=n2 at *
 generalize t.n=n1 at *
 go_enter Tryz.func21,Tryz.ntmps21
 go_upto_region 4 with (go_at_call 59;refine cN.mono ?_;rintro e w1 ⟨rfl,hb1⟩)
 have hA:=World.alloc_heap_new w1 (.cells #[.int .i64 (n3:Nat),.int .i64 (n2:Nat),.int .i64 (n1:Nat),.int .i64 0] 116);have hb2:=under.below_step hb1 (new_block w1 (.cells #[.int .i64 (n3:Nat),.int .i64 (n2:Nat),.int .i64 (n1:Nat),.int .i64 0] 116));have c1:=(HN.out.keep hb2).c1;generalize w1.alloc (.cells #[.int .i64 (n3:Nat),.int .i64 (n2:Nat),.int .i64 (n1:Nat),.int .i64 0] 116)=w2 at *
 have q0:w2.cell? ⟨w1.heap.size,0,none⟩=some (.int .i64 (n3:Nat)):=by rw [cell_of_row _ _ _ _ _ _ hA];rfl
 have q1:w2.cell? ⟨w1.heap.size,1,none⟩=some (.int .i64 (n2:Nat)):=by rw [cell_of_row _ _ _ _ _ _ hA];rfl
 have q2:w2.cell? ⟨w1.heap.size,2,none⟩=some (.int .i64 (n1:Nat)):=by rw [cell_of_row _ _ _ _ _ _ hA];rfl
 have y0:=Under.cell q0;have y1:=Under.cell q1;have y2:=Under.cell q2;have y3:=Under.cell c1;clear hA q0 q1 q2 c1 c4 cN HN hn0;refine wp_region_under (by kernel_rfl) (by kernel_rfl) ?_
 repeat (go_big_quiet_step (first
  | (go_at_call 60;(with_reducible refine under_same (cW _)))
  | (go_at_call 61;(with_reducible refine under_same (cD _)))))
 refine wpQuiet_nil ?_;intro wz hwz;obtain⟨z9,rfl⟩:=hwz;have hbz:=under.below_step hb2 z9.below;clear cW cD y0 y1 y2 y3;generalize z9.W=w9 at *
 go_wp2
 go_ret2
 exact⟨rfl,hbz⟩
end
end node
end Go.Proofs.YtdplhgpeggcmdaaGreatDoor
