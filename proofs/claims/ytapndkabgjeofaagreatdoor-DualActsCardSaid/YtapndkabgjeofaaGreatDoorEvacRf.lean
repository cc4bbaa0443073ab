/- EvacRf: several texts in one: plain facts and laws for the walks. No program is named. -/
import Derived.Test.YtapndkabgjeofaaGreatDoorEvac
import Derived.Test.YtapndkabgjeofaaGreatDoorSplitRef
import Derived.Test.YtapndkabgjeofaaGreatDoorDrawn
import Derived.LoopTactic

/-! ### evac: the document's evacuation. -/
namespace Go.Proofs.YtapndkabgjeofaaGreatDoor.evac
open Go.ChangeShapes Go.WideShapes Go.ChangeAt Go.RowKit Go.Shelf swar under trap meter group probe lens tail call table
attribute [local go_sem] Oper.semAt_some stage.pureUpon move.stepUpon
set_option linter.unusedSimpArgs false
set_option linter.unusedVariables false

/-- the document's evacuation: its tables are those of Y, so many groups are moved -/
structure EmAt (E G c:Nat) (Y:Lay) (d next:Nat) (W:World):Prop where
 row:∃ dz:Int,(Y.N = 3 → dz = (d:Nat)) ∧ W.heap[E]? = some (.cells #[.pointer (some ⟨(Y.F 0).R,0,none⟩),.slice (some ⟨G,0,none⟩) (Y.N - 1) c,.int .i64 dz,.int .i64 (next:Nat)] 76 (0,0))
 tg:∀ j,1 ≤ j → j < Y.N → W.cell? ⟨G,j - 1,none⟩ = some (.pointer (some ⟨(Y.F j).R,0,none⟩))
 lg:G < W.heap.size
 ne:E ≠ G
section
variable {E G c:Nat} {Y:Lay} {d next:Nat} {W W':World}
theorem EmAt.lt (h:EmAt E G c Y d next W):E < W.heap.size:=by obtain ⟨dz,_,hr⟩:=h.row; exact (Array.getElem?_eq_some_iff.1 hr).1
theorem EmAt.of_blocks (h:EmAt E G c Y d next W) (hE:W'.heap[E]? = W.heap[E]?) (hG:W'.heap[G]? = W.heap[G]?) (hz:W.heap.size ≤ W'.heap.size):EmAt E G c Y d next W':=by
 obtain ⟨dz,h1,hr⟩:=h.row
 exact ⟨⟨dz,h1,hE.trans hr⟩,fun j h1 h2 => (World.cell?_of_block (w:=W) hG).trans (h.tg j h1 h2),Nat.lt_of_lt_of_le h.lg hz,h.ne⟩
theorem EmAt.keep (h:EmAt E G c Y d next W) (hb:Below W.heap.size W W'):EmAt E G c Y d next W':=h.of_blocks (hb.block E h.lt) (hb.block G h.lg) hb.size
theorem EmAt.past {l:List Nat} (h:EmAt E G c Y d next W) (hp:Past l W W') (hE:E ∉ l) (hG:G ∉ l):EmAt E G c Y d next W':=h.of_blocks (hp.block E h.lt hE) (hp.block G h.lg hG) hp.size
theorem EmAt.c0 (h:EmAt E G c Y d next W):W.cell? ⟨E,0,none⟩ = some (.pointer (some ⟨(Y.F 0).R,0,none⟩)):=by obtain ⟨dz,_,hr⟩:=h.row; rw [cell_of_row _ _ _ _ _ _ hr]; rfl
theorem EmAt.c1 (h:EmAt E G c Y d next W):W.cell? ⟨E,1,none⟩ = some (.slice (some ⟨G,0,none⟩) (Y.N - 1) c):=by obtain ⟨dz,_,hr⟩:=h.row; rw [cell_of_row _ _ _ _ _ _ hr]; rfl
theorem EmAt.c2 (h:EmAt E G c Y d next W) (hN:Y.N = 3):W.cell? ⟨E,2,none⟩ = some (.int .i64 (d:Nat)):=by obtain ⟨dz,h1,hr⟩:=h.row; rw [cell_of_row _ _ _ _ _ _ hr,← h1 hN]; rfl
theorem EmAt.c3 (h:EmAt E G c Y d next W):W.cell? ⟨E,3,none⟩ = some (.int .i64 (next:Nat)):=by obtain ⟨dz,_,hr⟩:=h.row; rw [cell_of_row _ _ _ _ _ _ hr]; rfl
theorem EmAt.fz (h:EmAt E G c Y d next W) (i:Nat):W.frozen? ⟨E,i,none⟩ = false:=by obtain ⟨dz,_,hr⟩:=h.row; exact frozen_of_row _ _ i _ _ hr
theorem EmAt.set3 (h:EmAt E G c Y d next W) (x:Nat):EmAt E G c Y d x (W.setCell ⟨E,3,none⟩ (.int .i64 (x:Nat))):=by
 obtain ⟨dz,h1,hr⟩:=h.row
 exact ⟨⟨dz,h1,heap_setCell_same W E 3 _ _ _ hr⟩,fun j h1 h2 => (World.cell?_of_block (w:=W) (heap_setCell_other _ _ _ _ (show G ≠ E from h.ne.symm))).trans (h.tg j h1 h2),by simpa using h.lg,h.ne⟩
end
set_option maxRecDepth 20000 in
theorem rtarget_any (E G c:Nat) (Y:Lay) (hN:Y.N = 2 ∨ Y.N = 3) (d next h:Nat) (hd:d ≤ 15) (hh:h < 18446744073709551616) (w:World) (hE:EmAt E G c Y d next w) :
  Calls Tryz.prog 99 #[.pointer (some ⟨E,0,none⟩),.int .u64 h] w fun e w' => e = .returned (.pointer (some ⟨(Y.F (tgt Y.N d h)).R,0,none⟩)) ∧ Below w.heap.size w w':=by
 have HE:=Lib.hid hE
 rcases hN with hN | hN
 ·have h1:w.cell? ⟨E,1,none⟩ = some (.slice (some ⟨G,0,none⟩) 1 c):=by have:=hE.c1; rw [hN] at this; exact this
  have g0:w.cell? ⟨G,0,none⟩ = some (.pointer (some ⟨(Y.F 1).R,0,none⟩)):=hE.tg 1 (Nat.le_refl _) (by omega)
  have y1:=Under.cell h1
  rw [show tgt Y.N d h = 1 from if_neg (by omega)]
  clear hE
  go_enter Tryz.func99,Tryz.ntmps99
  go_wp2
  refine wp_region_under (by kernel_rfl) (by kernel_rfl) ?_
  repeat (go_big_quiet_step (fail))
  refine wpQuiet_nil ?_
  intro wz hwz
  obtain ⟨z,rfl⟩:=hwz
  have y2:=Under.cell h1 z
  have y3:=Under.cell g0 z
  go_wp2
  go_ret
  exact ⟨rfl,z.below⟩
 ·have h1:w.cell? ⟨E,1,none⟩ = some (.slice (some ⟨G,0,none⟩) 2 c):=by have:=hE.c1; rw [hN] at this; exact this
  have g0:w.cell? ⟨G,0,none⟩ = some (.pointer (some ⟨(Y.F 1).R,0,none⟩)):=hE.tg 1 (Nat.le_refl _) (by omega)
  have g1:w.cell? ⟨G,1,none⟩ = some (.pointer (some ⟨(Y.F 2).R,0,none⟩)):=hE.tg 2 (by decide) (by omega)
  have y1:=Under.cell h1
  have y2:=Under.cell (hE.c2 hN)
  have kB:=fun (q:Under w) => split.bits_any h hh q.W
  have fi:=split.index_bits h d (by omega)
  have et:tgt Y.N d h = 1 + split.bitN h d:=if_pos hN
  have hbn:=split.bitN_lt h d
  rw [et]
  clear hE et
  generalize split.bitsA h = bs at *
  generalize split.bitN h d = bt at *
  obtain rfl | rfl:bt = 0 ∨ bt = 1:=by omega
  ·go_enter Tryz.func99,Tryz.ntmps99
   go_wp2
   refine wp_region_under (by kernel_rfl) (by kernel_rfl) ?_
   repeat (go_big_quiet_step ((go_at_call 143; (with_reducible refine under_call (kB _)))))
   refine wpQuiet_nil ?_
   intro wz hwz
   obtain ⟨z,rfl⟩:=hwz
   have z2:=Under.cell h1 z
   have z3:=Under.cell g0 z
   clear kB y1 y2 fi
   go_wp2
   go_ret
   exact ⟨rfl,z.below⟩
  ·go_enter Tryz.func99,Tryz.ntmps99
   go_wp2
   refine wp_region_under (by kernel_rfl) (by kernel_rfl) ?_
   repeat (go_big_quiet_step ((go_at_call 143; (with_reducible refine under_call (kB _)))))
   refine wpQuiet_nil ?_
   intro wz hwz
   obtain ⟨z,rfl⟩:=hwz
   have z2:=Under.cell h1 z
   have z3:=Under.cell g1 z
   clear kB y1 y2 fi
   go_wp2
   go_ret
   exact ⟨rfl,z.below⟩
theorem rtake_any (a:String → Addr) (w0:World) (Y:Lay) (t u:Nat → Tb) (k:Nat → Nat) (h0:0 < Y.N) (i:Nat) (hi:i < Y.n 0) (hK:k 0 + 64 < 9223372036854775807) (w:World) (h:Many a w0 Y t u k w) :
  Calls Tryz.prog 114 #[.pointer (some ⟨(Y.F 0).R,0,none⟩),.int .i64 i] w fun e w' => ∃ o c,e = .returned (.tuple #[.slice o (lst u i).length c,.int .i64 0]) ∧ ListAt w.heap.size o (lst u i) w' ∧ Many a w0 Y t (tak u i) (ktk k) w' ∧ Past (Y.rb 0) w w':=by
 have hn:=h.un 0 h0
 have hi':i < (u 0).n:=by omega
 refine (rttake_any (Y.F 0) (u 0) (h.uok 0 h0).n (k 0) i hi' hK w (h.wa 0 h0)).mono fun e w' ⟨v,he,hk,hs⟩ => ?_
 obtain ⟨o,c,rfl,hl⟩:=Kept.list hk
 obtain ⟨h1,h2⟩:=h.ref h0 hs (tk_ok (h.uok 0 h0) hi' 8 (Nat.le_refl _)) ((tk_n _ _ _).trans hn)
 refine ⟨o,c, ?_,hl,h1,h2⟩
 rw [he]
 unfold lst entsG
 rw [List.length_map]
/-- within the document's Step: so many of the entries are moved -/
structure RsI (a:String → Addr) (w0 w:World) (Y:Lay) (t u1:Nat → Tb) (k1:Nat → Nat) (l:List Sl) (E G c d next b K:Nat) (o:Option Addr) (j:Nat) (W:World):Prop where
 m:Many a w0 Y t (mvs Y.N d u1 (l.take j)) (kvs Y.N d u1 k1 (l.take j)) W
 e:EmAt E G c Y d next W
 li:ListAt b o l W
 hb:w.heap.size ≤ b
 hk:∀ i,i < Y.N → kvs Y.N d u1 k1 (l.take j) i ≤ K + 64 * j
 past:Past (E :: Y.rall) w W
 lts:∀ x ∈ E :: Y.rall,x < w.heap.size
 nE:E ∉ Y.rall
 nG:G ∉ Y.rall
 g:goods Y.N d u1 (l.take j) = true
theorem RsI.read {a:String → Addr} {w0 w:World} {Y:Lay} {t u1:Nat → Tb} {k1:Nat → Nat} {l:List Sl} {E G c d next b K:Nat} {o:Option Addr} {j:Nat} {W W':World} (h:RsI a w0 w Y t u1 k1 l E G c d next b K o j W) (hb:Below W.heap.size W W'):RsI a w0 w Y t u1 k1 l E G c d next b K o j W':=
 ⟨h.m.read hb,h.e.keep hb,h.li.read hb,h.hb,h.hk,h.past.trans (Past.of hb),h.lts,h.nE,h.nG,h.g⟩
theorem RsI.next {a:String → Addr} {w0 w:World} {Y:Lay} {t u1:Nat → Tb} {k1:Nat → Nat} {l:List Sl} {E G c d next b K:Nat} {o:Option Addr} {j:Nat} {W W':World} (h:RsI a w0 w Y t u1 k1 l E G c d next b K o j W) (hN:Y.N = 2 ∨ Y.N = 3) (hj:j < l.length)
  (hg:good1 Y.N d (mvs Y.N d u1 (l.take j)) l[j] = true) (hm:Many a w0 Y t (mv1 Y.N d (mvs Y.N d u1 (l.take j)) l[j]) (kv1 Y.N d (mvs Y.N d u1 (l.take j)) (kvs Y.N d u1 k1 (l.take j)) l[j]) W') (hp:Past (Y.rb (tgt Y.N d l[j].hash)) W W'):RsI a w0 w Y t u1 k1 l E G c d next b K o (j + 1) W':=by
 have hr:∀ x ∈ Y.rb (tgt Y.N d l[j].hash),x ∈ Y.rall:=fun x hx => Lay.rin (tgt_lt hN _ _) hx
 refine ⟨?_,h.e.past hp (fun e => h.nE (hr _ e)) (fun e => h.nG (hr _ e)),list_past h.li hp fun x hx => Nat.lt_of_lt_of_le (h.lts x (List.mem_cons_of_mem _ (hr x hx))) h.hb,h.hb, ?_,h.past.trans (hp.mono fun x hx => List.mem_cons_of_mem _ (hr x hx)),h.lts,h.nE,h.nG, ?_⟩
 ·rw [take_next l hj,mvs_snoc,kvs_snoc]; exact hm
 ·rw [take_next l hj,kvs_snoc]
  intro i hi
  have:=kv1_le (N:=Y.N) (d:=d) (fun i hi => okN_le (h.m.uok i hi).n) hN h.hk l[j] i hi
  omega
 ·rw [take_next l hj,goods_snoc,h.g,hg]; rfl
set_option maxRecDepth 20000 in
theorem rstep_off (E G c:Nat) (a:String → Addr) (w0:World) (Y:Lay) (t u:Nat → Tb) (k:Nat → Nat) (h0:0 < Y.N) (d:Nat) (w:World) (hE:EmAt E G c Y d (Y.n 0) w) (h:Many a w0 Y t u k w) :
  Calls Tryz.prog 73 #[.pointer (some ⟨E,0,none⟩)] w fun e w' => e = .returned (.tuple #[.bool false,.bool false]) ∧ Below w.heap.size w w':=by
 have y0:=Under.cell hE.c0
 have y3:=Under.cell hE.c3
 have hr:=(h.wa 0 h0).cell0
 rw [h.un 0 h0] at hr
 have y1:=Under.cell hr
 clear hE h hr
 go_enter Tryz.func73,Tryz.ntmps73
 go_wp2
 refine wp_region_under (by kernel_rfl) (by kernel_rfl) ?_
 repeat (go_big_quiet_step (fail))
 refine wpQuiet_nil ?_
 intro wz hwz
 obtain ⟨z,rfl⟩:=hwz
 clear y0 y1 y3
 go_wp2
 go_ret2
 exact ⟨rfl,z.below⟩
set_option maxRecDepth 100000 in
set_option maxHeartbeats 4000000 in
theorem rstep_on (E G c:Nat) (a:String → Addr) (w0:World) (Y:Lay) (t u:Nat → Tb) (k:Nat → Nat) (hN:Y.N = 2 ∨ Y.N = 3) (d next K:Nat) (hd:d ≤ 15) (hn:next < Y.n 0) (hK:K ≤ 1000000) (hk:∀ i,i < Y.N → k i ≤ K) (w:World) (hE:EmAt E G c Y d next w) (h:Many a w0 Y t u k w) (nE:Out Y E) (nG:Out Y G) (hE0:w0.heap.size ≤ E) :
  Calls Tryz.prog 73 #[.pointer (some ⟨E,0,none⟩)] w fun e w' =>
   (goods Y.N d (tak u next) (lst u next) = true ∧ e = .returned (.tuple #[.bool true,.bool false]) ∧ Many a w0 Y t (mvs Y.N d (tak u next) (lst u next)) (kvs Y.N d (tak u next) (ktk k) (lst u next)) w' ∧ EmAt E G c Y d (next + 1) w' ∧ Past (E :: Y.rall) w w') ∨
   (goods Y.N d (tak u next) (lst u next) = false ∧ e = .returned (.tuple #[.bool true,.bool true]) ∧ Past (E :: Y.rall) w w'):=by
 have h0:0 < Y.N:=by omega
 have y0:=Under.cell hE.c0
 have y3:=Under.cell hE.c3
 have hr:=(h.wa 0 h0).cell0
 rw [h.un 0 h0] at hr
 have y1:=Under.cell hr
 have hn64:Y.n 0 ≤ 64:=by rw [← h.un 0 h0]; exact okN_le (h.uok 0 h0).n
 have d1:((next:Int) == (Y.n 0:Int)) = false:=beq_eq_false_iff_ne.2 (by omega)
 have hk0:=hk 0 h0
 have HM:=Lib.hid (And.intro h hE)
 have hlE:=hE.lt
 have cT:=fun W (hb:Below w.heap.size w W) => rtake_any a w0 Y t u k h0 next hn (by omega) W (h.read hb)
 have HK:=Lib.hid hk
 have hlok:=lst_ok (h.uok 0 h0) next
 have hl8:=lst_length u next
 generalize hl:lst u next = l at *
 clear hE h hr
 go_enter Tryz.func73,Tryz.ntmps73
 go_wp2
 refine wp_region_under (by kernel_rfl) (by kernel_rfl) ?_
 repeat (go_big_quiet_step (fail))
 refine wpQuiet_nil ?_
 intro wz hwz
 obtain ⟨z,rfl⟩:=hwz
 clear y0 y1 y3
 go_wp2
 have hEz:=HM.out.2.keep z.below
 have y0:=Under.cell hEz.c0
 have y3:=Under.cell hEz.c3
 refine one.wp_region_one 8 _ (by kernel_rfl) (by kernel_rfl) rfl ?_
 simp only [List.take_succ_cons,List.take_zero,List.drop_succ_cons,List.drop_zero]
 repeat (quiet_step (fail))
 refine wpQuiet_nil ?_
 intro y Kc hKc
 have hb2:=under.below_step z.below y.below
 clear y0 y3 hEz d1
 generalize hzy:y.W = w2 at *
 clear hzy y
 have HB2:=Lib.hid hb2
 go_simp
 refine (cT _ hb2).mono ?_
 rintro e w3 ⟨o,co,rfl,hL,hM3,hp3⟩
 go_simp
 refine hKc _ _ ?_
 clear hKc Kc
 repeat (quiet_step (fail))
 refine wpQuiet_nil ?_
 intro y2
 have hb3:=y2.below
 generalize hw4:y2.W = w4 at *
 clear hw4 y2
 have hM4:=hM3.read hb3
 have hE4:=((HM.out.2.keep hb2).past hp3 (fun e => nE.r (Lay.rin h0 e)) (fun e => nG.r (Lay.rin h0 e))).keep hb3
 have hL4:=hL.read hb3
 have z3:=hE4.c3
 have zf:=hE4.fz
 have ew:IntKind.i64.wrap ((next:Int) + 1) = (next:Int) + 1:=IntWalk.i64_in _ (by omega)
 have hE5:EmAt E G c Y d (next + 1) (w4.setCell ⟨E,3,none⟩ (.int .i64 ((next:Int) + 1))):=by
  have:=hE4.set3 (next + 1)
  rwa [show ((next + 1:Nat):Int) = (next:Int) + 1 by omega] at this
 have hp5:=(Past.refl [E] w4).store (p:=⟨E,3,none⟩) (.inl (by simp)) (.int .i64 ((next:Int) + 1))
 have hI:=(show RsI a w0 w Y t (tak u next) (ktk k) l E G c d (next + 1) w2.heap.size (K + 1) o 0 (w4.setCell ⟨E,3,none⟩ (.int .i64 ((next:Int) + 1))) from
  ⟨hM4.past hp5 (fun b hb => by
   obtain rfl:b = E:=by simpa using hb
   exact hE0) (fun i hi b hb e => by
   obtain rfl:b = E:=by simpa using e
   exact nE i hi hb),hE5,list_past hL4 hp5 (fun x hx => by
   obtain rfl:x = E:=by simpa using hx
   exact Nat.lt_of_lt_of_le hlE HB2.out.size),HB2.out.size,fun i hi => by
   have:=HK.out i hi
   have:=HK.out 0 h0
   unfold ktk up; simp only [List.take_zero,kvs]; split <;> omega,
   (Past.of HB2.out).trans ((hp3.mono fun b hb => List.mem_cons_of_mem _ (Lay.rin h0 hb)).trans ((Past.of hb3).trans (hp5.mono fun b hb => by
    obtain rfl:b = E:=by simpa using hb
    exact List.mem_cons_self))),fun x hx => by
   rcases List.mem_cons.1 hx with rfl | hx
   ·exact hlE
   ·exact (HM.out.1.rall hx).2,nE.r,nG.r,rfl⟩)
 have HI:=Lib.hid hI
 clear hI hp5 hM3 hL hM4 hL4 hE4 hE5 hp3 cT HM hk0 hb2 hb3 HK
 generalize w2.heap.size = b at HI ⊢
 go_wp2_with (fail)
 generalize w4.setCell ⟨E,3,none⟩ (.int .i64 ((next:Int) + 1)) = w5 at HI ⊢
 clear z3 zf ew HB2
 go_loopw [44] (fun i wr => ∃ j:Nat,j ≤ l.length ∧ i = .int .i64 j ∧ Hid (RsI a w0 w Y t (tak u next) (ktk k) l E G c d (next + 1) b (K + 1) o j wr)) (fun i _ => l.length - (intOf i).toNat)
 case atStart => exact ⟨0,by omega,rfl,HI⟩
 case round =>
  obtain ⟨j,hj,rfl,HR⟩:=hrel
  clear HI
  rcases Nat.lt_or_ge j l.length with hjl | hjl
  ·have hji:(j:Int) < (l.length:Int):=by omega
   obtain ⟨x,rfl,hxb,hc0,hc1,hc2⟩:=HR.out.li j hjl
   have hs:=hlok _ (List.getElem_mem hjl)
   have HN:=Lib.hid (fun (W V:World) (hr:RsI a w0 w Y t (tak u next) (ktk k) l E G c d (next + 1) b (K + 1) (some x) j W) hg hm hp => RsI.next (W':=V) hr hN hjl hg hm hp)
   have HF:=Lib.hid (fun hg => goods_no (N:=Y.N) (d:=d) (u:=tak u next) hjl hg)
   have hkj:=HR.out.hk
   generalize l[j] = en at *
   obtain ⟨_,hkey,hval,hhash,_⟩:=hs
   have hb5:=new_block wr (.cells #[.int .u64 (en.key:Nat),.int .u64 (en.val:Nat),.int .u64 (en.hash:Nat)] 43)
   have hV:=EBox.new en.key en.val en.hash wr
   have HR5:=Lib.hid (HR.out.read hb5)
   have hst:(tgt Y.N d en.hash) < Y.N:=tgt_lt hN d en.hash
   have kT:=fun (q:Under (wr.alloc (.cells #[.int .u64 (en.key:Nat),.int .u64 (en.val:Nat),.int .u64 (en.hash:Nat)] 43))) => rtarget_any E G c Y hN d (next + 1) en.hash hd hhash q.W (HR5.out.e.keep q.below)
   have cP:=fun (q:Under (wr.alloc (.cells #[.int .u64 (en.key:Nat),.int .u64 (en.val:Nat),.int .u64 (en.hash:Nat)] 43))) => (HR5.out.read q.below).m.rput hst en.key en.hash en.val hkey hhash hval (by have:=hkj _ hst; omega)
   have hgd:good1 Y.N d (mvs Y.N d (tak u next) (l.take j)) en = (putB' (mvs Y.N d (tak u next) (l.take j) (tgt Y.N d en.hash)) en.key en.hash && decide (putE' (mvs Y.N d (tak u next) (l.take j) (tgt Y.N d en.hash)) en.key en.hash = 0)):=rfl
   obtain ⟨pb,hpb⟩:∃ pb,putB' (mvs Y.N d (tak u next) (l.take j) (tgt Y.N d en.hash)) en.key en.hash = pb:=⟨_,rfl⟩
   obtain ⟨pe,hpe⟩:∃ pe,putE' (mvs Y.N d (tak u next) (l.take j) (tgt Y.N d en.hash)) en.key en.hash = pe:=⟨_,rfl⟩
   rw [hpb,hpe] at hgd cP
   have HG:=Lib.hid hgd
   clear hgd hpb hpe hkj
   have y0:=Under.cell hV.c0
   have y1:=Under.cell hV.c1
   have y2:=Under.cell hV.c2
   go_wp2
   generalize wr.alloc (.cells #[.int .u64 (en.key:Nat),.int .u64 (en.val:Nat),.int .u64 (en.hash:Nat)] 43) = w6 at *
   refine one.wp_region_one 5 _ (by kernel_rfl) (by kernel_rfl) rfl ?_
   simp only [List.take_succ_cons,List.take_zero,List.drop_succ_cons,List.drop_zero]
   repeat (quiet_step ((go_at_call 99; (with_reducible refine under_call (kT _)))))
   refine wpQuiet_nil ?_
   intro y Kc hKc
   have cPy:=cP y
   have HRy:=Lib.hid (HR5.out.read y.below)
   clear y0 y1 y2 kT cP hV hb5
   generalize y.W = w7 at *
   go_simp
   refine cPy.mono ?_
   rintro e w8 ⟨rfl,hm8,hp8⟩
   go_simp
   refine hKc _ _ ?_
   clear hKc Kc cPy
   repeat (quiet_step (fail))
   refine wpQuiet_nil ?_
   intro y3
   have HX:=Lib.hid (show Past (E :: Y.rall) w y3.W from (HRy.out.past.trans (hp8.mono (d':=E :: Y.rall) fun b hb => List.mem_cons_of_mem _ (Lay.rin hst hb))).trans (Past.of y3.below))
   have HY:=Lib.hid (fun hg => (HN.out _ _ HRy.out hg hm8 hp8).read y3.below)
   clear hm8 hp8
   generalize y3.W = w9 at *
   cases pb with
   | false =>
    go_wp2
    go_ret2
    exact .inr ⟨HF.out (by rw [HG.out]; rfl),rfl,HX.out⟩
   | true =>
    by_cases hp0:pe = 0
    ·subst hp0
     go_wp2
     go_roundw
     case rel => exact ⟨j + 1,by omega,by simp,Lib.hid (HY.out (by rw [HG.out]; rfl))⟩
     case measure => simp [intOf]; omega
    ·have d2:((pe:Int) == 0) = false:=beq_eq_false_iff_ne.2 (by omega)
     have d3:(pe == 0) = false:=beq_eq_false_iff_ne.2 hp0
     go_wp2
     go_ret2
     exact .inr ⟨HF.out (by rw [HG.out]; simp [hp0]),rfl,HX.out⟩
  ·obtain rfl:j = l.length:=by omega
   have hm:=HR.out.m
   have hg:=HR.out.g
   rw [List.take_length] at hm hg
   have HG:=Lib.hid (And.intro hm hg)
   clear hm hg
   go_wp2
   go_ret2
   exact .inl ⟨HG.out.2,rfl,HG.out.1,HR.out.e,HR.out.past⟩
end Go.Proofs.YtapndkabgjeofaaGreatDoor.evac

/-! ### evac: how many groups the document's evacuation has looked at. -/
namespace Go.Proofs.YtapndkabgjeofaaGreatDoor.evac
open Go.ChangeShapes Go.WideShapes Go.ChangeAt Go.RowKit Go.Shelf swar under trap meter group probe lens tail call table
attribute [local go_sem] Oper.semAt_some stage.pureUpon move.stepUpon
set_option linter.unusedSimpArgs false
set_option linter.unusedVariables false

def sumK (N:Nat) (k:Nat → Nat):Nat:=if N = 3 then k 0 + k 1 + k 2 else k 0 + k 1
end Go.Proofs.YtapndkabgjeofaaGreatDoor.evac
