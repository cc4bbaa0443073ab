/- build: a build's box, what the real build answers; the document's build. -/
import Derived.Test.YtdplhgpeggcmdaaGreatDoorTabNew
import Derived.Test.YtdplhgpeggcmdaaGreatDoorProbeDoc
namespace Go.Proofs.YtdplhgpeggcmdaaGreatDoor
set_option linter.unusedSimpArgs false
set_option linter.unusedVariables false
open Go.ChangeShapes Go.WideShapes Go.ChangeAt Go.RowKit Go.Shelf swar under trap meter group probe lens tail call table
namespace build
attribute [local go_sem] Oper.semAt_some stage.pureUpon move.stepUpon
theorem szTab:(Tryz.prog.info? 164).map (·.size)=some 3:=by kernel_rfl
theorem tab_some(x:Addr)(w:World):(Op.equalIn 10000 86 (.pointer (some x)) (.pointer none)).run Tryz.prog w=.ok false w:=by
 obtain⟨j,hj,_⟩:=Option.map_eq_some_iff.1 szTab
 have h:∀d:Nat,(Op.equalIn (d+1) 86 (.pointer (some x)) (.pointer none)).run Tryz.prog w=.ok false w:=fun d=>by
  simp [Op.equalIn,run_underlying Tryz.underlying86,sizeOf,typeInfo,hj,sameAddr]
 exact h 9999
structure BBox(D n k:Nat)(p:Option Addr)(W:World):Prop where
 row:W.heap[D]?=some (.cells #[.int .i64 (n:Nat),.int .i64 (k:Nat),.pointer p] 228 (0,0))
section
variable {D n k:Nat} {p:Option Addr} {W W':World}
theorem BBox.lt(h:BBox D n k p W):D<W.heap.size:=(Array.getElem?_eq_some_iff.1 h.row).1
theorem BBox.keep(h:BBox D n k p W)(hb:Below W.heap.size W W'):BBox D n k p W':=⟨(hb.block D h.lt).trans h.row⟩
theorem BBox.past{l:List Nat}(h:BBox D n k p W)(hp:Past l W W')(hD:D∉l):BBox D n k p W':=⟨(hp.block D h.lt hD).trans h.row⟩
theorem BBox.fz(h:BBox D n k p W)(i:Nat):W.frozen? ⟨D,i,none⟩=false:=frozen_of_row _ _ i _ _ h.row
theorem BBox.c0(h:BBox D n k p W):W.cell? ⟨D,0,none⟩=some (.int .i64 (n:Nat)):=by rw [cell_of_row _ _ _ _ _ _ h.row];rfl
theorem BBox.c1(h:BBox D n k p W):W.cell? ⟨D,1,none⟩=some (.int .i64 (k:Nat)):=by rw [cell_of_row _ _ _ _ _ _ h.row];rfl
theorem BBox.c2(h:BBox D n k p W):W.cell? ⟨D,2,none⟩=some (.pointer p):=by rw [cell_of_row _ _ _ _ _ _ h.row];rfl
theorem BBox.set1(h:BBox D n k p W)(x:Nat):BBox D n x p (W.setCell ⟨D,1,none⟩ (.int .i64 (x:Nat))):=⟨heap_setCell_same W D 1 _ _ _ h.row⟩
theorem BBox.set2(h:BBox D n k p W)(q:Option Addr):BBox D n k q (W.setCell ⟨D,2,none⟩ (.pointer q)):=⟨heap_setCell_same W D 2 _ _ _ h.row⟩
end
theorem BBox.new(n:Nat)(p:Option Addr)(W:World):BBox W.heap.size n 0 p (W.alloc (.cells #[.int .i64 (n:Nat),.int .i64 0,.pointer p] 228)):=⟨World.alloc_heap_new W _⟩
structure Bd(D T B n k:Nat)(p:Option Addr)(Bm o:Nat)(m:Mt)(W:World):Prop where
 bx:BBox D n k p W
 tb:PAt T B n k W
 mt:MAt Bm o m W
 ok:m.Ok
 dT:D≠T
 dB:D≠B
 dm:D≠Bm
 mT:Bm≠T
 mB:Bm≠B
section
variable {D T B n k:Nat} {p:Option Addr} {Bm o:Nat} {m:Mt} {W W':World}
theorem Bd.keep(h:Bd D T B n k p Bm o m W)(hb:Below W.heap.size W W'):Bd D T B n k p Bm o m W':=⟨h.bx.keep hb,h.tb.below hb,h.mt.below hb,h.ok,h.dT,h.dB,h.dm,h.mT,h.mB⟩
theorem Bd.mstep{m':Mt}(h:Bd D T B n k p Bm o m W)(hs:MStep Bm o m' W W')(ok:m'.Ok):Bd D T B n k p Bm o m' W':=
 ⟨h.bx.past hs.past (by simpa using h.dm),h.tb.past hs.past (by simpa using h.mT.symm) (by simpa using h.mB.symm),hs.at',ok,h.dT,h.dB,h.dm,h.mT,h.mB⟩
theorem Bd.prep(h:Bd D T B n k p Bm o m W)(hp:PAt T B n (k+1) W')(hs:LnStep [T,B] (.vi Bm o) (m.visits 1) W W'):Bd D T B n k p Bm o (m.visits 1) W'∧PAt T B n (k+1) W':=by
 have e:[T,B]++(Ln.vi Bm o).d=[T,B,Bm]:=rfl;have hps:=hs.past;rw [e] at hps;have hp0:PAt T B n k W':=⟨hp.row,hp.len,hp.tombs,hp.fz,hp.room,fun i hi hn=>hp.done i (by omega) hn,hp.ne,hp.lb⟩;exact⟨⟨h.bx.past hps (by simp;exact⟨h.dT,h.dB,h.dm⟩),hp0,hs.at',h.ok.visits 1,h.dT,h.dB,h.dm,h.mT,h.mB⟩,hp⟩
theorem Bd.done(h:Bd D T B n k p Bm o m W)(hp:PAt T B n (k+1) W):Bd D T B n (k+1) p Bm o m (W.setCell ⟨D,1,none⟩ (.int .i64 ((k+1:Nat):Int))):=by
 have hq:Past [D] W (W.setCell ⟨D,1,none⟩ (.int .i64 ((k+1:Nat):Int))):=(Past.refl [D] W).store (.inl (by simp)) _;exact⟨h.bx.set1 (k+1),hp.past hq (by simpa using h.dT.symm) (by simpa using h.dB.symm),h.mt.past hq (by simpa using h.dm.symm),h.ok,h.dT,h.dB,h.dm,h.mT,h.mB⟩
end
set_option maxRecDepth 20000 in
theorem new_yes(n:Nat)(hn:okN n)(w:World):Calls Tryz.prog 119 #[.int .i64 n] w fun e w'=>∃D,e=.returned (.tuple #[.pointer (some ⟨D,0,none⟩),.nilIface])∧w.heap.size+1<D∧BBox D n 0 (some ⟨w.heap.size+1,0,none⟩) w'∧PAt (w.heap.size+1) w.heap.size n 0 w'∧Below w.heap.size w w':=by
 go_enter Tryz.func119,Tryz.ntmps119
 go_wp2_with (go_at_call 84;refine (raw_yes n hn _).mono ?_;rintro e w1 ⟨rfl,hP,hb1⟩)
 go_ret2
 exact⟨_,rfl,hP.lt,BBox.new n _ w1,hP.below (new_block w1 _),under.below_step hb1 (new_block w1 _)⟩
theorem sub_small{n k:Nat}(hk:k≤n)(hn:n≤64):IntKind.i64.wrap ((n:Int)-(k:Int))=((n-k:Nat):Int):=by rw [IntWalk.i64_in _ (by omega)];omega
set_option maxRecDepth 20000 in
theorem left_any(D n k:Nat)(p:Option Addr)(hk:k≤n)(hn:n≤64)(w:World)(h:BBox D n k p w):Calls Tryz.prog 152 #[.pointer (some ⟨D,0,none⟩)] w fun e w'=>e=.returned (.int .i64 ((n-k:Nat):Int))∧∃q,w'=w.drewN q:=by
 have h0:=h.c0;have h1:=h.c1;have e1:=sub_small hk hn;clear h
 go_enter Tryz.func152,Tryz.ntmps152
 go_wp2
 go_quiet (fail)
 go_wp2
 go_ret
 exact⟨rfl,_,rfl⟩
set_option maxRecDepth 20000 in
theorem step_off(D n:Nat)(p:Option Addr)(hn:n≤64)(v:Option Addr)(w:World)(h:BBox D n n p w):Calls Tryz.prog 151 #[.pointer (some ⟨D,0,none⟩),.pointer v] w fun e w'=>e=.returned (.bool false)∧∃q,w'=w.drewN q:=by
 have c:=left_any D n n p (Nat.le_refl _) hn w h;rw [Nat.sub_self] at c
 go_enter Tryz.func151,Tryz.ntmps151
 go_wp2_with (go_at_call 152;refine c.mono ?_;rintro e w1 ⟨rfl,q,rfl⟩)
 go_ret
 exact⟨rfl,_,rfl⟩
set_option maxRecDepth 20000 in
set_option maxHeartbeats 2000000 in
theorem step_on (a : String → Addr) (D T B n k Bm o : Nat) (m : Mt) (hk : k < n) (hn : n ≤ 64) (hm : m.unitE 1 = 0) (w : World) (h : Bd D T B n k (some ⟨T, 0, none⟩) Bm o m w) (hE : w.cell? ⟨11, 0, none⟩ = some (errs.errV (a "ambler/api.ErrLimit"))) :
  Calls Tryz.prog 151 #[.pointer (some ⟨D,0,none⟩),.pointer (some ⟨Bm,o,none⟩)] w fun e w'=>e=.returned (.bool true)∧Bd D T B n (k+1) (some ⟨T,0,none⟩) Bm o ((m.unit 1).visits 1) w'∧Past [D,T,B,Bm] w w':=by
 have c1:=left_any D n k _ (by omega) hn w h.bx;have d1:(((n-k:Nat):Int)==0)=false:=beq_eq_false_iff_ne.2 (by omega);have c2:=fun q=>unit_any a Bm o m h.ok 1 (w.drewN q) (h.mt.drewN q) hE
 rw [hm] at c2;have HH:=Lib.hid h;have hok:=h.ok.unit 1;clear h hE hm;generalize m.unit 1=m1 at *
 go_enter Tryz.func151,Tryz.ntmps151
 go_wp2_with (first
  | (go_at_call 152;refine c1.mono ?_;rintro e w1 ⟨rfl,q,rfl⟩)
  | (go_at_call 148;refine (c2 q).mono ?_;rintro e w2 ⟨he,hs2⟩;obtain rfl:=ends_zero he;clear he))
 have h2:=(HH.out.keep (below_drewN' w q)).mstep hs2 hok;have y1:=Under.cell h2.bx.c1;have y2:=Under.cell h2.bx.c2;have HS2:=Lib.hid hs2;have H2:=Lib.hid h2;clear h2 hs2 c1 c2 d1;refine wp_region_tail_under 10 (by kernel_rfl) (by kernel_rfl) ?_;simp only [List.take_succ_cons,List.take_zero,List.drop_succ_cons,List.drop_zero]
 repeat (quiet_step ((go_at_call 150;(with_reducible refine under_call (working_any _ _ _)))))
 refine wpQuiet_nil ?_;intro w4 hw4;obtain⟨n4,rfl⟩:=hw4;have h4:=H2.out.keep n4.below;have hp4:=(Past.refl [D,T,B,Bm] w).drewN q |>.trans (HS2.out.past.mono (fun b hb=>by simp at hb ⊢;exact .inr (.inr (.inr hb)))) |>.trans (Past.of n4.below);clear y1 y2 HS2 H2;generalize n4.W=w5 at *
 have c3:=prepare_next T B n k hk (.vi Bm o) m1 w5 h4.tb h4.mt (by simp [Ln.d];exact fun e=>h4.mT e.symm) (by simp [Ln.d];exact fun e=>h4.mB e.symm)
 go_wp2_with (first
  | (go_at_call 174;refine c3.mono ?_;rintro e w6 ⟨rfl,hp6,hs6⟩;have h6:=(h4.prep hp6 hs6).1;have z1:=h6.bx.c1;have z2:=h6.bx.fz;have e1:IntKind.i64.wrap ((k:Int)+1)=((k+1:Nat):Int):=by rw [IntWalk.i64_in _ (by omega)];omega)
  | (go_at_call 83;refine (raise_nil _).mono ?_;rintro e w7 ⟨rfl,rfl⟩))
 go_ret
 refine⟨rfl,h6.done hp6, ?_⟩;exact (hp4.trans (hs6.past.mono fun b hb=>by simp [Ln.d] at hb ⊢;rcases hb with rfl|rfl|rfl <;> simp)).store (.inl (by simp)) _
set_option maxRecDepth 20000 in
theorem take_on(D n:Nat)(x:Addr)(hn:n≤64)(w:World)(h:BBox D n n (some x) w):Calls Tryz.prog 175 #[.pointer (some ⟨D,0,none⟩)] w fun e w'=>e=.returned (.tuple #[.pointer (some x),.nilIface])∧∃q,w'=(w.drewN q).setCell ⟨D,2,none⟩ (.pointer none):=by
 have c:=left_any D n n _ (Nat.le_refl _) hn w h;rw [Nat.sub_self] at c;have h2:=h.c2;have hf:=h.fz;have hts:=tab_some x;clear h
 go_enter Tryz.func175,Tryz.ntmps175
 go_wp2_with (go_at_call 152;refine c.mono ?_;rintro e w1 ⟨rfl,q,rfl⟩)
 go_ret2
 exact⟨rfl,_,rfl⟩
end build
end Go.Proofs.YtdplhgpeggcmdaaGreatDoor
