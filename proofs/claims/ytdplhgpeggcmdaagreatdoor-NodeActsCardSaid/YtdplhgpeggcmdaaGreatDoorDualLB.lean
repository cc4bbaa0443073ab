/- DualLB: facts and laws for the walks. -/
import Derived.Test.YtdplhgpeggcmdaaGreatDoorDualLA
import Derived.Test.YtdplhgpeggcmdaaGreatDoorMeterSums
namespace Go.Proofs.YtdplhgpeggcmdaaGreatDoor
set_option linter.unusedSimpArgs false
set_option linter.unusedVariables false
namespace trap
open Go.RowKit errs under
set_option maxRecDepth 100000 in
set_option maxHeartbeats 1600000 in
theorem catch_all(a:String→Addr)(n:Nat)(g:Nat)(cap:Array Value)(hc:∀w,(callFunc g cap).run Tryz.prog w=.ok (.enter g cap) w)(d:List Nat)(T:World→Prop)(w:World)
  (hd:∀k∈d,k<w.heap.size)(hE:∀wx,Past d w wx→ErrsOk names a wx)(hT:∀w1 w2,T w1→Past [w.heap.size,w.heap.size+1] w1 w2→T w2)
  (hg:Calls Tryz.prog g cap ((w.alloc (.cells #[.nilIface] 27)).alloc (.cells #[.bool false] 4)) fun e w'=>Ends a n e∧Past d ((w.alloc (.cells #[.nilIface] 27)).alloc (.cells #[.bool false] 4)) w'∧T w') :
  Calls Tryz.prog 27 #[.func (.func g) #[] cap] w fun e w'=>e=.returned (errAt a n)∧Past d w w'∧T w':=by
 have hmf:∀(fn:Fn) (first cap:Array Value) (w:World),(Instr.makeFunc fn first cap).run Tryz.prog w=.ok (.func fn first cap) w:=fun _ _ _ _=>rfl
 have hn:=hfun;have hp0:Past d w ((w.alloc (.cells #[.nilIface] 27)).alloc (.cells #[.bool false] 4)):=((Past.refl d w).alloc _).alloc _
 go_enter_defers Tryz.func27,Tryz.ntmps27
 go_wp2;refine hg.mono ?_;rintro e w1 ⟨he,hp1,ht1⟩;have hpw:=hp0.trans hp1;have hE1:=hE w1 hpw;have ne:w.heap.size∉d:=fun h=>Nat.lt_irrefl _ (hd _ h)
 have nb:w.heap.size+1∉d:=fun h=>by have:=hd _ h;omega
 have ce:=hp1.cell (b:=w.heap.size) (i:=0) (v:=.nilIface) (by simp) ne;have cb:=hp1.cell (b:=w.heap.size+1) (i:=0) (v:=.bool false) (by simp) nb;have fe:w1.frozen? ⟨w.heap.size,0,none⟩=false:=(hp1.frozen (by simp;omega) ne).trans (by simp [go_sem]);have fb:w1.frozen? ⟨w.heap.size+1,0,none⟩=false:=(hp1.frozen (by simp) nb).trans (by simp [go_sem]);have hz:w.heap.size+1+1≤w1.heap.size:=by simpa using hp1.size
 have pe:∀(W:World) (u:Value),Past [w.heap.size,w.heap.size+1] w1 W→Past [w.heap.size,w.heap.size+1] w1 (W.setCell ⟨w.heap.size,0,none⟩ u):=fun W u h=>h.store (p:=⟨w.heap.size,0,none⟩) (.inl (by simp)) u
 have pb:∀(W:World) (u:Value),Past [w.heap.size,w.heap.size+1] w1 W→Past [w.heap.size,w.heap.size+1] w1 (W.setCell ⟨w.heap.size+1,0,none⟩ u):=fun W u h=>h.store (p:=⟨w.heap.size+1,0,none⟩) (.inl (by simp)) u
 rcases he with⟨rfl,rfl⟩|⟨k,hk,rfl,rfl⟩|⟨rfl,U,v,hU,rfl⟩
 ·skip
  go_wp2;refine leaves_cons (f:=74) (args:=#[.pointer (some ⟨w.heap.size+1,0,none⟩),.pointer (some ⟨w.heap.size,0,none⟩)]) (by simp) (by simp [go_sem]) ?_;refine (caught_idle _ _ _ ?_).mono ?_
  ·simp [go_sem,cb]
  rintro e u' w'' ⟨rfl,rfl,rfl⟩
  simp [Leaves,settle,results,Tryz.results27,go_sem,ce,cb]
  exact⟨rfl,(hpw.store (p:=⟨w.heap.size+1,0,none⟩) (.inr (by simp)) _).store (p:=⟨w.heap.size,0,none⟩) (.inr (by simp)) _,hT _ _ ht1 (pe _ _ (pb _ _ (Past.refl _ _)))⟩
 ·skip
  go_wp2;refine leaves_cons (f:=74) (args:=#[.pointer (some ⟨w.heap.size+1,0,none⟩),.pointer (some ⟨w.heap.size,0,none⟩)]) (by simp) (by simp [go_sem]) ?_;refine (caught_raised _ _ _ _ cb _ ce fe).mono ?_;rintro e u' w'' ⟨rfl,rfl,o,rfl⟩;have cr:((w1.setCell ⟨w.heap.size,0,none⟩ (errV (a (nm k)))).alloc o).cell? ⟨w.heap.size,0,none⟩=some (errV (a (nm k))):=old o (by simp [go_sem,ce])
  simp [Leaves,settle,results,Tryz.results27,go_sem,cr]
  exact⟨rfl,(hpw.store (p:=⟨w.heap.size,0,none⟩) (.inr (by simp)) _).alloc _,hT _ _ ht1 ((pe _ _ (Past.refl _ _)).alloc _)⟩
 ·skip
  go_wp2;refine leaves_cons (f:=74) (args:=#[.pointer (some ⟨w.heap.size+1,0,none⟩),.pointer (some ⟨w.heap.size,0,none⟩)]) (by simp) (by simp [go_sem]) ?_;refine (caught_other a _ _ _ hU _ _ hE1 cb _ ce fe).mono ?_;rintro e u' w'' ⟨rfl,rfl,rfl⟩
  simp [Leaves,settle,results,Tryz.results27,go_sem,ce,cb]
  exact⟨rfl,hpw.store (p:=⟨w.heap.size,0,none⟩) (.inr (by simp)) _,hT _ _ ht1 (pe _ _ (Past.refl _ _))⟩
end trap
namespace dual
open Go.ChangeShapes Go.WideShapes Go.ChangeAt Go.RowKit Go.Shelf swar under trap meter group probe lens tail call table evac
attribute [local go_sem] Oper.semAt_some stage.pureUpon move.stepUpon
section
variable {a:String→Addr} {w0:World} {Y:Lay} {D n1 d:Nat} {dp:Int} {R E G c Bm q q':Nat} {t t':Nat→Tb} {fp fp':List Nat} {nx br nx' br':Nat} {u u':Nat→Tb} {k k':Nat→Nat} {m m':Mt} {P V U p v u0:Nat} {W W':World} {X5 X8 Xi:Nat}
theorem LS.sK_le(h:LS a w0 Y D n1 d dp R E G c Bm q t fp nx br u k m W):dual.sK (rdy Y n1 q) Y.N d (q-(Y.N-1)*n1) t≤512:=by
 unfold dual.sK
 split
 ·rename_i hr
  have h6:=h.n64;rw [hr] at h6;have h1:=lkc_most Y.N d h.da.N (lst t (q-(Y.N-1)*n1)) t h6;have h2:=lst_length t (q-(Y.N-1)*n1);omega
 ·omega
end
section
variable {a:String→Addr} {w0:World} {Y:Lay} {D n1 d:Nat} {dp:Int} {R E G c Bm q q':Nat} {t t':Nat→Tb} {fp fp':List Nat} {nx br nx' br':Nat} {u u':Nat→Tb} {k k':Nat→Nat} {m m':Mt} {P V U p v u0:Nat} {W W':World} {X5 X8 Xi:Nat}
theorem LS.rput(h:LS a w0 Y D n1 d dp R E G c Bm q t fp nx br u k m W)(hb:decide (br=0)=rdy Y n1 q)(key val hs:Nat)(hk:key<18446744073709551616)(hv:val<18446744073709551616)(hh:hs<18446744073709551616)(more:Bool)(hks:sumK Y.N k+200≤100000000) :
  Calls Tryz.prog 49 #[.pointer (some ⟨R,0,none⟩),group.entV key val hs,.bool more] W fun e w'=>e=.returned (.tuple #[.bool (dB u key hs (js (rdy Y n1 q) Y.N d hs) more),.int .i64 (dE u key hs (js (rdy Y n1 q) Y.N d hs) more:Nat)])∧(∃k',sumK Y.N k'=sumK Y.N k+dual.fndK u key hs (js (rdy Y n1 q) Y.N d hs)∧LS a w0 Y D n1 d dp R E G c Bm q t fp nx br (dT u key hs val (js (rdy Y n1 q) Y.N d hs) more) k' m w')∧Past (R::E::Y.rall) W w':=by
 rw [←hb];exact (h.rd.put key val hs hk hv hh (by omega) more).mono fun e w' ⟨he,⟨k',hk',hr⟩,hp⟩=>have hp':=hp.mono fun b hb=>List.mem_cons_of_mem _ (List.mem_cons_of_mem _ hb);⟨he,⟨k',hk',h.doc hr hp'⟩,hp'⟩
theorem LS.rdelete(h:LS a w0 Y D n1 d dp R E G c Bm q t fp nx br u k m W)(hb:decide (br=0)=rdy Y n1 q)(key hs:Nat)(hk:key<18446744073709551616)(hh:hs<18446744073709551616)(hks:sumK Y.N k+200≤100000000) :
  Calls Tryz.prog 53 #[.pointer (some ⟨R,0,none⟩),.int .u64 (key:Nat),.int .u64 (hs:Nat)] W fun e w'=>e=.returned (.tuple #[group.entV (fndE u key hs (js (rdy Y n1 q) Y.N d hs)).key (fndE u key hs (js (rdy Y n1 q) Y.N d hs)).val (fndE u key hs (js (rdy Y n1 q) Y.N d hs)).hash,.bool (fnd u key hs (js (rdy Y n1 q) Y.N d hs)).isSome])∧(∃k',sumK Y.N k'=sumK Y.N k+dual.fndK u key hs (js (rdy Y n1 q) Y.N d hs)∧LS a w0 Y D n1 d dp R E G c Bm q t fp nx br (eT u key hs (js (rdy Y n1 q) Y.N d hs)) k' m w')∧Past (R::E::Y.rall) W w':=by
 rw [←hb];exact (h.rd.delete key hs hk hh (by omega)).mono fun e w' ⟨he,⟨k',hk',hr⟩,hp⟩=>have hp':=hp.mono fun b hb=>List.mem_cons_of_mem _ (List.mem_cons_of_mem _ hb);⟨he,⟨k',hk',h.doc hr hp'⟩,hp'⟩
theorem LS.rstep{q1:Nat}{tr:Nat→Tb}(h:LS a w0 Y D n1 d dp R E G c Bm q1 tr fp nx br u k m W)(hnx:nx=q-(Y.N-1)*n1)(hbr:br=(Y.N-1)*n1-q)(hre:rdy Y n1 q=true→∃t',Real a w0 Y t' W)(hq:q<Y.n 0+(Y.N-1)*n1)(hg:sG (rdy Y n1 q) Y.N d (q-(Y.N-1)*n1) u=true)(hks:sumK Y.N k+600≤100000000) :
  Calls Tryz.prog 30 #[.pointer (some ⟨R,0,none⟩)] W fun e w'=>e=.returned (.tuple #[.bool true,.bool false])∧(∃k',sumK Y.N k'=sumK Y.N k+(if rdy Y n1 q=true then 1+dual.sK (rdy Y n1 q) Y.N d (q-(Y.N-1)*n1) u else 0)∧LS a w0 Y D n1 d dp R E G c Bm q1 tr fp (q+1-(Y.N-1)*n1) ((Y.N-1)*n1-(q+1)) (sT (rdy Y n1 q) Y.N d (q-(Y.N-1)*n1) u) k' m w')∧Past (R::E::Y.rall) W w':=by
 have hs:=h.da.small;have hst:∀b∈Y.tall,b∉Y.rall:=fun b hb=>(h.sp b (h.da.tin b hb)).2.2.2.2.1
 have oE:E∉Y.tall:=fun e=>(h.sp E (h.da.tin E e)).2.2.1 rfl
 have oG:G∉Y.tall:=fun e=>(h.sp G (h.da.tin G e)).2.2.2.1 rfl
 cases hr:rdy Y n1 q with
 | false =>
  have hlt:q<(Y.N-1)*n1:=by
   have:=of_decide_eq_false (show decide ((Y.N-1)*n1≤q)=false from hr);omega
  have e0:nx=q+1-(Y.N-1)*n1:=by omega
  have e1:br-1=(Y.N-1)*n1-(q+1):=by omega
  refine (h.rd.step_bare (by omega) (by omega) h.hR.1).mono fun e w' ⟨he,hd,hp⟩=>?_
  have hp':Past (R::E::Y.rall) W w':=hp.mono fun b hb=>by
   obtain rfl:b=R:=by simpa using hb
   simp
  rw [e1,e0] at hd;exact⟨he,⟨k,rfl,h.doc hd hp'⟩,hp'⟩
 | true =>
  have hle:(Y.N-1)*n1≤q:=of_decide_eq_true hr;have hb0:br=0:=by omega
  subst hb0;obtain⟨t',ht'⟩:=hre hr;rw [hr] at hg;rw [sG_yes,←hnx] at hg;refine (h.rd.step_move ht' hst oE oG h.hR.2 (by omega) hks).mono fun e w' hx=>?_
  rcases hx with⟨_,he,⟨k',hk',hd⟩,hp⟩|⟨hf,_⟩
  ·have hp':Past (R::E::Y.rall) W w':=hp.mono fun b hb=>List.mem_cons_of_mem _ hb
   rw [sT_yes,dual.sK_yes,←hnx,if_pos rfl];rw [show nx+1=q+1-(Y.N-1)*n1 by omega] at hd;refine⟨he,⟨k',by omega, ?_⟩,hp'⟩;rw [show (Y.N-1)*n1-(q+1)=0 by omega];exact h.doc hd hp'
  ·rw [hg] at hf;cases hf
theorem LS.rstop(h:LS a w0 Y D n1 d dp R E G c Bm q t fp nx br u k m W)(hnx:nx=q-(Y.N-1)*n1)(hbr:br=(Y.N-1)*n1-q)(hq:q=Y.n 0+(Y.N-1)*n1) :
  Calls Tryz.prog 30 #[.pointer (some ⟨R,0,none⟩)] W fun e w'=>e=.returned (.tuple #[.bool false,.bool false])∧LS a w0 Y D n1 d dp R E G c Bm q t fp nx br u k m w'∧Below W.heap.size W w':=by
 have hst:∀b∈Y.tall,b∉Y.rall:=fun b hb=>(h.sp b (h.da.tin b hb)).2.2.2.2.1
 have hb0:br=0:=by omega
 have hre:=h.da.re;rw [rdy_yes (by omega)] at hre;subst hb0;exact (h.rd.step_stop hre hst (by omega)).mono fun e w' ⟨he,hb⟩=>⟨he,h.read hb,hb⟩
theorem rbreak{w:World}{tr:Nat→Tb}(h:Rd w0 R E G c d nx br false Y u k w)(hnx:nx=q-(Y.N-1)*n1)(hbr:br=(Y.N-1)*n1-q)(hr:rdy Y n1 q=true)(hre:Real a w0 Y tr w)(hst:∀b∈Y.tall,b∉Y.rall)(oE:E∉Y.tall)(oG:G∉Y.tall)(hE0:w0.heap.size≤E)(hq:q<Y.n 0+(Y.N-1)*n1)(hg:sG (rdy Y n1 q) Y.N d (q-(Y.N-1)*n1) u=false)(hks:sumK Y.N k+600≤100000000) :
  Calls Tryz.prog 30 #[.pointer (some ⟨R,0,none⟩)] w fun e w'=>e=.returned (.tuple #[.bool true,.bool true])∧Past (E::Y.rall) w w':=by
 have hle:(Y.N-1)*n1≤q:=of_decide_eq_true hr;have hb0:br=0:=by omega
 subst hb0;rw [hr,sG_yes,←hnx] at hg;refine (h.step_move hre hst oE oG hE0 (by omega) hks).mono fun e w' hx=>?_
 rcases hx with⟨hf,_⟩|⟨_,he,hp⟩
 ·rw [hg] at hf;cases hf
 ·exact⟨he,hp⟩
end
section
variable {b0 G X2 X5 X8 X9 X11 X12 X14:Nat} {cas:Cas} {D Bm P V U:Nat} {kd ky nn:Int} {key val hs wp wv wu:Nat} {F F':List Nat} {W W':World}
end
end dual
namespace dual
open Go.ChangeShapes Go.WideShapes Go.ChangeAt Go.RowKit Go.Shelf swar under trap meter group probe lens tail call table evac
section
variable {w:World} {d:List Nat} {A B C:World→Prop}
end
section
variable {a:String→Addr} {w0:World} {Y:Lay} {D n1 d:Nat} {dp:Int} {R E G c Bm q q':Nat} {t t':Nat→Tb} {fp fp':List Nat} {nx br nx' br':Nat} {u u':Nat→Tb} {k k':Nat→Nat} {m m':Mt} {P V U p v u0:Nat} {W W':World} {X5 X8 Xi:Nat}
end
theorem rdy_eq(Y:Lay)(n1 q:Nat):decide ((Y.N-1)*n1-q=0)=rdy Y n1 q:=by
 unfold rdy
 by_cases h:(Y.N-1)*n1≤q
 ·rw [decide_eq_true h,decide_eq_true (by omega)]
 ·rw [decide_eq_false h,decide_eq_false (by omega)]
end dual
end Go.Proofs.YtdplhgpeggcmdaaGreatDoor
