/- node: Put of a node without a job. -/
import Derived.Test.YtdplhgpeggcmdaaGreatDoorDualEx
namespace Go.Proofs.YtdplhgpeggcmdaaGreatDoor
set_option linter.unusedSimpArgs false
set_option linter.unusedVariables false
open Go.ChangeShapes Go.WideShapes Go.ChangeAt Go.RowKit Go.Shelf swar under trap meter group probe lens tail call table evac dual
namespace node
attribute [local go_sem] Oper.semAt_some stage.pureUpon move.stepUpon movex.stepUpon
def pB(t:Tb)(key hs:Nat)(more:Bool):Bool:=if isThere t key hs=true then false else more&&putB' t key hs
def pE(t:Tb)(key hs:Nat)(more:Bool):Nat:=if isThere t key hs=true then 0 else if more=true then putE' t key hs else 2
def pT(t:Tb)(key hs v:Nat)(more:Bool):Tb:=if (isThere t key hs||more)=true then t.puts key hs v else t
structure SD(w:World)(L:Ln)(m:Mt)(lk:Nat)(v0 v1 v2 v3 v4:Value)(s:XS)(W:World):Prop where
 ln:LnStep [] L (L.see m (s.n*lk)) w W
 box:∀b,s.al=some b→w.heap.size≤b∧∃a0 a1 a2 a3 a4,StC b a0 a1 a2 a3 a4 W∧(s.st=true→a0=v0∧a1=v1∧a2=v2∧a3=v3∧a4=v4)
abbrev set5(b:Nat)(v0 v1 v2 v3 v4:Value)(W:World):World:=((((W.setCell ⟨b,0,none⟩ v0).setCell ⟨b,1,none⟩ v1).setCell ⟨b,2,none⟩ v2).setCell ⟨b,3,none⟩ v3).setCell ⟨b,4,none⟩ v4
theorem stc5{b:Nat}{a0 a1 a2 a3 a4:Value}{W:World}(h:StC b a0 a1 a2 a3 a4 W)(v0 v1 v2 v3 v4:Value):StC b v0 v1 v2 v3 v4 (set5 b v0 v1 v2 v3 v4 W):=
 ⟨heap_setCell_same _ b 4 _ _ _ (heap_setCell_same _ b 3 _ _ _ (heap_setCell_same _ b 2 _ _ _ (heap_setCell_same _ b 1 _ _ _ (heap_setCell_same W b 0 _ _ _ h.row))))⟩
section
variable {w W W':World} {L:Ln} {m:Mt} {lk:Nat} {v0 v1 v2 v3 v4:Value} {s:XS}
theorem SD.next(hd:SD w L m lk v0 v1 v2 v3 v4 s W)(hlt:∀b∈L.d,b<w.heap.size)(h:LnStep [] L (L.see (L.see m (s.n*lk)) lk) W W'):SD w L m lk v0 v1 v2 v3 v4 ⟨s.n+1,s.al,s.st⟩ W':=
 ⟨by rw [Nat.add_mul,Nat.one_mul,L.see_add];exact hd.ln.trans h,fun b e=>by
  obtain⟨h1,a0,a1,a2,a3,a4,h2,h3⟩:=hd.box b e
  exact⟨h1,a0,a1,a2,a3,a4,h2.past h.past (by simpa using fun e=>by have:=hlt b e;omega),h3⟩⟩
theorem SD.put(hd:SD w L m lk v0 v1 v2 v3 v4 s W):SD w L m lk v0 v1 v2 v3 v4 ⟨s.n,some W.heap.size,false⟩ (W.alloc (.cells #[.pointer none,.int .u64 0,.int .u64 0,.pointer none,.pointer none] 106)):=
 ⟨hd.ln.below (new_block W _),fun b e=>by cases e;exact⟨hd.ln.past.size,_,_,_,_,_,⟨World.alloc_heap_new W _⟩,fun e=>by cases e⟩⟩
theorem SD.set{b:Nat}(hd:SD w L m lk v0 v1 v2 v3 v4 s W)(hlt:∀b∈L.d,b<w.heap.size)(ha:s.al=some b):SD w L m lk v0 v1 v2 v3 v4 ⟨s.n,some b,true⟩ (set5 b v0 v1 v2 v3 v4 W):=by
 obtain⟨h1,a0,a1,a2,a3,a4,h2,h3⟩:=hd.box b ha;exact⟨((((hd.ln.newset hlt (p:=⟨b,0,none⟩) h1 _).newset hlt (p:=⟨b,1,none⟩) h1 _).newset hlt (p:=⟨b,2,none⟩) h1 _).newset hlt (p:=⟨b,3,none⟩) h1 _).newset hlt (p:=⟨b,4,none⟩) h1 _,fun b' e=>by cases e;exact⟨h1,_,_,_,_,_,stc5 h2 _ _ _ _ _,fun _=>⟨rfl,rfl,rfl,rfl,rfl⟩⟩⟩
end
section
variable {X p d T:Nat} {k:Int} {w:World}
set_option maxRecDepth 20000 in
set_option maxHeartbeats 1000000 in
theorem nput_off{ae:String→Addr}{B:Nat}{t:Tb}{L:Ln}{m:Mt}(hn:NRow X p d T k none w)(h:Ready ae T B t L m w)(hX:X∉L.d)(key hs v:Nat)(hk:key<18446744073709551616)(hh:hs<18446744073709551616)(hv:v<18446744073709551616)(more:Bool) :
  Calls Tryz.prog 11 #[.pointer (some ⟨X,0,none⟩),.agg #[.pointer L.p],group.entV key v hs,.bool more] w fun e w'=>e=.returned (.tuple #[.bool (pB t key hs more),errAt ae (pE t key hs more)])∧TL T B (pT t key hs v more) L (L.see m (looks t key hs)) w w':=by
 have HH:=Lib.hid h;have HN:=Lib.hid hn;have hb2:=two_new w (.cells #[.pointer L.p] 52) (.cells #[.int .u64 (key:Nat),.int .u64 (v:Nat),.int .u64 (hs:Nat)] 44);have c1:=fun W (hb:Below w.heap.size w W)=>(h.below hb).seek key hs hk hh
 have hV:=EBox.second key v hs w (.cells #[.pointer L.p] 52);have hR:=fun W (hs':LnStep [] L (L.see m (looks t key hs)) w W)=>HH.out.look hs'
 have HR:=Lib.hid hR;have hA:=h.apart;have hTlt:=h.at'.lt;have hBlt:=h.at'.lb;have hok:=h.ok;have cR:=fun W (h':Ready ae T B t L (L.see m (looks t key hs)) W)=>h'.replace key hs v hh
 have HP:=Lib.hid (fun W (h':Ready ae T B t L (L.see m (looks t key hs)) W)=>h'.place key hs v hh);have hN2:=hn.keep hb2;have k2:=hN2.c2;have k4:=hN2.c4;have hn0:=dl_none;have hX0:((w.alloc (.cells #[.pointer L.p] 52)).alloc (.cells #[.int .u64 (key:Nat),.int .u64 (v:Nat),.int .u64 (hs:Nat)] 44)).cell? ⟨w.heap.size,0,none⟩=some (.pointer L.p):=keepc (new_block _ _) (newc w _ _);clear h hR hn hN2;generalize hpb:pB t key hs more=rB;generalize hpe:errAt ae (pE t key hs more)=rE;generalize hpt:pT t key hs v more=rT;generalize hlg:lastG t key hs=lg at *
 generalize hrg:roomG t key hs=rg at *
 go_enter Tryz.func11,Tryz.ntmps11
 go_upto_region 3 with (fail)
 have hb3:=under.below_step hb2 (under.drew_below _);have hlt:∀b∈L.d,b<w.heap.size:=HH.out.ln.lt;have hR3:=HH.out.below hb3;have hx3:=keepc (under.drew_below _) hX0;have hV3:=hV.keep (under.drew_below _);have hn3:=(HN.out.keep hb3).c2;have hl3:∀b∈L.d,b<((w.alloc (.cells #[.pointer L.p] 52)).alloc (.cells #[.int .u64 (key:Nat),.int .u64 (v:Nat),.int .u64 (hs:Nat)] 44)).drew.heap.size:=fun b hb=>by have:=hlt b hb;have:=hb3.size;omega
 have nw:∀x,w.heap.size≤x→x∉[]++L.d:=fun x hx e=>by have:=hlt x (by simpa using e);omega
 have nX:X∉[]++L.d:=by simpa using hX
 generalize hlk:looks t key hs=lk at *
 generalize hw3:((w.alloc (.cells #[.pointer L.p] 52)).alloc (.cells #[.int .u64 (key:Nat),.int .u64 (v:Nat),.int .u64 (hs:Nat)] 44)).drew=w3 at *
 have hsd:SD w3 L m lk (.pointer (some ⟨T,0,none⟩)) (.int .u64 (key:Nat)) (.int .u64 (hs:Nat)) (.pointer (some ⟨B,lg*25,none⟩)) (.pointer (some ⟨B,rg*25,none⟩)) ⟨0,none,false⟩ w3:=⟨by rw [Nat.zero_mul];exact .refl _ hR3.ln,fun b e=>(by cases e)⟩;have qn:∀y:movex.Un (SD w3 L m lk (.pointer (some ⟨T,0,none⟩)) (.int .u64 (key:Nat)) (.int .u64 (hs:Nat)) (.pointer (some ⟨B,lg*25,none⟩)) (.pointer (some ⟨B,rg*25,none⟩))),y.W.cell? ⟨X,2,none⟩=some (.pointer (some ⟨T,0,none⟩)):=fun y=>y.h.ln.past.cell hn3 nX
 have qx:∀y:movex.Un (SD w3 L m lk (.pointer (some ⟨T,0,none⟩)) (.int .u64 (key:Nat)) (.int .u64 (hs:Nat)) (.pointer (some ⟨B,lg*25,none⟩)) (.pointer (some ⟨B,rg*25,none⟩))),y.W.cell? ⟨w.heap.size,0,none⟩=some (.pointer L.p):=fun y=>y.h.ln.past.cell hx3 (nw _ (Nat.le_refl _))
 have q0:∀y:movex.Un (SD w3 L m lk (.pointer (some ⟨T,0,none⟩)) (.int .u64 (key:Nat)) (.int .u64 (hs:Nat)) (.pointer (some ⟨B,lg*25,none⟩)) (.pointer (some ⟨B,rg*25,none⟩))),y.W.cell? ⟨w.heap.size+1,0,none⟩=some (.int .u64 (key:Nat)):=fun y=>y.h.ln.past.cell hV3.c0 (nw _ (Nat.le_succ _))
 have q2:∀y:movex.Un (SD w3 L m lk (.pointer (some ⟨T,0,none⟩)) (.int .u64 (key:Nat)) (.int .u64 (hs:Nat)) (.pointer (some ⟨B,lg*25,none⟩)) (.pointer (some ⟨B,rg*25,none⟩))),y.W.cell? ⟨w.heap.size+1,2,none⟩=some (.int .u64 (hs:Nat)):=fun y=>y.h.ln.past.cell hV3.c2 (nw _ (Nat.le_succ _))
 haveI : Nonempty (movex.Un (SD w3 L m lk (.pointer (some ⟨T,0,none⟩)) (.int .u64 (key:Nat)) (.int .u64 (hs:Nat)) (.pointer (some ⟨B,lg*25,none⟩)) (.pointer (some ⟨B,rg*25,none⟩)))):=⟨⟨_,_,hsd⟩⟩
 have hsk:∀n W,LnStep [] L (L.see m (n*lk)) w3 W→Calls Tryz.prog 46 #[.pointer (some ⟨T,0,none⟩),.agg #[.pointer L.p],.int .u64 key,.int .u64 hs] W fun e w'=>e=.returned (spotV T B key hs lg rg)∧LnStep [] L (L.see (L.see m (n*lk)) lk) W w':=fun n W hst=>by
  have:=(hR3.look hst).seek key hs hk hh;rw [hlk,hlg,hrg] at this;exact this
 refine (wpIn_wide (n:=3)).1 ?_
 refine movex.region (D:=SD w3 L m lk (.pointer (some ⟨T,0,none⟩)) (.int .u64 (key:Nat)) (.int .u64 (hs:Nat)) (.pointer (some ⟨B,lg*25,none⟩)) (.pointer (some ⟨B,rg*25,none⟩))) (XM .nilIface (spotV T B key hs lg rg) 9 10 11) 11 12 [false,false,false,false,false,false,false,false,false,true,true,true] [(9,10)] (by kernel_rfl) (by kernel_rfl) (by kernel_rfl) (fun k s _=>XM.some _ _ _ _ _ k s) (fun i j hij=>by
  simp only [List.mem_cons,Prod.mk.injEq,List.not_mem_nil,or_false] at hij;obtain⟨rfl,rfl⟩:=hij
  exact XM.free _ _ _ _ _ _ (by decide) (by decide)) ⟨0,none,false⟩ (hw3 ▸ hsd) ?_
 simp only [List.take_succ_cons,List.take_zero,List.drop_succ_cons,List.drop_zero]
 iterate 9
  refine movex.pure_step (fun _ _ _=>trivial) (fun K hK=>?_);go_simp;refine hK _ ?_;clear hK K
 refine movex.move_step (fun _ _ _=>trivial) (by kernel_rfl) (fun sd wd hd=>?_) ?_
 ·go_simp
  refine callsIn_wide.2 ((hsk sd.n wd hd.ln).mono ?_);rintro e' w' ⟨rfl,hl'⟩;exact⟨_,rfl,⟨sd.n+1,sd.al,sd.st⟩,⟨fun _=>rfl,rfl⟩,hd.next hl3 hl'⟩
 rintro _ _ ⟨hv9,rfl⟩ K hK;obtain rfl:=hv9 rfl;clear hv9;refine hK _ ?_;clear hK K;refine movex.move_step (fun _ _ _=>trivial) (by kernel_rfl) (fun sd wd hd=>?_) ?_
 ·go_simp
  exact⟨_,⟨_,rfl,rfl⟩,hd.put⟩
 rintro _ _ ⟨xb,rfl,rfl⟩ K hK;refine hK _ ?_;clear hK K;refine movex.last_step (fun _ _ _=>trivial) (by kernel_rfl) (fun wd hd=>?_) ?_
 ·obtain⟨hb1,a0,a1,a2,a3,a4,hE1,-⟩:=hd.box xb rfl
  have e0:=hE1.c0;have e1:=hE1.c1;have e2:=hE1.c2;have e3:=hE1.c3;have e4:=hE1.c4;have e5:=hE1.fz;go_simp;exact⟨_,⟨rfl,rfl⟩,hd.set hl3 rfl⟩
 rintro _ _ ⟨rfl,rfl⟩ K hK;refine hK _ ?_;clear hK K;refine movex.nil_step ?_;intro w9 hw9;clear qn qx q0 q2 this hsd hsk c1;obtain⟨hxb,a0,a1,a2,a3,a4,hE9,hE9'⟩:=hw9.box xb rfl;obtain⟨rfl,rfl,rfl,rfl,rfl⟩:=hE9' rfl;have hl9:=hw9.ln;rw [Nat.zero_add,Nat.one_mul] at hl9;have hR9:=hR3.look hl9;have hV9:=hV3.past hl9.past (nw _ (Nat.le_succ _));have hz3:=hb3.size;have hT9:=(TL.of (m:=m) HH.out.at' HH.out.ln hb3).trans (TL.look hR3.at' hA hl9);clear hw9 hE9' hl9 hx3 hn3 nX;have hzb:w.heap.size≤xb:=by omega
 have HR9:=Lib.hid hR9;have x0:=hE9.c0;have x1:=hE9.c1;have x2:=hE9.c2;have x3:=hE9.c3;have x4:=hE9.c4;have y1:=hV9.c1;have hnb:xb≠w.heap.size+1:=fun e=>by have:=hV3.lt;omega
 clear hR3 hV3 hl3 hw3 hb2 hb3 hX0 hV k2 k4;gi_wp2;unfold pB at hpb;unfold pE at hpe;unfold pT at hpt;cases hit:isThere t key hs
 ·have e4:t.replace key hs v=t:=by unfold Tb.replace;rw [slot_neg hit,if_neg (by decide)]
  have e5:noneE t key hs=4:=by unfold noneE;rw [hit];rfl
  rw [e4, e5, show errAt ae 4 = errs.errV (ae "ambler/api.ErrNone") from rfl] at cR
  cases more
  ·simp only [hit,Bool.false_eq_true,if_false,Bool.or_false,Bool.false_and] at hpb hpe hpt
   rw [show errAt ae 2 = errs.errV (ae "ambler/api.ErrFull") from rfl] at hpe
   subst hpb hpe hpt;have hf:=fun W (h:Ready ae T B t L (L.see m lk) W)=>h.errs.full
   go_wp2_with (first
   | (go_at_call 47;refine (cR _ hR9).mono ?_;rintro e w10 ⟨rfl,hs10⟩;have hE10:=hE9.past hs10.past (by simp;omega);have hV10:=hV9.past hs10.past (by simp;omega);have hR10:=hR9.step hs10 hok;have hT10:=hT9.step hA hs10;have c0:=hE10.c0;have c1:=hE10.c1;have c2:=hE10.c2;have c3:=hE10.c3;have c4:=hE10.c4;have u0:=hV10.c0;have u1:=hV10.c1;have u2:=hV10.c2))
   have hf10:=hf _ hR10;clear hf
   go_quiet (fail)
   go_wp2
   go_ret2
   exact⟨rfl,by first|exact hT10.below (below_drewN' _ _)|(rw [hlk];exact hT10.below (below_drewN' _ _))⟩
  ·have e1:t.puts key hs v=t.place key hs v:=by unfold Tb.puts;rw [hit];rfl
   have e2:putB' t key hs=decide (roomE t key hs=0):=by unfold putB';rw [hit];rfl
   have e3:putE' t key hs=roomE t key hs:=by unfold putE';rw [hit];rfl
   simp only [hit,Bool.false_eq_true,if_false,Bool.or_true,Bool.true_and,if_true] at hpb hpe hpt;rw [e2] at hpb;rw [e3] at hpe;rw [e1] at hpt;have cP:=fun W h'=>HP.out W h' hit
   have h02:roomE t key hs=0∨roomE t key hs=2:=by
    unfold roomE;split
    ·exact .inr rfl
    ·split
     ·exact .inr rfl
     ·exact .inl rfl
   generalize t.place key hs v=t' at *
   generalize roomE t key hs=re at *
   rcases h02 with rfl|rfl
   ·rw [show errAt ae 0=.nilIface from rfl] at cP hpe
    subst hpb hpe hpt
    go_wp2_with (first
    | (go_at_call 47;refine (cR _ hR9).mono ?_;rintro e w10 ⟨rfl,hs10⟩;have hE10:=hE9.past hs10.past (by simp;omega);have hV10:=hV9.past hs10.past (by simp;omega);have hR10:=hR9.step hs10 hok;have hT10:=hT9.step hA hs10;have c0:=hE10.c0;have c1:=hE10.c1;have c2:=hE10.c2;have c3:=hE10.c3;have c4:=hE10.c4;have u0:=hV10.c0;have u1:=hV10.c1;have u2:=hV10.c2)
    | (go_at_call 48;refine (cP _ hR10).mono ?_;rintro e w11 ⟨rfl,hs11⟩))
    go_ret2
    exact⟨rfl,by first|exact hT10.step hA hs11|(rw [hlk];exact hT10.step hA hs11)⟩
   ·rw [show errAt ae 2 = errs.errV (ae "ambler/api.ErrFull") from rfl] at cP hpe
    subst hpb hpe hpt
    go_wp2_with (first
    | (go_at_call 47;refine (cR _ hR9).mono ?_;rintro e w10 ⟨rfl,hs10⟩;have hE10:=hE9.past hs10.past (by simp;omega);have hV10:=hV9.past hs10.past (by simp;omega);have hR10:=hR9.step hs10 hok;have hT10:=hT9.step hA hs10;have c0:=hE10.c0;have c1:=hE10.c1;have c2:=hE10.c2;have c3:=hE10.c3;have c4:=hE10.c4;have u0:=hV10.c0;have u1:=hV10.c1;have u2:=hV10.c2)
    | (go_at_call 48;refine (cP _ hR10).mono ?_;rintro e w11 ⟨rfl,hs11⟩))
    go_ret2
    exact⟨rfl,by first|exact hT10.step hA hs11|(rw [hlk];exact hT10.step hA hs11)⟩
 ·have e1:t.puts key hs v=t.replace key hs v:=by unfold Tb.puts;rw [hit];rfl
  have e5:noneE t key hs=0:=by unfold noneE;rw [hit];rfl
  simp only [hit,if_true,Bool.true_or] at hpb hpe hpt;rw [e1] at hpt;rw [e5] at cR;rw [show errAt ae 0=.nilIface from rfl] at cR hpe;generalize t.replace key hs v=t' at *
  subst hpb hpe hpt
  go_wp2_with (go_at_call 47;refine (cR _ hR9).mono ?_;rintro e w10 ⟨rfl,hs10⟩;have hT10:=hT9.step hA hs10)
  go_ret2
  exact⟨rfl,by first|exact hT10|(rw [hlk];exact hT10)⟩
end
end node
end Go.Proofs.YtdplhgpeggcmdaaGreatDoor
