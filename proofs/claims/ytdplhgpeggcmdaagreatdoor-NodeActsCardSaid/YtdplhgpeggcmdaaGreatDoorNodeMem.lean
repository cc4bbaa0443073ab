/- NodeMem: facts and laws for the walks. -/
import Derived.Test.YtdplhgpeggcmdaaGreatDoorNodeSm
namespace Go.Proofs.YtdplhgpeggcmdaaGreatDoor
set_option linter.unusedSimpArgs false
set_option linter.unusedVariables false
open Go.ChangeShapes Go.WideShapes Go.ChangeAt Go.RowKit Go.Shelf swar under trap meter group probe lens tail call table evac dual
namespace node
attribute [local go_sem] Oper.semAt_some stage.pureUpon move.stepUpon movex.stepUpon
def aT:Nat→Tb
 | 0=>Tb.new 1
 | k+1=>(aT k).puts k (k*1152921504606846976) 0
def aD(k:Nat):Nat→Tb:=kT (aT k) 2
theorem aT_put:∀k:Fin 4,putB' (aT k.val) k.val (k.val*1152921504606846976)=true∧putE' (aT k.val) k.val (k.val*1152921504606846976)=0∧isThere (aT k.val) k.val (k.val*1152921504606846976)=false∧(aT k.val).n=1:=by decide +kernel
theorem aT_4:(aT 4).len=4∧(aT 4).tombs=0∧(aT 4).n=1:=by decide +kernel
theorem aD_goods:goods 2 0 (aD 4) (lst (aD 4) 0)=true∧(tak (mvs 2 0 (aD 4) (lst (aD 4) 0)) 0 1).len=4:=by decide +kernel
theorem tf_n:(tak (mvs 2 0 (aD 4) (lst (aD 4) 0)) 0 1).n=2:=by
 unfold tak;rw [up_ne _ _ (by decide)];exact mvs_n 2 0 _ _ 1
structure AE(a:String→Addr)(w0:World)(X T B Bm k:Nat)(W:World):Prop where
 row:NRow X 0 0 T 0 none W
 re:Real a w0 (lay1 T B 1) (fun _=>aT k) W
 gm:GM Bm W
 nB:Bm≠X∧Bm≠T∧Bm≠B
 nX:X≠T∧X≠B
 h0:w0.heap.size≤Bm∧w0.heap.size≤X
section
variable {a:String→Addr} {w0:World} {X T B Bm k:Nat} {W W':World}
theorem AE.read(h:AE a w0 X T B Bm k W)(hb:Below W.heap.size W W'):AE a w0 X T B Bm k W':=⟨h.row.keep hb,h.re.read hb,h.gm.read hb,h.nB,h.nX,h.h0⟩
theorem AE.put(h:AE a w0 X T B Bm k W)(hk:k<4) :
  Calls Tryz.prog 11 #[.pointer (some ⟨X,0,none⟩),.agg #[.pointer (some ⟨Bm,0,none⟩)],group.entV k 0 (k*1152921504606846976),.bool true] W fun e w'=>e=.returned (.tuple #[.bool true,.nilIface])∧AE a w0 X T B Bm (k+1) w':=by
 obtain⟨m,hm,hok,hon⟩:=h.gm;obtain⟨r1,r2,r3,r4⟩:=aT_put ⟨k,hk⟩;simp only at r1 r2 r3 r4
 have hd:∀b∈(Ln.pr Bm 0).d,w0.heap.size≤b∧b∉(lay1 T B 1).tall:=fun b hb=>by
  obtain rfl:b=Bm:=by simpa [Ln.d] using hb
  refine⟨h.h0.1,fun e=>?_⟩
  rcases lay1_tall e with e|e
  ·exact h.nB.2.1 e
  ·exact h.nB.2.2 e
 have hR:=h.re.rdL (i:=0) (L:=.pr Bm 0) (m:=m) Nat.one_pos hm hd;have hXB:X∉(Ln.pr Bm 0).d:=fun e=>h.nB.1 (by simpa [Ln.d] using e:X=Bm).symm
 refine (nput_off h.row hR hXB k (k*1152921504606846976) 0 (by omega) (by omega) (by omega) true).mono fun e w' ⟨he,hs⟩=>?_
 have eB:pB (aT k) k (k*1152921504606846976) true=true:=by unfold pB;rw [r3,r1];rfl
 have eE:pE (aT k) k (k*1152921504606846976) true=0:=by unfold pE;rw [r3,r2];rfl
 have eT:pT (aT k) k (k*1152921504606846976) 0 true=aT (k+1):=by unfold pT;simp [aT]
 rw [eB,eE] at he;rw [eT] at hs;have hre:=h.re.tlL (i:=0) (L:=.pr Bm 0) Nat.one_pos hd hs (hR.ok.puts (by omega) (by omega) (by omega)) (puts_n ..);refine⟨he,h.row.past hs.ln.past fun e=>?_,re1 hre (by rw [up_same]),⟨_,hs.ln.at',see_pr_ok Bm 0 m hok hon _⟩,h.nB,h.nX,h.h0⟩;simp only [Ln.d,List.mem_append,List.mem_cons,List.not_mem_nil,or_false] at e
 rcases e with (e|e)|e
 ·exact h.nX.1 e
 ·exact h.nX.2 e
 ·exact h.nB.1 e.symm
structure AJ(a:String→Addr)(w0:World)(X T Bm:Nat)(Y:Lay)(D q:Nat)(t:Nat→Tb)(fd:List Nat)(W:World):Prop where
 row:NRow X 0 0 T 2 (some ⟨D,0,none⟩) W
 da:DAt a w0 Y D 2 0 (-1) q false t fd W
 gm:GM Bm W
 N:Y.N=2
 n0:Y.n 0=1
 T0:Y.T 0=T
 nB:Bm∉fd∧Bm≠X
 nX:X∉fd
 h0:w0.heap.size≤Bm∧w0.heap.size≤X
theorem AJ.read{Y:Lay}{D q:Nat}{t:Nat→Tb}{fd:List Nat}(h:AJ a w0 X T Bm Y D q t fd W)(hb:Below W.heap.size W W'):AJ a w0 X T Bm Y D q t fd W':=⟨h.row.keep hb,h.da.read hb,h.gm.read hb,h.N,h.n0,h.T0,h.nB,h.nX,h.h0⟩
theorem AE.start(h:AE a w0 X T B Bm 4 W)(hKR:choose.KR a w0)(hFr:choose.FreshOk w0) :
  Calls Tryz.prog 22 #[.pointer (some ⟨X,0,none⟩),.int .i64 2] W fun e w'=>e=.returned .nilIface∧∃Y D fd,AJ a w0 X T Bm Y D 0 (aD 4) fd w':=by
 have hT:TAt T B (aT 4) W:=h.re.at' 0 Nat.one_pos;have hbel:=h.re.bel;have e1:(aT 4).n=1:=aT_4.2.2;have hXl:=h.row.lt;have hBl:=h.gm.lt;refine (start_yes (R:=fun D w1=>∃(Y:Lay) (fd:List Nat),Y.N=2∧Y.T 0=T∧Y.n 0=1∧DAt a w0 Y D 2 0 (-1) 0 false (aD 4) fd w1∧(∀b∈fd,b=T∨b=B∨W.heap.size≤b)) h.row hT (hKR.below hbel) (hFr.below hbel) 2 (by rw [e1];decide) (by decide) (fun W1 hb1=>?_)).mono fun e w' ⟨he,D,w1,⟨Y,fd,y1,y2,y4,hD,hfd⟩,hb1,hw⟩=>⟨he,Y,D,fd, ?_⟩
 ·rw [e1,show choose.ge 2 ((1:Nat):Int)=((2:Nat):Int) by decide,if_neg (by decide)]
  refine (dual.new_yes a w0 W1 T B 1 2 0 1 (-1) (aD 4) (re1 (h.re.read hb1) rfl) (by decide) (by decide) (by decide) (by decide) (.inl ⟨by decide,rfl⟩) (fun j hj=>kT_far hj)).mono fun e w2 ⟨Y,D,fd,he,y1,y2,y3,y4,hD,hb2,hfd,_⟩=>⟨D,he,⟨Y,fd,y1,y2,y4,hD,fun b hb=>?_⟩,hb2⟩
  have:=hb1.size
  rcases hfd b hb with h|h|h
  ·exact .inl h
  ·exact .inr (.inl h)
  ·exact .inr (.inr (by omega))
 ·have hnX:X∉fd:=fun e=>by
   rcases hfd X e with q|q|q
   ·exact h.nX.1 q
   ·exact h.nX.2 q
   ·omega
  have hnB:Bm∉fd:=fun e=>by
   rcases hfd Bm e with q|q|q
   ·exact h.nB.2.1 q
   ·exact h.nB.2.2 q
   ·omega
  have hp:Past [X] w1 w':=by
   rw [hw];exact ((Past.refl [X] w1).store (.inl (by simp)) _).store (.inl (by simp)) _
  refine⟨by rw [hw];exact ((h.row.keep hb1).set3 2).set4 _,hD.aside hp fun b hb=>?_,(h.gm.read hb1).past hp (by simpa using h.nB.1),y1,y4,y2,⟨hnB,h.nB.1⟩,hnX,h.h0⟩;obtain rfl:b=X:=by simpa using hb
  exact⟨h.h0.2,hnX⟩
theorem AJ.step{Y:Lay}{D q:Nat}{fd:List Nat}(h:AJ a w0 X T Bm Y D q (aD 4) fd W)(hq:q<3) :
  Calls Tryz.prog 29 #[.pointer (some ⟨X,0,none⟩),.pointer (some ⟨Bm,0,none⟩)] W fun e w'=>e=.returned (.bool true)∧∃fd',AJ a w0 X T Bm Y D (q+1) (if q<2 then aD 4 else tak (mvs 2 0 (aD 4) (lst (aD 4) 0)) 0) fd' w':=by
 obtain⟨m,hm,hok,hon⟩:=h.gm;have hN:=h.N
 have eG:sG (rdy Y 2 q) Y.N 0 (q-(Y.N-1)*2) (aD 4)=true∧sT (rdy Y 2 q) Y.N 0 (q-(Y.N-1)*2) (aD 4)=(if q<2 then aD 4 else tak (mvs 2 0 (aD 4) (lst (aD 4) 0)) 0):=by
  rw [hN];unfold rdy;rw [hN]
  by_cases h2:q<2
  ·rw [show decide ((2-1)*2≤q)=false from decide_eq_false (by omega),if_pos h2,sG_no,sT_no]
   exact⟨rfl,rfl⟩
  ·obtain rfl:q=2:=by omega
   rw [if_neg h2,show decide ((2-1)*2≤2)=true from rfl,show 2-(2-1)*2=0 from rfl,sG_yes,sT_yes];exact⟨aD_goods.1,rfl⟩
 refine (step_on (R:=fun b w'=>b=true∧∃fd',AJ a w0 X T Bm Y D (q+1) (if q<2 then aD 4 else tak (mvs 2 0 (aD 4) (lst (aD 4) 0)) 0) fd' w') h.row ((h.da.step_on (by rw [hN,h.n0];omega) hm hok (unitE_no m hon) h.h0.1 h.nB.1).mono fun e w' r=>?_)).mono fun e w' ⟨b,he,hb,hr⟩=>⟨by rw [he,hb],hr⟩
 rcases r with⟨_,he,fd',hD,hm',hp',hf⟩|⟨hg,_⟩
 ·have hu:=unit_ok m hok hon
  have hv:=see_vi_ok ((m.unit 1).visits 1) (hu.1.visits 1) hu.2 (sK (rdy Y 2 q) Y.N 0 (q-(Y.N-1)*2) (aD 4));have hXl:=h.row.lt;have hBl:=hm.lt;rw [eG.2] at hD
  have nX:X∉Bm::fd:=fun e=>by
   rcases List.mem_cons.1 e with e|e
   ·exact h.nB.2 e.symm
   ·exact h.nX e
  exact⟨true,he,rfl,fd',h.row.past hp' nX,hD,⟨_,hm',hv⟩,hN,h.n0,h.T0,⟨fun e=>(hf _ e).elim h.nB.1 fun e=>by omega,h.nB.2⟩,fun e=>(hf _ e).elim h.nX fun e=>by omega,h.h0⟩
 ·rw [eG.1] at hg;cases hg
end
set_option maxRecDepth 100000 in
set_option maxHeartbeats 2000000 in
theorem alive_any(a:String→Addr)(w:World)(hw:Bq a w)(hKR:choose.KR a w)(hFr:choose.FreshOk w):Calls Tryz.prog 5 #[] w fun e w'=>e=.returned (.bool true)∧Below w.heap.size w w':=by
 have HW:=Lib.hid (And.intro hw (And.intro hKR hFr));have hns:=node_some;have hnn:=node_none;have c1:=nnew_yes 0 0 (by decide) (by decide) w;clear hw hKR hFr
 go_enter Tryz.func5,Tryz.ntmps5
 go_wp2_with (go_at_call 6;refine c1.mono ?_;rintro e w1 ⟨X,T,B,rfl,hrow,hT1,k1,k2,k3,k4,k5,hb1⟩)
 have hR0:Real a w (lay1 T B 1) (fun _=>aT 0) w1:=lay1_start HW.out.1 rfl (Tb.Ok.new (by decide)) hT1 hb1 k1 k2;have l1:=hT1.lt;have l2:=hT1.lb;have l3:=hrow.lt;have hbs:=hb1.size;have hb2:=new_block w1 (.cells #[.int .i64 0,.int .i64 0,.int .i64 0,.int .i64 0,.int .i64 0,.int .i64 0,.int .i64 0,.bool false] 38);have H0:=Lib.hid (show AE a w X T B w1.heap.size 0 _ from⟨hrow.keep hb2,hR0.read hb2,GM.new w1,⟨by omega,by omega,by omega⟩,⟨k4,k5⟩,⟨by omega,k3⟩⟩);clear hR0 hT1 hb1 k1 k2 k3 k4 k5 hb2 c1 l1 l2 l3 hrow hbs;generalize w1.alloc (.cells #[.int .i64 0,.int .i64 0,.int .i64 0,.int .i64 0,.int .i64 0,.int .i64 0,.int .i64 0,.bool false] 38)=W0 at H0 ⊢;generalize w1.heap.size=Bm at *
 refine wp_loop_rounds 5 ?_
 iterate 5
  rw [rounds_succ]
  try (go_wp2_with (first
   | (go_at_call 12;have hC0:=H0.out;refine (probing_any Bm 0 _).mono ?_;rintro e v0 ⟨rfl,hb0⟩;have P0:=Lib.hid (hC0.read hb0);clear hC0 H0 hb0)
   | (go_at_call 11;have cP0:=P0.out.put (by decide);refine (cP0.mono ?_);rintro e u0 ⟨rfl,hu0⟩;have H1:=Lib.hid hu0;clear hu0 P0 cP0)
   | (go_at_call 12;have hC1:=H1.out;refine (probing_any Bm 0 _).mono ?_;rintro e v1 ⟨rfl,hb1⟩;have P1:=Lib.hid (hC1.read hb1);clear hC1 H1 hb1)
   | (go_at_call 11;have cP1:=P1.out.put (by decide);refine (cP1.mono ?_);rintro e u1 ⟨rfl,hu1⟩;have H2:=Lib.hid hu1;clear hu1 P1 cP1)
   | (go_at_call 12;have hC2:=H2.out;refine (probing_any Bm 0 _).mono ?_;rintro e v2 ⟨rfl,hb2⟩;have P2:=Lib.hid (hC2.read hb2);clear hC2 H2 hb2)
   | (go_at_call 11;have cP2:=P2.out.put (by decide);refine (cP2.mono ?_);rintro e u2 ⟨rfl,hu2⟩;have H3:=Lib.hid hu2;clear hu2 P2 cP2)
   | (go_at_call 12;have hC3:=H3.out;refine (probing_any Bm 0 _).mono ?_;rintro e v3 ⟨rfl,hb3⟩;have P3:=Lib.hid (hC3.read hb3);clear hC3 H3 hb3)
   | (go_at_call 11;have cP3:=P3.out.put (by decide);refine (cP3.mono ?_);rintro e u3 ⟨rfl,hu3⟩;have H4:=Lib.hid hu3;clear hu3 P3 cP3)))
 have H4':=H4.out;have cW:=wants_off H4'.row (H4'.re.at' 0 Nat.one_pos) (H4'.re.ok 0 Nat.one_pos) 0;rw [aT_4.1,aT_4.2.1,aT_4.2.2,show choose.wh 4 0 ((1:Nat):Int) ((0:Nat):Int) 0=2 by decide,show choose.db 4 0 ((1:Nat):Int) ((0:Nat):Int) 0=false by decide] at cW;clear H4'
 go_wp2_with (first
  | (go_at_call 32;refine cW.mono ?_;clear cW;rintro e v5 ⟨rfl,hb5⟩;have cS:=(H4.out.read hb5).start HW.out.2.1 HW.out.2.2;clear hb5 H4)
  | (go_at_call 22;refine cS.mono ?_;clear cS;rintro e v6 ⟨rfl,Y,D,fd,hJ6⟩;have cT0:=hJ6.step (by decide);clear hJ6)
  | (go_at_call 29;refine cT0.mono ?_;clear cT0;rintro e v7 ⟨rfl,fd7,hJ7⟩;rw [if_pos (by decide)] at hJ7;have cT1:=hJ7.step (by decide);clear hJ7)
  | (go_at_call 29;refine cT1.mono ?_;clear cT1;rintro e v8 ⟨rfl,fd8,hJ8⟩;rw [if_pos (by decide)] at hJ8;have cT2:=hJ8.step (by decide);clear hJ8)
  | (go_at_call 29;refine cT2.mono ?_;clear cT2;rintro e v9 ⟨rfl,fd9,hJ9⟩;rw [if_neg (by decide)] at hJ9;have hq9:0+1+1+1=Y.n 0+(Y.N-1)*2:=(by simp [hJ9.N,hJ9.n0]);have cD9:=DAt.done_yes hJ9.da hq9 hJ9.row;have HJ9:=Lib.hid hJ9;clear hJ9)
  | (go_at_call 33;refine cD9.mono ?_;clear cD9;rintro e v10 ⟨rfl,hb10⟩;have hJ10:=HJ9.out.read hb10;have cE10:=end_one (hJ10.T0 ▸ hJ10.row) hJ10.da hq9 hJ10.N hJ10.nX hJ10.h0.2;have HJ10:=Lib.hid hJ10;clear hJ10 hb10 HJ9)
  | (go_at_call 24;refine cE10.mono ?_;clear cE10;rintro e v11 ⟨rfl,hr11,hre11,hp11⟩;have hT11:=hre11.at' 1 (by rw [HJ10.out.N];decide);have cG:=groups_off hr11 hT11;have cL:=len_off hr11 hT11;rw [tf_n] at cG;rw [aD_goods.2] at cL;have HB:=Lib.hid hre11.bel;clear hr11 hre11 hp11 hT11)
  | (go_at_call 34;refine cG.mono ?_;clear cG;rintro e v12 ⟨rfl,rfl⟩)
  | (go_at_call 35;refine cL.mono ?_;clear cL;rintro e v13 ⟨rfl,rfl⟩))
 go_ret
 exact⟨rfl,HB.out⟩
def msum(Dp:Nat→Nat):Nat→Nat
 | 0=>0
 | k+1=>msum Dp k+2^(5-Dp k)
def ptrsN(X:Nat→Nat)(n:Nat):List Value:=(List.range n).map fun i=>.pointer (some ⟨X i,0,none⟩)
end node
namespace node
section
variable {a:String→Addr} {w0:World} {H:Nat→Nat} {la g X p d:Nat} {F:Nat→Option Nat} {e x:Nat} {o:Bool} {fp:List Nat} {W W':World}
end
structure NS(a:String→Addr)(w0:World)(H:Nat→Nat)(la g Ba Bm Bt Bv i e x:Nat)(o:Bool)(cnt ln:Nat)(X P Dp:Nat→Nat)(Fs:Nat→Nat→Option Nat)(fps:Nat→List Nat)(vA:Value)(K G:Nat→Option Nat)(V:Nat→Nat)(W:World):Prop where
 hi:i<cnt
 oth:∀j,j<cnt→j≠i→NF a w0 H la g (X j) (P j) (Dp j) (Fs j) 1 8 true (fps j) W
 act:NF a w0 H la g (X i) (P i) (Dp i) (Fs i) e x o (fps i) W
 sep:∀j k,j<cnt→k<cnt→j≠k→∀b∈fps j,b∉fps k
 one:∀h,h<18446744073709551616→∃j,j<cnt∧wi h (P j) (Dp j)∧∀k,k<cnt→wi h (P k) (Dp k)→k=j
 ms:msum Dp cnt=32
 gm:GM Bm W
 rows:table.Rows Bt Bv la G V W
 box:W.heap[Ba]?=some (.cells #[vA] 79 (0,0))
 own:W.ownsRow w0.heap.size 25 1 vA ln (ptrsN X ln)
 l1:1≤ln∧ln≤cnt
 far:∀b∈Ba::Bm::Bt::Bv::vA.ownBlock.toList,w0.heap.size≤b∧b<W.heap.size∧∀j,j<cnt→b∉fps j
 nd:(Ba::Bm::Bt::Bv::vA.ownBlock.toList).Nodup
 agr:∀key,key<la→∀j,j<cnt→wi (H key) (P j) (Dp j)→Fs j key=K key
 vals:Vals G V
section
variable {a:String→Addr} {w0:World} {H:Nat→Nat} {la g Ba Bm Bt Bv i e x:Nat} {o:Bool} {cnt ln:Nat} {X P Dp:Nat→Nat} {Fs:Nat→Nat→Option Nat} {fps:Nat→List Nat} {vA:Value} {K G:Nat→Option Nat} {V:Nat→Nat} {W W':World}
end
end node
end Go.Proofs.YtdplhgpeggcmdaaGreatDoor
