/- NodeMem: several texts in one: plain facts and laws for the walks. No program is named. -/
import Derived.Test.YtdplhgpeggcmdaaGreatDoorNodeSm
import Derived.Handy
import Derived.LoopTactic
import Derived.BigQuiet
import Derived.Laws.OwnMore
import Derived.Deep.AppendLies

/-! ### node: the chapter's example. -/
namespace Go.Proofs.YtdplhgpeggcmdaaGreatDoor.node
open Go.ChangeShapes Go.WideShapes Go.ChangeAt Go.RowKit Go.Shelf swar under trap meter group probe lens tail call table evac dual
attribute [local go_sem] Oper.semAt_some stage.pureUpon move.stepUpon movex.stepUpon
set_option linter.unusedSimpArgs false
set_option linter.unusedVariables false

/-- the example's table -/
def aT:Nat → Tb
 | 0 => Tb.new 1
 | k + 1 => (aT k).puts k (k * 1152921504606846976) 0
def aD (k:Nat):Nat → Tb:=kT (aT k) 2
theorem aT_put:∀ k:Fin 4,putB' (aT k.val) k.val (k.val * 1152921504606846976) = true ∧ putE' (aT k.val) k.val (k.val * 1152921504606846976) = 0 ∧ isThere (aT k.val) k.val (k.val * 1152921504606846976) = false ∧ (aT k.val).n = 1:=by decide +kernel
theorem aT_4:(aT 4).len = 4 ∧ (aT 4).tombs = 0 ∧ (aT 4).n = 1:=by decide +kernel
theorem aD_goods:goods 2 0 (aD 4) (lst (aD 4) 0) = true ∧ (tak (mvs 2 0 (aD 4) (lst (aD 4) 0)) 0 1).len = 4:=by decide +kernel
theorem tf_n:(tak (mvs 2 0 (aD 4) (lst (aD 4) 0)) 0 1).n = 2:=by
 unfold tak
 rw [up_ne _ _ (by decide)]
 exact mvs_n 2 0 _ _ 1
structure AE (a:String → Addr) (w0:World) (X T B Bm k:Nat) (W:World):Prop where
 row:NRow X 0 0 T 0 none W
 re:Real a w0 (lay1 T B 1) (fun _ => aT k) W
 gm:GM Bm W
 nB:Bm ≠ X ∧ Bm ≠ T ∧ Bm ≠ B
 nX:X ≠ T ∧ X ≠ B
 h0:w0.heap.size ≤ Bm ∧ w0.heap.size ≤ X
section
variable {a:String → Addr} {w0:World} {X T B Bm k:Nat} {W W':World}
theorem AE.read (h:AE a w0 X T B Bm k W) (hb:Below W.heap.size W W'):AE a w0 X T B Bm k W':=⟨h.row.keep hb,h.re.read hb,h.gm.read hb,h.nB,h.nX,h.h0⟩
theorem AE.put (h:AE a w0 X T B Bm k W) (hk:k < 4) :
  Calls Tryz.prog 11 #[.pointer (some ⟨X,0,none⟩),.agg #[.pointer (some ⟨Bm,0,none⟩)],group.entV k 0 (k * 1152921504606846976),.bool true] W fun e w' => e = .returned (.tuple #[.bool true,.nilIface]) ∧ AE a w0 X T B Bm (k + 1) w':=by
 obtain ⟨m,hm,hok,hon⟩:=h.gm
 obtain ⟨r1,r2,r3,r4⟩:=aT_put ⟨k,hk⟩
 simp only at r1 r2 r3 r4
 have hd:∀ b ∈ (Ln.pr Bm 0).d,w0.heap.size ≤ b ∧ b ∉ (lay1 T B 1).tall:=fun b hb => by
  obtain rfl:b = Bm:=by simpa [Ln.d] using hb
  refine ⟨h.h0.1,fun e => ?_⟩
  rcases lay1_tall e with e | e
  ·exact h.nB.2.1 e
  ·exact h.nB.2.2 e
 have hR:=h.re.rdL (i:=0) (L:=.pr Bm 0) (m:=m) Nat.one_pos hm hd
 have hXB:X ∉ (Ln.pr Bm 0).d:=fun e => h.nB.1 (by simpa [Ln.d] using e:X = Bm).symm
 refine (nput_off h.row hR hXB k (k * 1152921504606846976) 0 (by omega) (by omega) (by omega) true).mono fun e w' ⟨he,hs⟩ => ?_
 have eB:pB (aT k) k (k * 1152921504606846976) true = true:=by unfold pB; rw [r3,r1]; rfl
 have eE:pE (aT k) k (k * 1152921504606846976) true = 0:=by unfold pE; rw [r3,r2]; rfl
 have eT:pT (aT k) k (k * 1152921504606846976) 0 true = aT (k + 1):=by unfold pT; simp [aT]
 rw [eB,eE] at he
 rw [eT] at hs
 have hre:=h.re.tlL (i:=0) (L:=.pr Bm 0) Nat.one_pos hd hs (hR.ok.puts (by omega) (by omega) (by omega)) (puts_n ..)
 refine ⟨he,h.row.past hs.ln.past fun e => ?_,re1 hre (by rw [up_same]),⟨_,hs.ln.at',see_pr_ok Bm 0 m hok hon _⟩,h.nB,h.nX,h.h0⟩
 simp only [Ln.d,List.mem_append,List.mem_cons,List.not_mem_nil,or_false] at e
 rcases e with (e | e) | e
 ·exact h.nX.1 e
 ·exact h.nX.2 e
 ·exact h.nB.1 e.symm
/-- with its job: q steps are done -/
structure AJ (a:String → Addr) (w0:World) (X T Bm:Nat) (Y:Lay) (D q:Nat) (t:Nat → Tb) (fd:List Nat) (W:World):Prop where
 row:NRow X 0 0 T 2 (some ⟨D,0,none⟩) W
 da:DAt a w0 Y D 2 0 (-1) q false t fd W
 gm:GM Bm W
 N:Y.N = 2
 n0:Y.n 0 = 1
 T0:Y.T 0 = T
 nB:Bm ∉ fd ∧ Bm ≠ X
 nX:X ∉ fd
 h0:w0.heap.size ≤ Bm ∧ w0.heap.size ≤ X
theorem AJ.read {Y:Lay} {D q:Nat} {t:Nat → Tb} {fd:List Nat} (h:AJ a w0 X T Bm Y D q t fd W) (hb:Below W.heap.size W W'):AJ a w0 X T Bm Y D q t fd W':=⟨h.row.keep hb,h.da.read hb,h.gm.read hb,h.N,h.n0,h.T0,h.nB,h.nX,h.h0⟩
theorem AE.start (h:AE a w0 X T B Bm 4 W) (hKR:choose.KR a w0) (hFr:choose.FreshOk w0) :
  Calls Tryz.prog 22 #[.pointer (some ⟨X,0,none⟩),.int .i64 2] W fun e w' => e = .returned .nilIface ∧ ∃ Y D fd,AJ a w0 X T Bm Y D 0 (aD 4) fd w':=by
 have hT:TAt T B (aT 4) W:=h.re.at' 0 Nat.one_pos
 have hbel:=h.re.bel
 have e1:(aT 4).n = 1:=aT_4.2.2
 have hXl:=h.row.lt
 have hBl:=h.gm.lt
 refine (start_yes (R:=fun D w1 => ∃ (Y:Lay) (fd:List Nat),Y.N = 2 ∧ Y.T 0 = T ∧ Y.n 0 = 1 ∧ DAt a w0 Y D 2 0 (-1) 0 false (aD 4) fd w1 ∧ (∀ b ∈ fd,b = T ∨ b = B ∨ W.heap.size ≤ b)) h.row hT (hKR.below hbel) (hFr.below hbel) 2 (by rw [e1]; decide) (by decide) (fun W1 hb1 => ?_)).mono fun e w' ⟨he,D,w1,⟨Y,fd,y1,y2,y4,hD,hfd⟩,hb1,hw⟩ => ⟨he,Y,D,fd, ?_⟩
 ·rw [e1,show choose.ge 2 ((1:Nat):Int) = ((2:Nat):Int) by decide,if_neg (by decide)]
  refine (dual.new_yes a w0 W1 T B 1 2 0 1 (-1) (aD 4) (re1 (h.re.read hb1) rfl) (by decide) (by decide) (by decide) (by decide) (.inl ⟨by decide,rfl⟩) (fun j hj => kT_far hj)).mono fun e w2 ⟨Y,D,fd,he,y1,y2,y3,y4,hD,hb2,hfd,_⟩ => ⟨D,he,⟨Y,fd,y1,y2,y4,hD,fun b hb => ?_⟩,hb2⟩
  have:=hb1.size
  rcases hfd b hb with h | h | h
  ·exact .inl h
  ·exact .inr (.inl h)
  ·exact .inr (.inr (by omega))
 ·have hnX:X ∉ fd:=fun e => by
   rcases hfd X e with q | q | q
   ·exact h.nX.1 q
   ·exact h.nX.2 q
   ·omega
  have hnB:Bm ∉ fd:=fun e => by
   rcases hfd Bm e with q | q | q
   ·exact h.nB.2.1 q
   ·exact h.nB.2.2 q
   ·omega
  have hp:Past [X] w1 w':=by
   rw [hw]
   exact ((Past.refl [X] w1).store (.inl (by simp)) _).store (.inl (by simp)) _
  refine ⟨by rw [hw]; exact ((h.row.keep hb1).set3 2).set4 _,hD.aside hp fun b hb => ?_,(h.gm.read hb1).past hp (by simpa using h.nB.1),y1,y4,y2,⟨hnB,h.nB.1⟩,hnX,h.h0⟩
  obtain rfl:b = X:=by simpa using hb
  exact ⟨h.h0.2,hnX⟩
theorem AJ.step {Y:Lay} {D q:Nat} {fd:List Nat} (h:AJ a w0 X T Bm Y D q (aD 4) fd W) (hq:q < 3) :
  Calls Tryz.prog 29 #[.pointer (some ⟨X,0,none⟩),.pointer (some ⟨Bm,0,none⟩)] W fun e w' => e = .returned (.bool true) ∧ ∃ fd',AJ a w0 X T Bm Y D (q + 1) (if q < 2 then aD 4 else tak (mvs 2 0 (aD 4) (lst (aD 4) 0)) 0) fd' w':=by
 obtain ⟨m,hm,hok,hon⟩:=h.gm
 have hN:=h.N
 have eG:sG (rdy Y 2 q) Y.N 0 (q - (Y.N - 1) * 2) (aD 4) = true ∧ sT (rdy Y 2 q) Y.N 0 (q - (Y.N - 1) * 2) (aD 4) = (if q < 2 then aD 4 else tak (mvs 2 0 (aD 4) (lst (aD 4) 0)) 0):=by
  rw [hN]
  unfold rdy
  rw [hN]
  by_cases h2:q < 2
  ·rw [show decide ((2 - 1) * 2 ≤ q) = false from decide_eq_false (by omega),if_pos h2,sG_no,sT_no]
   exact ⟨rfl,rfl⟩
  ·obtain rfl:q = 2:=by omega
   rw [if_neg h2,show decide ((2 - 1) * 2 ≤ 2) = true from rfl,show 2 - (2 - 1) * 2 = 0 from rfl,sG_yes,sT_yes]
   exact ⟨aD_goods.1,rfl⟩
 refine (step_on (R:=fun b w' => b = true ∧ ∃ fd',AJ a w0 X T Bm Y D (q + 1) (if q < 2 then aD 4 else tak (mvs 2 0 (aD 4) (lst (aD 4) 0)) 0) fd' w') h.row ((h.da.step_on (by rw [hN,h.n0]; omega) hm hok (unitE_no m hon) h.h0.1 h.nB.1).mono fun e w' r => ?_)).mono fun e w' ⟨b,he,hb,hr⟩ => ⟨by rw [he,hb],hr⟩
 rcases r with ⟨_,he,fd',hD,hm',hp',hf⟩ | ⟨hg,_⟩
 ·have hu:=unit_ok m hok hon
  have hv:=see_vi_ok ((m.unit 1).visits 1) (hu.1.visits 1) hu.2 (sK (rdy Y 2 q) Y.N 0 (q - (Y.N - 1) * 2) (aD 4))
  have hXl:=h.row.lt
  have hBl:=hm.lt
  rw [eG.2] at hD
  have nX:X ∉ Bm :: fd:=fun e => by
   rcases List.mem_cons.1 e with e | e
   ·exact h.nB.2 e.symm
   ·exact h.nX e
  exact ⟨true,he,rfl,fd',h.row.past hp' nX,hD,⟨_,hm',hv⟩,hN,h.n0,h.T0,⟨fun e => (hf _ e).elim h.nB.1 fun e => by omega,h.nB.2⟩,fun e => (hf _ e).elim h.nX fun e => by omega,h.h0⟩
 ·rw [eG.1] at hg; cases hg
end
set_option maxRecDepth 100000 in
set_option maxHeartbeats 2000000 in
theorem alive_any (a:String → Addr) (w:World) (hw:Bq a w) (hKR:choose.KR a w) (hFr:choose.FreshOk w):Calls Tryz.prog 5 #[] w fun e w' => e = .returned (.bool true) ∧ Below w.heap.size w w':=by
 have HW:=Lib.hid (And.intro hw (And.intro hKR hFr))
 have hns:=node_some
 have hnn:=node_none
 have c1:=nnew_yes 0 0 (by decide) (by decide) w
 clear hw hKR hFr
 go_enter Tryz.func5,Tryz.ntmps5
 go_wp2_with (go_at_call 6; refine c1.mono ?_; rintro e w1 ⟨X,T,B,rfl,hrow,hT1,k1,k2,k3,k4,k5,hb1⟩)
 have hR0:Real a w (lay1 T B 1) (fun _ => aT 0) w1:=lay1_start HW.out.1 rfl (Tb.Ok.new (by decide)) hT1 hb1 k1 k2
 have l1:=hT1.lt
 have l2:=hT1.lb
 have l3:=hrow.lt
 have hbs:=hb1.size
 have hb2:=new_block w1 (.cells #[.int .i64 0,.int .i64 0,.int .i64 0,.int .i64 0,.int .i64 0,.int .i64 0,.int .i64 0,.bool false] 38)
 have H0:=Lib.hid (show AE a w X T B w1.heap.size 0 _ from ⟨hrow.keep hb2,hR0.read hb2,GM.new w1,⟨by omega,by omega,by omega⟩,⟨k4,k5⟩,⟨by omega,k3⟩⟩)
 clear hR0 hT1 hb1 k1 k2 k3 k4 k5 hb2 c1 l1 l2 l3 hrow hbs
 generalize w1.alloc (.cells #[.int .i64 0,.int .i64 0,.int .i64 0,.int .i64 0,.int .i64 0,.int .i64 0,.int .i64 0,.bool false] 38) = W0 at H0 ⊢
 generalize w1.heap.size = Bm at *
 refine wp_loop_rounds 5 ?_
 iterate 5
  rw [rounds_succ]
  try (go_wp2_with (first
   | (go_at_call 12; have hC0:=H0.out; refine (probing_any Bm 0 _).mono ?_; rintro e v0 ⟨rfl,hb0⟩; have P0:=Lib.hid (hC0.read hb0); clear hC0 H0 hb0)
   | (go_at_call 11; have cP0:=P0.out.put (by decide); refine (cP0.mono ?_); rintro e u0 ⟨rfl,hu0⟩; have H1:=Lib.hid hu0; clear hu0 P0 cP0)
   | (go_at_call 12; have hC1:=H1.out; refine (probing_any Bm 0 _).mono ?_; rintro e v1 ⟨rfl,hb1⟩; have P1:=Lib.hid (hC1.read hb1); clear hC1 H1 hb1)
   | (go_at_call 11; have cP1:=P1.out.put (by decide); refine (cP1.mono ?_); rintro e u1 ⟨rfl,hu1⟩; have H2:=Lib.hid hu1; clear hu1 P1 cP1)
   | (go_at_call 12; have hC2:=H2.out; refine (probing_any Bm 0 _).mono ?_; rintro e v2 ⟨rfl,hb2⟩; have P2:=Lib.hid (hC2.read hb2); clear hC2 H2 hb2)
   | (go_at_call 11; have cP2:=P2.out.put (by decide); refine (cP2.mono ?_); rintro e u2 ⟨rfl,hu2⟩; have H3:=Lib.hid hu2; clear hu2 P2 cP2)
   | (go_at_call 12; have hC3:=H3.out; refine (probing_any Bm 0 _).mono ?_; rintro e v3 ⟨rfl,hb3⟩; have P3:=Lib.hid (hC3.read hb3); clear hC3 H3 hb3)
   | (go_at_call 11; have cP3:=P3.out.put (by decide); refine (cP3.mono ?_); rintro e u3 ⟨rfl,hu3⟩; have H4:=Lib.hid hu3; clear hu3 P3 cP3)))
 have H4':=H4.out
 have cW:=wants_off H4'.row (H4'.re.at' 0 Nat.one_pos) (H4'.re.ok 0 Nat.one_pos) 0
 rw [aT_4.1,aT_4.2.1,aT_4.2.2,show choose.wh 4 0 ((1:Nat):Int) ((0:Nat):Int) 0 = 2 by decide,show choose.db 4 0 ((1:Nat):Int) ((0:Nat):Int) 0 = false by decide] at cW
 clear H4'
 go_wp2_with (first
  | (go_at_call 32; refine cW.mono ?_; clear cW; rintro e v5 ⟨rfl,hb5⟩; have cS:=(H4.out.read hb5).start HW.out.2.1 HW.out.2.2; clear hb5 H4)
  | (go_at_call 22; refine cS.mono ?_; clear cS; rintro e v6 ⟨rfl,Y,D,fd,hJ6⟩; have cT0:=hJ6.step (by decide); clear hJ6)
  | (go_at_call 29; refine cT0.mono ?_; clear cT0; rintro e v7 ⟨rfl,fd7,hJ7⟩; rw [if_pos (by decide)] at hJ7; have cT1:=hJ7.step (by decide); clear hJ7)
  | (go_at_call 29; refine cT1.mono ?_; clear cT1; rintro e v8 ⟨rfl,fd8,hJ8⟩; rw [if_pos (by decide)] at hJ8; have cT2:=hJ8.step (by decide); clear hJ8)
  | (go_at_call 29; refine cT2.mono ?_; clear cT2; rintro e v9 ⟨rfl,fd9,hJ9⟩; rw [if_neg (by decide)] at hJ9; have hq9:0 + 1 + 1 + 1 = Y.n 0 + (Y.N - 1) * 2:=(by simp [hJ9.N,hJ9.n0]); have cD9:=DAt.done_yes hJ9.da hq9 hJ9.row; have HJ9:=Lib.hid hJ9; clear hJ9)
  | (go_at_call 33; refine cD9.mono ?_; clear cD9; rintro e v10 ⟨rfl,hb10⟩; have hJ10:=HJ9.out.read hb10; have cE10:=end_one (hJ10.T0 ▸ hJ10.row) hJ10.da hq9 hJ10.N hJ10.nX hJ10.h0.2; have HJ10:=Lib.hid hJ10; clear hJ10 hb10 HJ9)
  | (go_at_call 24; refine cE10.mono ?_; clear cE10; rintro e v11 ⟨rfl,hr11,hre11,hp11⟩; have hT11:=hre11.at' 1 (by rw [HJ10.out.N]; decide); have cG:=groups_off hr11 hT11; have cL:=len_off hr11 hT11; rw [tf_n] at cG; rw [aD_goods.2] at cL; have HB:=Lib.hid hre11.bel; clear hr11 hre11 hp11 hT11)
  | (go_at_call 34; refine cG.mono ?_; clear cG; rintro e v12 ⟨rfl,rfl⟩)
  | (go_at_call 35; refine cL.mono ?_; clear cL; rintro e v13 ⟨rfl,rfl⟩))
 go_ret
 exact ⟨rfl,HB.out⟩
end Go.Proofs.YtdplhgpeggcmdaaGreatDoor.node

/-! ### NodeFunction: all nodes, each of its part of the hashes; the rows of what is there; which node a hash is of. -/
namespace Go.Proofs.YtdplhgpeggcmdaaGreatDoor.node
open Go.ChangeShapes Go.WideShapes Go.ChangeAt Go.RowKit Go.Shelf swar under trap meter group probe lens tail call table evac dual
attribute [local go_sem] Oper.semAt_some stage.pureUpon move.stepUpon movex.stepUpon
set_option linter.unusedSimpArgs false
set_option linter.unusedVariables false

/-! ### how many nodes there may be -/
def msum (Dp:Nat → Nat):Nat → Nat
 | 0 => 0
 | k + 1 => msum Dp k + 2 ^ (5 - Dp k)
theorem msum_ge (Dp:Nat → Nat):∀ k,k ≤ msum Dp k
 | 0 => Nat.le_refl _
 | k + 1 => by
  have:=msum_ge Dp k
  have : 0 < 2 ^ (5 - Dp k):=Nat.pow_pos (by decide)
  show k + 1 ≤ msum Dp k + _
  omega
theorem msum_far (Dp:Nat → Nat) (i x:Nat):∀ k,k ≤ i → msum (up Dp i x) k = msum Dp k
 | 0,_ => rfl
 | k + 1,h => by
  show msum (up Dp i x) k + _ = msum Dp k + _
  rw [msum_far Dp i x k (by omega),up_ne _ _ (by omega)]
theorem msum_up (Dp:Nat → Nat) (i x:Nat):∀ k,i < k → msum (up Dp i x) k + 2 ^ (5 - Dp i) = msum Dp k + 2 ^ (5 - x)
 | 0,h => absurd h (Nat.not_lt_zero _)
 | k + 1,h => by
  show msum (up Dp i x) k + 2 ^ (5 - up Dp i x k) + _ = msum Dp k + 2 ^ (5 - Dp k) + _
  by_cases e:i = k
  ·subst e
   rw [msum_far Dp i x i (Nat.le_refl _),up_same]; omega
  ·have:=msum_up Dp i x k (by omega)
   rw [up_ne _ _ (by omega)]; omega
/-! ### which node a hash is of -/
def ptrsN (X:Nat → Nat) (n:Nat):List Value:=(List.range n).map fun i => .pointer (some ⟨X i,0,none⟩)
theorem ptrsN_at (X:Nat → Nat) {n i:Nat} (hi:i < n):(ptrsN X n)[i]? = some (.pointer (some ⟨X i,0,none⟩)):=by
 unfold ptrsN
 rw [List.getElem?_map,List.getElem?_range hi]; rfl
theorem fnOf (cap:Array Value) (w:World):(callFunc 31 cap).run Tryz.prog w = .ok (.enter 31 cap) w:=by kernel_rfl
set_option maxRecDepth 20000 in
theorem of_any (h:Nat) (hh:h < 18446744073709551616) (Ba A c n:Nat) (X P Dp:Nat → Nat) (hn:n ≤ 64) (w:World) (hB:w.cell? ⟨Ba,0,none⟩ = some (.slice (some ⟨A,0,none⟩) n c)) (hA:∀ i,i < n → w.cell? ⟨A,i,none⟩ = some (.pointer (some ⟨X i,0,none⟩))) (hR:∀ i,i < n → (∃ T k pd,NRow (X i) (P i) (Dp i) T k pd w) ∧ P i < 2 ^ Dp i ∧ Dp i ≤ 5) :
  Calls Tryz.prog 31 #[.int .u64 (h:Nat),.pointer (some ⟨Ba,0,none⟩)] w fun e w' => (∃ i,i < n ∧ e = .returned (.pointer (some ⟨X i,0,none⟩)) ∧ wi h (P i) (Dp i) ∨ e = .returned (.pointer none) ∧ ∀ i,i < n → ¬ wi h (P i) (Dp i)) ∧ Below w.heap.size w w':=by
 have HA:=Lib.hid hA
 have HR:=Lib.hid hR
 clear hA hR
 go_enter Tryz.func31,Tryz.ntmps31
 go_wp2
 go_loopw [10] (fun i wr => ∃ j:Nat,j ≤ n ∧ i = .int .i64 j ∧ Below w.heap.size w wr ∧ Hid (∀ i,i < j → ¬ wi h (P i) (Dp i))) (fun i _ => n - (intOf i).toNat)
 case atStart => exact ⟨0,by omega,rfl,Below.refl _ _,Lib.hid fun i hi => absurd hi (Nat.not_lt_zero _)⟩
 case round =>
  obtain ⟨j,hj,rfl,hb,HJ⟩:=hrel
  rcases Nat.lt_or_ge j n with hjl | hjl
  ·have hji:(j:Int) < (n:Int):=by omega
   have hc:=keepc hb (HA.out j hjl)
   have hadd:(⟨A,0,none⟩:Addr).add j = ⟨A,j,none⟩:=by rw [add_at,Nat.zero_add]
   obtain ⟨⟨T,k,pd,hr⟩,hp,hd⟩:=HR.out j hjl
   have cP:=pref_any (hr.keep hb)
   have cW:=fun W => split.within_yes h (P j) (Dp j) hh (by omega) hp W
   clear hr
   by_cases hw:wi h (P j) (Dp j)
   ·have hw':h / 2 ^ (64 - Dp j) = P j:=hw
    simp only [hw',decide_true] at cW
    have hX:=Lib.hid (show ∃ i,i < n ∧ Ending.returned (.pointer (some ⟨X j,0,none⟩)) = .returned (.pointer (some ⟨X i,0,none⟩)) ∧ wi h (P i) (Dp i) from ⟨j,hjl,rfl,hw⟩)
    clear hw hw'
    generalize P j = pj at *
    generalize Dp j = dj at *
    go_wp2_with (first
     | (go_at_call 9; refine cP.mono ?_; clear cP; rintro e w1 ⟨rfl,hb1⟩)
     | (go_at_call 10; refine (cW _).mono ?_; rintro e w2 ⟨rfl,rfl⟩))
    go_ret
    obtain ⟨i,h1,h2,h3⟩:=hX.out
    exact ⟨⟨i,.inl ⟨h1,h2,h3⟩⟩,under.below_step hb hb1⟩
   ·have hw':¬ h / 2 ^ (64 - Dp j) = P j:=hw
    simp only [hw',decide_false] at cW
    have HW:=Lib.hid hw
    clear hw hw'
    obtain ⟨pj,hpj⟩:∃ pj,P j = pj:=⟨_,rfl⟩
    obtain ⟨dj,hdj⟩:∃ dj,Dp j = dj:=⟨_,rfl⟩
    rw [hpj,hdj] at cP cW
    clear hp hd hpj hdj
    go_wp2_with (first
     | (go_at_call 9; refine cP.mono ?_; clear cP; rintro e w1 ⟨rfl,hb1⟩)
     | (go_at_call 10; refine (cW _).mono ?_; rintro e w2 ⟨rfl,rfl⟩))
    go_roundw
    case rel => exact ⟨j + 1,by omega,by simp,under.below_step hb hb1,Lib.hid fun i hi => (by
     by_cases e:i = j
     ·subst e; exact HW.out
     ·exact HJ.out i (by omega))⟩
    case measure => simp [intOf]; omega
  ·obtain rfl:j = n:=by omega
   go_wp2
   go_ret
   exact ⟨⟨0,.inr ⟨rfl,HJ.out⟩⟩,hb⟩
end Go.Proofs.YtdplhgpeggcmdaaGreatDoor.node

/-! ### NodeFunction: what lies in memory between the acts. -/
namespace Go.Proofs.YtdplhgpeggcmdaaGreatDoor.node
open Go.ChangeShapes Go.WideShapes Go.ChangeAt Go.RowKit Go.Shelf swar under trap meter group probe lens tail call table evac dual
set_option linter.unusedSimpArgs false
set_option linter.unusedVariables false

theorem real_beside {a:String → Addr} {w0 W W':World} {Y:Lay} {t:Nat → Tb} {d:List Nat} (h:Real a w0 Y t W) (hp:Past d W W') (hd:∀ b ∈ d,b ∉ Y.tall) (hb:Below w0.heap.size w0 W'):Real a w0 Y t W':=
 ⟨fun i hi => (h.at' i hi).past hp (fun e => hd _ e (Lay.tin hi (by simp))) (fun e => hd _ e (Lay.tin hi (by simp))),h.ok,h.tn,h.sep,h.new,hb,h.base⟩
section
variable {a:String → Addr} {w0:World} {H:Nat → Nat} {la g X p d:Nat} {F:Nat → Option Nat} {e x:Nat} {o:Bool} {fp:List Nat} {W W':World}
theorem NF.beside {l:List Nat} (h:NF a w0 H la g X p d F e x o fp W) (hp:Past l W W') (hl:∀ b ∈ l,b ∉ fp) (hb:Below w0.heap.size w0 W'):NF a w0 H la g X p d F e x o fp W':=by
 refine ⟨h.hla,h.hH,h.hX,h.hp,h.hdg,h.hwi, ?_⟩
 rcases h.st with ⟨T,B,n,t,i⟩ | ⟨kd,Y,D,n1,dd,dp,q,c,t,fd,i⟩
 ·refine .inl ⟨T,B,n,t,i.row.past hp fun e => hl _ e (by rw [i.fp]; simp),real_beside i.re hp (fun b hb e => hl b hb ?_) hb,i.rep,i.id,i.fp,i.nX⟩
  rw [i.fp]
  rcases lay1_tall e with rfl | rfl <;> simp
 ·have hfd:∀ b ∈ l,b ∉ fd:=fun b hb e => hl b hb (by rw [i.fp]; exact List.mem_cons_of_mem _ e)
  have hda:DAt a w0 Y D n1 dd dp q false t fd W':=i.dm.da.past hp (fun b hb => .inl (hfd b hb)) (real_beside i.dm.da.re hp (fun b hb e => hfd b hb (i.dm.da.tin b (cut_tall i.dm.da.N e))) hb) fun _ _ _ => rfl
  exact .inr ⟨kd,Y,D,n1,dd,dp,q,c,t,fd,i.row.past hp (fun e => hl _ e (by rw [i.fp]; simp)),⟨hda,i.dm.du,i.dm.tn,i.dm.off⟩,i.bs,i.dd,i.fp,i.nX⟩
end
structure NS (a:String → Addr) (w0:World) (H:Nat → Nat) (la g Ba Bm Bt Bv i e x:Nat) (o:Bool) (cnt ln:Nat) (X P Dp:Nat → Nat) (Fs:Nat → Nat → Option Nat) (fps:Nat → List Nat) (vA:Value) (K G:Nat → Option Nat) (V:Nat → Nat) (W:World):Prop where
 hi:i < cnt
 oth:∀ j,j < cnt → j ≠ i → NF a w0 H la g (X j) (P j) (Dp j) (Fs j) 1 8 true (fps j) W
 act:NF a w0 H la g (X i) (P i) (Dp i) (Fs i) e x o (fps i) W
 sep:∀ j k,j < cnt → k < cnt → j ≠ k → ∀ b ∈ fps j,b ∉ fps k
 one:∀ h,h < 18446744073709551616 → ∃ j,j < cnt ∧ wi h (P j) (Dp j) ∧ ∀ k,k < cnt → wi h (P k) (Dp k) → k = j
 ms:msum Dp cnt = 32
 gm:GM Bm W
 rows:table.Rows Bt Bv la G V W
 box:W.heap[Ba]? = some (.cells #[vA] 79 (0,0))
 own:W.ownsRow w0.heap.size 25 1 vA ln (ptrsN X ln)
 l1:1 ≤ ln ∧ ln ≤ cnt
 far:∀ b ∈ Ba :: Bm :: Bt :: Bv :: vA.ownBlock.toList,w0.heap.size ≤ b ∧ b < W.heap.size ∧ ∀ j,j < cnt → b ∉ fps j
 nd:(Ba :: Bm :: Bt :: Bv :: vA.ownBlock.toList).Nodup
 agr:∀ key,key < la → ∀ j,j < cnt → wi (H key) (P j) (Dp j) → Fs j key = K key
 vals:Vals G V
section
variable {a:String → Addr} {w0:World} {H:Nat → Nat} {la g Ba Bm Bt Bv i e x:Nat} {o:Bool} {cnt ln:Nat} {X P Dp:Nat → Nat} {Fs:Nat → Nat → Option Nat} {fps:Nat → List Nat} {vA:Value} {K G:Nat → Option Nat} {V:Nat → Nat} {W W':World}
theorem own_mem {vA:Value} {b:Nat} (h:vA.ownBlock = some b):b ∈ vA.ownBlock.toList:=by rw [h]; simp
theorem NS.n32 (h:NS a w0 H la g Ba Bm Bt Bv i e x o cnt ln X P Dp Fs fps vA K G V W):cnt ≤ 32:=by
 have:=msum_ge Dp cnt
 have:=h.ms
 omega
theorem NS.node (h:NS a w0 H la g Ba Bm Bt Bv i e x o cnt ln X P Dp Fs fps vA K G V W) {j:Nat} (hj:j < cnt):∃ e x o,NF a w0 H la g (X j) (P j) (Dp j) (Fs j) e x o (fps j) W:=by
 by_cases q:j = i
 ·subst q; exact ⟨_,_,_,h.act⟩
 ·exact ⟨_,_,_,h.oth j hj q⟩
theorem NS.bel (h:NS a w0 H la g Ba Bm Bt Bv i e x o cnt ln X P Dp Fs fps vA K G V W):Below w0.heap.size w0 W:=h.act.bel
/-- a step that writes none of it -/
theorem NS.aside {l:List Nat} (h:NS a w0 H la g Ba Bm Bt Bv i e x o cnt ln X P Dp Fs fps vA K G V W) (hp:Past l W W') (hl:∀ b ∈ l,W.heap.size ≤ b):NS a w0 H la g Ba Bm Bt Bv i e x o cnt ln X P Dp Fs fps vA K G V W':=by
 have hz:=h.bel.size
 have hb:Below w0.heap.size w0 W':=h.bel.trans (hp.below h.bel.size fun b hb => by have:=hl b hb; omega)
 have nf:∀ b ∈ Ba :: Bm :: Bt :: Bv :: vA.ownBlock.toList,b ∉ l:=fun b hb e => by have:=(h.far b hb).2.1; have:=hl b e; omega
 refine ⟨h.hi,fun j hj hne => (h.oth j hj hne).beside hp (fun b hb e => ?_) hb,h.act.beside hp (fun b hb e => ?_) hb,h.sep,h.one,h.ms,h.gm.past hp (nf _ (by simp)),h.rows.past hp (nf _ (by simp)) (nf _ (by simp)),(hp.block _ (h.far Ba (by simp)).2.1 (nf _ (by simp))).trans h.box,row_past2 h.own hp fun q hq => nf q ?_,h.l1,fun b hb => ?_,h.nd,h.agr,h.vals⟩
 ·have:=(h.oth j hj hne).lts b e; have:=hl b hb; omega
 ·have:=h.act.lts b e; have:=hl b hb; omega
 ·have:=own_mem hq
  simp only [List.mem_cons]
  exact .inr (.inr (.inr (.inr this)))
 ·obtain ⟨q1,q2,q3⟩:=h.far b hb
  exact ⟨q1,Nat.lt_of_lt_of_le q2 hp.size,q3⟩
theorem NS.read (h:NS a w0 H la g Ba Bm Bt Bv i e x o cnt ln X P Dp Fs fps vA K G V W) (hb:Below W.heap.size W W'):NS a w0 H la g Ba Bm Bt Bv i e x o cnt ln X P Dp Fs fps vA K G V W':=
 h.aside (Past.of (d:=[]) hb) fun b hb => by cases hb
/-- the active node goes on -/
theorem NS.go (h:NS a w0 H la g Ba Bm Bt Bv i e x o cnt ln X P Dp Fs fps vA K G V W) {F' K':Nat → Option Nat} {fp':List Nat} {e' x':Nat} {o':Bool} (hp:Past (Bm :: fps i) W W') (hN:NF a w0 H la g (X i) (P i) (Dp i) F' e' x' o' fp' W') (hg:GM Bm W') (hf:∀ b ∈ fp',b ∈ fps i ∨ W.heap.size ≤ b)
  (hK:∀ key,key < la → (wi (H key) (P i) (Dp i) → F' key = K' key) ∧ (¬ wi (H key) (P i) (Dp i) → K' key = K key)) :
  NS a w0 H la g Ba Bm Bt Bv i e' x' o' cnt ln X P Dp (up Fs i F') (up fps i fp') vA K' G V W':=by
 have hb:=hN.bel
 have fr:∀ b ∈ Ba :: Bm :: Bt :: Bv :: vA.ownBlock.toList,b ≠ Bm → b ∉ Bm :: fps i:=fun b hb hne e => by
  rcases List.mem_cons.1 e with e | e
  ·exact hne e
  ·exact (h.far b hb).2.2 i h.hi e
 have hnd:=h.nd
 simp only [List.nodup_cons,List.mem_cons,not_or] at hnd
 have ob:∀ q,vA.ownBlock = some q → q ∈ Ba :: Bm :: Bt :: Bv :: vA.ownBlock.toList ∧ q ≠ Bm:=fun q hq => by
  have:=own_mem hq
  refine ⟨by simp only [List.mem_cons]; exact .inr (.inr (.inr (.inr this))),fun e => ?_⟩
  subst e
  exact hnd.2.1.2.2 this
 refine ⟨h.hi,fun j hj hne => ?_, ?_,fun j k hj hk hne b hb => ?_,h.one,h.ms,hg,h.rows.past hp (fr _ (by simp) (fun q => hnd.2.1.1 q.symm)) (fr _ (by simp) (fun q => hnd.2.1.2.1 q.symm)),(hp.block _ (h.far Ba (by simp)).2.1 (fr _ (by simp) hnd.1.1)).trans h.box,row_past2 h.own hp fun q hq => fr q (ob q hq).1 (ob q hq).2,h.l1,fun b hb => ?_,h.nd,fun key hk j hj hw => ?_,h.vals⟩
 ·rw [up_ne _ _ hne,up_ne _ _ hne]
  refine (h.oth j hj hne).beside hp (fun b hb e => ?_) hb
  rcases List.mem_cons.1 hb with rfl | hb
  ·exact (h.far b (by simp)).2.2 j hj e
  ·exact h.sep j i hj h.hi hne b e hb
 ·rw [up_same,up_same]; exact hN
 ·by_cases q1:j = i
  ·subst q1
   rw [up_same] at hb
   rw [up_ne _ _ (Ne.symm hne)]
   rcases hf b hb with hb | hb
   ·exact h.sep j k hj hk hne b hb
   ·intro e; have:=(h.oth k hk (Ne.symm hne)).lts b e; omega
  ·rw [up_ne _ _ q1] at hb
   by_cases q2:k = i
   ·subst q2
    rw [up_same]
    intro e
    rcases hf b e with e | e
    ·exact h.sep j k hj hk hne b hb e
    ·have:=(h.oth j hj hne).lts b hb; omega
   ·rw [up_ne _ _ q2]
    exact h.sep j k hj hk hne b hb
 ·obtain ⟨q1,q2,q3⟩:=h.far b hb
  refine ⟨q1,Nat.lt_of_lt_of_le q2 hp.size,fun j hj => ?_⟩
  by_cases q4:j = i
  ·subst q4
   rw [up_same]
   intro e
   rcases hf b e with e | e
   ·exact q3 j hj e
   ·omega
  ·rw [up_ne _ _ q4]; exact q3 j hj
 ·by_cases q1:j = i
  ·subst q1
   rw [up_same]; exact (hK key hk).1 hw
  ·rw [up_ne _ _ q1]
   rw [(hK key hk).2 fun hw' => ?_]
   ·exact h.agr key hk j hj hw
   ·obtain ⟨k,hk1,hk2,hk3⟩:=h.one (H key) (h.act.hH key hk)
    have:=hk3 j hj hw
    have:=hk3 i h.hi hw'
    omega
/-- another node is the active one -/
theorem NS.sel (h:NS a w0 H la g Ba Bm Bt Bv i 1 8 true cnt ln X P Dp Fs fps vA K G V W) {j:Nat} (hj:j < cnt):NS a w0 H la g Ba Bm Bt Bv j 1 8 true cnt ln X P Dp Fs fps vA K G V W:=by
 refine ⟨hj,fun k hk hne => ?_, ?_,h.sep,h.one,h.ms,h.gm,h.rows,h.box,h.own,h.l1,h.far,h.nd,h.agr,h.vals⟩
 ·by_cases q:k = i
  ·subst q; exact h.act
  ·exact h.oth k hk q
 ·by_cases q:j = i
  ·subst q; exact h.act
  ·exact h.oth j hj q
/-- the rows are written -/
theorem NS.rowset {l:List Nat} {G':Nat → Option Nat} {V':Nat → Nat} (h:NS a w0 H la g Ba Bm Bt Bv i e x o cnt ln X P Dp Fs fps vA K G V W) (hp:Past l W W') (hl:∀ b ∈ l,b = Bt ∨ b = Bv) (hr:table.Rows Bt Bv la G' V' W') (hv:Vals G' V'):NS a w0 H la g Ba Bm Bt Bv i e x o cnt ln X P Dp Fs fps vA K G' V' W':=by
 have hnd:=h.nd
 simp only [List.nodup_cons,List.mem_cons,not_or] at hnd
 have ht:=h.far Bt (by simp)
 have hv':=h.far Bv (by simp)
 have hb:Below w0.heap.size w0 W':=h.bel.trans (hp.below h.bel.size fun b hb => by
  rcases hl b hb with rfl | rfl
  ·exact ht.1
  ·exact hv'.1)
 have nn:∀ b,b ≠ Bt → b ≠ Bv → b ∉ l:=fun b h1 h2 e => (hl b e).elim h1 h2
 have nf:∀ j,j < cnt → ∀ b ∈ l,b ∉ fps j:=fun j hj b hb e => by
  rcases hl b hb with rfl | rfl
  ·exact ht.2.2 j hj e
  ·exact hv'.2.2 j hj e
 refine ⟨h.hi,fun j hj hne => (h.oth j hj hne).beside hp (nf j hj) hb,h.act.beside hp (nf i h.hi) hb,h.sep,h.one,h.ms,h.gm.past hp (nn _ hnd.2.1.1 hnd.2.1.2.1),hr,(hp.block _ (h.far Ba (by simp)).2.1 (nn _ hnd.1.2.1 hnd.1.2.2.1)).trans h.box,row_past2 h.own hp fun q hq => nn q (fun e => ?_) (fun e => ?_),h.l1,fun b hb => ?_,h.nd,h.agr,hv⟩
 ·subst e; exact hnd.2.2.1.2 (own_mem hq)
 ·subst e; exact hnd.2.2.2.1 (own_mem hq)
 ·obtain ⟨q1,q2,q3⟩:=h.far b hb
  exact ⟨q1,Nat.lt_of_lt_of_le q2 hp.size,q3⟩
theorem NS.put {key v:Nat} (h:NS a w0 H la g Ba Bm Bt Bv i e x o cnt ln X P Dp Fs fps vA K G V W) (hk:key < la):NS a w0 H la g Ba Bm Bt Bv i e x o cnt ln X P Dp Fs fps vA K (table.set G key (some v)) (fun j => if j = key then v else V j) ((W.setCell ⟨Bt,key,none⟩ (.bool true)).setCell ⟨Bv,key,none⟩ (.int .u64 (v:Nat))):=
 h.rowset (l:=[Bt,Bv]) (((Past.refl _ W).store (.inl (by simp)) _).store (.inl (by simp)) _) (fun b hb => by simpa using hb) ((h.rows.setT (o:=some v) hk).setV hk) (h.vals.put _ _)
theorem NS.del {key:Nat} (h:NS a w0 H la g Ba Bm Bt Bv i e x o cnt ln X P Dp Fs fps vA K G V W) (hk:key < la):NS a w0 H la g Ba Bm Bt Bv i e x o cnt ln X P Dp Fs fps vA K (table.set G key none) V (W.setCell ⟨Bt,key,none⟩ (.bool false)):=
 h.rowset (l:=[Bt]) set_one (fun b hb => by simp at hb; exact .inl hb) (h.rows.setT (o:=none) hk) (h.vals.del _)
/-- a node was parted: its other half comes last -/
theorem NS.two (h:NS a w0 H la g Ba Bm Bt Bv i e x o cnt cnt X P Dp Fs fps vA K G V W) {X':Nat} {F1 F2:Nat → Option Nat} {f1 f2:List Nat} (hp:Past (fps i) W W') (h1:NF a w0 H la g (X i) (2 * P i) (Dp i + 1) F1 1 8 true f1 W') (h2:NF a w0 H la g X' (2 * P i + 1) (Dp i + 1) F2 1 8 true f2 W')
  (hf1:∀ b ∈ f1,b ∈ fps i) (hf2:∀ b ∈ f2,b ∈ fps i ∨ W.heap.size ≤ b) (hs:∀ b ∈ f1,b ∉ f2) (hk1:∀ key,wi (H key) (2 * P i) (Dp i + 1) → F1 key = Fs i key) (hk2:∀ key,wi (H key) (2 * P i + 1) (Dp i + 1) → F2 key = Fs i key) :
  NS a w0 H la g Ba Bm Bt Bv i 1 8 true (cnt + 1) cnt (up X cnt X') (up (up P i (2 * P i)) cnt (2 * P i + 1)) (up (up Dp i (Dp i + 1)) cnt (Dp i + 1)) (up (up Fs i F1) cnt F2) (up (up fps i f1) cnt f2) vA K G V W':=by
 have hi:=h.hi
 have hb:=h1.bel
 have d5:=h1.hdg
 have ne:i ≠ cnt:=by omega
 have fr:∀ b ∈ Ba :: Bm :: Bt :: Bv :: vA.ownBlock.toList,b ∉ fps i:=fun b hb => (h.far b hb).2.2 i hi
 have ob:∀ q,vA.ownBlock = some q → q ∈ Ba :: Bm :: Bt :: Bv :: vA.ownBlock.toList:=fun q hq => by
  have:=own_mem hq
  simp only [List.mem_cons]; exact .inr (.inr (.inr (.inr this)))
 have fpj:∀ j,j < cnt + 1 → ∀ b ∈ up (up fps i f1) cnt f2 j,(∃ k,k < cnt ∧ b ∈ fps k ∧ (j ≠ cnt → k = j)) ∨ W.heap.size ≤ b:=fun j hj b hb => by
  by_cases q:j = cnt
  ·subst q
   rw [up_same] at hb
   rcases hf2 b hb with e | e
   ·exact .inl ⟨i,hi,e,fun e => absurd rfl e⟩
   ·exact .inr e
  ·rw [up_ne _ _ q] at hb
   by_cases q2:j = i
   ·subst q2
    rw [up_same] at hb
    exact .inl ⟨j,hi,hf1 b hb,fun _ => rfl⟩
   ·rw [up_ne _ _ q2] at hb
    exact .inl ⟨j,by omega,hb,fun _ => rfl⟩
 have cs:∀ j,j < cnt + 1 → j ≠ i → j ≠ cnt → j < cnt:=fun j h1 h2 h3 => by omega
 refine ⟨by omega,fun j hj hne => ?_, ?_,fun j k hj hk hne b hb => ?_,fun hh hlt => ?_, ?_,h.gm.past hp (fr _ (by simp)),h.rows.past hp (fr _ (by simp)) (fr _ (by simp)),(hp.block _ (h.far Ba (by simp)).2.1 (fr _ (by simp))).trans h.box, ?_,⟨h.l1.1,Nat.le_succ _⟩,fun b hb => ?_,h.nd,fun key hk j hj hw => ?_,h.vals⟩
 ·by_cases q:j = cnt
  ·subst q
   rw [up_same,up_same,up_same,up_same,up_same]; exact h2
  ·rw [up_ne _ _ q,up_ne _ _ q,up_ne _ _ q,up_ne _ _ q,up_ne _ _ q,up_ne _ _ hne,up_ne _ _ hne,up_ne _ _ hne,up_ne _ _ hne]
   exact (h.oth j (by omega) hne).beside hp (fun b hb e => h.sep j i (by omega) hi hne b e hb) hb
 ·rw [up_ne _ _ ne,up_ne _ _ ne,up_ne _ _ ne,up_ne _ _ ne,up_ne _ _ ne,up_same,up_same,up_same,up_same]; exact h1
 ·intro eo
  have sym:∀ j k,j < cnt + 1 → k < cnt + 1 → j < k → b ∈ up (up fps i f1) cnt f2 j → b ∈ up (up fps i f1) cnt f2 k → False:=fun j k hj hk hlt hb e => by
   have jc:j ≠ cnt:=by omega
   by_cases kc:k = cnt
   ·rw [kc,up_same] at e
    rw [up_ne _ _ jc] at hb
    by_cases ji:j = i
    ·subst ji
     rw [up_same] at hb
     exact hs b hb e
    ·rw [up_ne _ _ ji] at hb
     rcases hf2 b e with e | e
     ·exact h.sep j i (by omega) hi ji b hb e
     ·have:=(h.oth j (by omega) ji).lts b hb; omega
   ·rcases fpj j hj b hb with ⟨k1,hk1,hb1,e1⟩ | hb1
    ·rcases fpj k hk b e with ⟨k2,hk2,hb2,e2⟩ | hb2
     ·have:=e1 jc
      have:=e2 kc
      exact h.sep k1 k2 hk1 hk2 (by omega) b hb1 hb2
     ·obtain ⟨_,_,_,q⟩:=h.node hk1
      have:=q.lts b hb1; omega
    ·rw [up_ne _ _ kc] at e
     by_cases ki:k = i
     ·subst ki
      rw [up_same] at e
      have:=h.act.lts b (hf1 b e); omega
     ·rw [up_ne _ _ ki] at e
      have:=(h.oth k (by omega) ki).lts b e; omega
  rcases Nat.lt_or_gt_of_ne hne with q | q
  ·exact sym j k hj hk q hb eo
  ·exact sym k j hk hj q eo hb
 ·obtain ⟨j,hj,hw,hu⟩:=h.one hh hlt
  have pj:∀ k,k < cnt → k ≠ i → up (up P i (2 * P i)) cnt (2 * P i + 1) k = P k ∧ up (up Dp i (Dp i + 1)) cnt (Dp i + 1) k = Dp k:=fun k hk hne => by
   have a1:k ≠ cnt:=by omega
   rw [up_ne _ _ a1,up_ne _ _ a1,up_ne _ _ hne,up_ne _ _ hne]; exact ⟨rfl,rfl⟩
  have pI:up (up P i (2 * P i)) cnt (2 * P i + 1) i = 2 * P i ∧ up (up Dp i (Dp i + 1)) cnt (Dp i + 1) i = Dp i + 1:=by
   rw [up_ne _ _ ne,up_ne _ _ ne,up_same,up_same]; exact ⟨rfl,rfl⟩
  have pC:up (up P i (2 * P i)) cnt (2 * P i + 1) cnt = 2 * P i + 1 ∧ up (up Dp i (Dp i + 1)) cnt (Dp i + 1) cnt = Dp i + 1:=by
   rw [up_same,up_same]; exact ⟨rfl,rfl⟩
  have hup:=wi_up (h:=hh) (p:=P i) (d:=Dp i) (by omega)
  have back:∀ k,k < cnt + 1 → wi hh (up (up P i (2 * P i)) cnt (2 * P i + 1) k) (up (up Dp i (Dp i + 1)) cnt (Dp i + 1) k) → (k = i ∨ k = cnt) ∧ j = i ∨ k = j ∧ k ≠ i ∧ k ≠ cnt:=fun k hk hwk => by
   by_cases q1:k = cnt
   ·subst q1
    rw [pC.1,pC.2] at hwk
    exact .inl ⟨.inr rfl,(hu i hi (hup.2 (.inr hwk))).symm⟩
   ·by_cases q2:k = i
    ·subst q2
     rw [pI.1,pI.2] at hwk
     exact .inl ⟨.inl rfl,(hu k hi (hup.2 (.inl hwk))).symm⟩
    ·have:=pj k (by omega) q2
     rw [this.1,this.2] at hwk
     exact .inr ⟨hu k (by omega) hwk,q2,q1⟩
  by_cases q:j = i
  ·subst q
   rcases hup.1 hw with q | q
   ·refine ⟨j,by omega,by rw [pI.1,pI.2]; exact q,fun k hk hwk => ?_⟩
    rcases back k hk hwk with ⟨q1 | q1,_⟩ | ⟨q1,_⟩
    ·exact q1
    ·subst q1
     rw [pC.1,pC.2] at hwk
     unfold wi at q hwk; omega
    ·exact q1
   ·refine ⟨cnt,by omega,by rw [pC.1,pC.2]; exact q,fun k hk hwk => ?_⟩
    rcases back k hk hwk with ⟨q1 | q1,_⟩ | ⟨q1,q2,_⟩
    ·subst q1
     rw [pI.1,pI.2] at hwk
     unfold wi at q hwk; omega
    ·exact q1
    ·exact absurd q1 q2
  ·refine ⟨j,by omega,by rw [(pj j hj q).1,(pj j hj q).2]; exact hw,fun k hk hwk => ?_⟩
   rcases back k hk hwk with ⟨_,q1⟩ | ⟨q1,_⟩
   ·exact absurd q1 q
   ·exact q1
 ·show msum (up (up Dp i (Dp i + 1)) cnt (Dp i + 1)) cnt + 2 ^ (5 - up (up Dp i (Dp i + 1)) cnt (Dp i + 1) cnt) = 32
  rw [msum_far _ _ _ _ (Nat.le_refl _),up_same]
  have h1:=msum_up Dp i (Dp i + 1) cnt hi
  have h2:=h.ms
  have h3:2 ^ (5 - Dp i) = 2 ^ (5 - (Dp i + 1)) + 2 ^ (5 - (Dp i + 1)):=by
   rw [show 5 - Dp i = (5 - (Dp i + 1)) + 1 by omega,Nat.pow_succ]; omega
  omega
 ·have e:ptrsN (up X cnt X') cnt = ptrsN X cnt:=List.map_congr_left fun j hj => by
   rw [up_ne _ _ (by have:=List.mem_range.1 hj; omega)]
  rw [e]
  exact row_past2 h.own hp fun q hq => fr q (ob q hq)
 ·obtain ⟨q1,q2,q3⟩:=h.far b hb
  refine ⟨q1,Nat.lt_of_lt_of_le q2 hp.size,fun j hj e => ?_⟩
  rcases fpj j hj b e with ⟨k,hk,e,_⟩ | e
  ·exact q3 k hk e
  ·omega
 ·by_cases q:j = cnt
  ·subst q
   rw [up_same,up_same] at hw
   rw [up_same,hk2 key hw]
   exact h.agr key hk i hi ((wi_up (by omega)).2 (.inr hw))
  ·rw [up_ne _ _ q,up_ne _ _ q] at hw
   rw [up_ne _ _ q]
   by_cases q2:j = i
   ·subst q2
    rw [up_same,up_same] at hw
    rw [up_same,hk1 key hw]
    exact h.agr key hk j hi ((wi_up (by omega)).2 (.inl hw))
   ·rw [up_ne _ _ q2,up_ne _ _ q2] at hw
    rw [up_ne _ _ q2]
    exact h.agr key hk j (by omega) hw
/-- it is listed, too -/
theorem NS.listed {g1 c1:Nat} (h:NS a w0 H la g Ba Bm Bt Bv i 1 8 true (cnt + 1) cnt X P Dp Fs fps vA K G V W) {W3:World} {ob:Obj}
  (hr:W3.ownsRow w0.heap.size 25 1 (.slice (some ⟨g1,0,none⟩) (cnt + 1) c1) (cnt + 1) (ptrsN X (cnt + 1))) (hg:(W.alloc ob).grownBy W3 vA.ownBlock) (ha:vA.ownBlock = some g1 ∨ g1 = W.heap.size + 1) (hl:g1 < W3.heap.size) :
  NS a w0 H la g Ba Bm Bt Bv i 1 8 true (cnt + 1) (cnt + 1) X P Dp Fs fps (.slice (some ⟨g1,0,none⟩) (cnt + 1) c1) K G V (W3.setCell ⟨Ba,0,none⟩ (.slice (some ⟨g1,0,none⟩) (cnt + 1) c1)):=by
 have hz:=h.bel.size
 have hnd:=h.nd
 simp only [List.nodup_cons,List.mem_cons,not_or] at hnd
 have p0:Past vA.ownBlock.toList W W3:=(Past.of (new_block W ob)).trans (past_grown hg)
 have nBa:Ba ∉ vA.ownBlock.toList:=fun e => hnd.1.2.2.2 e
 have pB:Past [Ba] W3 (W3.setCell ⟨Ba,0,none⟩ (.slice (some ⟨g1,0,none⟩) (cnt + 1) c1)):=set_one
 have pa:Past (Ba :: vA.ownBlock.toList) W (W3.setCell ⟨Ba,0,none⟩ (.slice (some ⟨g1,0,none⟩) (cnt + 1) c1)):=(p0.mono fun b hb => List.mem_cons_of_mem _ hb).trans (pB.mono fun b hb => by
  obtain rfl:b = Ba:=by simpa using hb
  exact List.mem_cons_self)
 have inf:∀ b ∈ Ba :: vA.ownBlock.toList,b ∈ Ba :: Bm :: Bt :: Bv :: vA.ownBlock.toList:=fun b hb => by
  simp only [List.mem_cons] at hb ⊢
  rcases hb with e | e
  ·exact .inl e
  ·exact .inr (.inr (.inr (.inr e)))
 have hb:Below w0.heap.size w0 (W3.setCell ⟨Ba,0,none⟩ (.slice (some ⟨g1,0,none⟩) (cnt + 1) c1)):=h.bel.trans (pa.below h.bel.size fun b hb => (h.far b (inf b hb)).1)
 have nn:∀ b,b ≠ Ba → b ∉ vA.ownBlock.toList → b ∉ Ba :: vA.ownBlock.toList:=fun b h1 h2 e => (List.mem_cons.1 e).elim h1 h2
 have zW3:W.heap.size + 1 ≤ W3.heap.size:=by have:=(past_grown hg).size; rwa [World.size_alloc] at this
 have g1B:g1 ≠ Ba:=fun e => by
  rcases ha with ha | ha
  ·exact nBa (by rw [← e]; exact own_mem ha)
  ·have:=(h.far Ba (by simp)).2.1; omega
 have box3:W3.heap[Ba]? = some (.cells #[vA] 79 (0,0)):=(p0.block _ (h.far Ba (by simp)).2.1 nBa).trans h.box
 refine ⟨h.hi,fun j hj hne => (h.oth j hj hne).beside pa (fun b hb e => (h.far b (inf b hb)).2.2 j hj e) hb,h.act.beside pa (fun b hb e => (h.far b (inf b hb)).2.2 i h.hi e) hb,h.sep,h.one,h.ms,h.gm.past pa (nn _ (Ne.symm hnd.1.1) hnd.2.1.2.2),h.rows.past pa (nn _ (Ne.symm hnd.1.2.1) hnd.2.2.1.2) (nn _ (Ne.symm hnd.1.2.2.1) hnd.2.2.2.1),heap_setCell_same W3 Ba 0 _ _ _ box3,row_past2 hr pB fun q hq => ?_,⟨Nat.le_add_left _ _,Nat.le_refl _⟩,fun b hb => ?_, ?_,h.agr,h.vals⟩
 ·obtain rfl:g1 = q:=by injection hq
  simpa using g1B
 ·have hc:b ∈ Ba :: Bm :: Bt :: Bv :: vA.ownBlock.toList ∨ b = W.heap.size + 1:=by
   have hb':b = Ba ∨ b = Bm ∨ b = Bt ∨ b = Bv ∨ b = g1:=by simpa [Value.ownBlock] using hb
   simp only [List.mem_cons]
   rcases hb' with e | e | e | e | e
   ·exact .inl (.inl e)
   ·exact .inl (.inr (.inl e))
   ·exact .inl (.inr (.inr (.inl e)))
   ·exact .inl (.inr (.inr (.inr (.inl e))))
   ·rcases ha with ha | ha
    ·exact .inl (.inr (.inr (.inr (.inr (by rw [e]; exact own_mem ha)))))
    ·exact .inr (by omega)
  rcases hc with hc | rfl
  ·obtain ⟨q1,q2,q3⟩:=h.far b hc
   exact ⟨q1,Nat.lt_of_lt_of_le q2 pa.size,q3⟩
  ·refine ⟨by omega, ?_,fun j hj e => ?_⟩
   ·rw [World.size_setCell]
    have hb':W.heap.size + 1 = Ba ∨ W.heap.size + 1 = Bm ∨ W.heap.size + 1 = Bt ∨ W.heap.size + 1 = Bv ∨ W.heap.size + 1 = g1:=by simpa [Value.ownBlock] using hb
    have f1:=(h.far Ba (by simp)).2.1
    have f2:=(h.far Bm (by simp)).2.1
    have f3:=(h.far Bt (by simp)).2.1
    have f4:=(h.far Bv (by simp)).2.1
    omega
   ·obtain ⟨_,_,_,q⟩:=h.node hj
    have:=q.lts _ e; omega
 ·have f1:=(h.far Ba (by simp)).2.1
  have f2:=(h.far Bm (by simp)).2.1
  have f3:=(h.far Bt (by simp)).2.1
  have f4:=(h.far Bv (by simp)).2.1
  have ng:∀ b,b < W.heap.size → b ∉ vA.ownBlock.toList → b ≠ g1:=fun b h1 h2 e => by
   rcases ha with ha | ha
   ·exact h2 (by rw [e]; exact own_mem ha)
   ·omega
  have e1:=ng Ba f1 nBa
  have e2:=ng Bm f2 hnd.2.1.2.2
  have e3:=ng Bt f3 hnd.2.2.1.2
  have e4:=ng Bv f4 hnd.2.2.2.1
  simp only [Value.ownBlock,Option.toList_some,List.nodup_cons,List.mem_cons,List.not_mem_nil,or_false,not_or,not_false_eq_true,List.nodup_nil,and_true]
  exact ⟨⟨hnd.1.1,hnd.1.2.1,hnd.1.2.2.1,e1⟩,⟨hnd.2.1.1,hnd.2.1.2.1,e2⟩,⟨hnd.2.2.1.1,e3⟩,e4⟩
end
end Go.Proofs.YtdplhgpeggcmdaaGreatDoor.node
