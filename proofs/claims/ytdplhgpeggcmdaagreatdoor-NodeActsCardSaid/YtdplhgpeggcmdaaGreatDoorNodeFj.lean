/- NodeFj: facts and laws for the walks. -/
import Derived.Test.YtdplhgpeggcmdaaGreatDoorDualEx
import Derived.Test.YtdplhgpeggcmdaaGreatDoorChooseA
namespace Go.Proofs.YtdplhgpeggcmdaaGreatDoor
set_option linter.unusedSimpArgs false
set_option linter.unusedVariables false
open Go.ChangeShapes Go.WideShapes Go.ChangeAt Go.RowKit Go.Shelf swar under trap meter group probe lens tail call table evac dual
namespace node
attribute [local go_sem] Oper.semAt_some stage.pureUpon move.stepUpon movex.stepUpon
section
variable {X p d T:Nat} {k:Int} {pd:Option Addr} {w:World}
theorem pref_any(h:NRow X p d T k pd w):Calls Tryz.prog 9 #[.pointer (some ⟨X,0,none⟩)] w fun e w'=>e=.returned (.tuple #[.int .i64 (p:Nat),.int .i64 (d:Nat)])∧Below w.heap.size w w':=by
 have c0:=h.c0;have c1:=h.c1;clear h
 go_enter Tryz.func9,Tryz.ntmps9
 go_wp2
 go_quiet (fail)
 go_wp2
 go_ret2
 exact⟨rfl,below_drewN' _ _⟩
theorem job_any(h:NRow X p d T k pd w):Calls Tryz.prog 71 #[.pointer (some ⟨X,0,none⟩)] w fun e w'=>e=.returned (.int .i64 k)∧w=w':=by
 have c3:=h.c3;clear h
 go_enter Tryz.func71,Tryz.ntmps71
 go_wp2
 go_ret
 exact⟨rfl,rfl⟩
theorem wants_off{B:Nat}{t:Tb}(h:NRow X p d T k none w)(hT:TAt T B t w)(ht:t.Ok)(g:Int):Calls Tryz.prog 32 #[.pointer (some ⟨X,0,none⟩),.int .i64 g] w fun e w'=>e=.returned (.tuple #[.int .i64 (choose.wh t.len t.tombs t.n d g),.bool (choose.db t.len t.tombs t.n d g)])∧Below w.heap.size w w':=by
 have c1:=Under.cell h.c1;have c2:=Under.cell h.c2;have c4:=h.c4;have hn:=dl_none;have hb:=ht.bounds;have a1:=fun W (hb:Below w.heap.size w W)=>len_any T B t W (hT.below hb)
 have a2:=fun W (hb:Below w.heap.size w W)=>tombs_any T B t W (hT.below hb)
 have a3:=fun W (hb:Below w.heap.size w W)=>table.groups_any T B t W (hT.below hb)
 have cW:=fun W=>choose.which_any t.len t.tombs t.n d g (by unfold choose.I;omega) W
 have cD:=fun W=>choose.double_any t.len t.tombs t.n d g (by unfold choose.I;omega) W
 clear h hT;generalize choose.wh t.len t.tombs t.n d g=r1 at *
 generalize choose.db t.len t.tombs t.n d g=r2 at *
 generalize t.len=x1 at *
 generalize t.tombs=x2 at *
 generalize t.n=x3 at *
 go_enter Tryz.func32,Tryz.ntmps32
 go_upto_region 3 with (fail)
 refine wp_region_under (by kernel_rfl) (by kernel_rfl) ?_
 repeat (quiet_step (first
  | (go_at_call 77;(with_reducible refine under_same (a1 _ (Under.below _))))
  | (go_at_call 78;(with_reducible refine under_same (a2 _ (Under.below _))))
  | (go_at_call 63;(with_reducible refine under_same (a3 _ (Under.below _))))))
 refine wpQuiet_nil ?_;intro wz hwz;obtain⟨z,rfl⟩:=hwz;have d1:=Under.cell (c1 z);have hbz:=z.below;clear a1 a2 a3 c1 c2 c4;generalize z.W=wz at *
 go_upto_region 4 with (fail)
 refine wp_region_under (by kernel_rfl) (by kernel_rfl) ?_
 repeat (quiet_step (first
  | (go_at_call 79;(with_reducible refine under_same (cW _)))
  | (go_at_call 80;(with_reducible refine under_same (cD _)))))
 refine wpQuiet_nil ?_;intro wy hwy;obtain⟨y,rfl⟩:=hwy;have hby:=y.below;clear cW cD d1;generalize y.W=wy at *
 go_wp2
 go_ret2
 exact⟨rfl,under.below_step hbz hby⟩
theorem left_off(h:NRow X p d T k none w):Calls Tryz.prog 73 #[.pointer (some ⟨X,0,none⟩)] w fun e w'=>e=.returned (.int .i64 0)∧w=w':=by
 have c4:=h.c4;have hn:=dl_none;clear h
 go_enter Tryz.func73,Tryz.ntmps73
 go_wp2
 go_ret
 exact⟨rfl,rfl⟩
theorem done_off(h:NRow X p d T k none w):Calls Tryz.prog 33 #[.pointer (some ⟨X,0,none⟩)] w fun e w'=>e=.returned (.bool false)∧w=w':=by
 have c4:=h.c4;have hn:=dl_none;clear h
 go_enter Tryz.func33,Tryz.ntmps33
 go_wp2
 go_ret
 exact⟨rfl,rfl⟩
theorem step_off(h:NRow X p d T k none w)(v:Value):Calls Tryz.prog 29 #[.pointer (some ⟨X,0,none⟩),v] w fun e w'=>e=.returned (.bool false)∧w=w':=by
 have c4:=h.c4;have hn:=dl_none;clear h
 go_enter Tryz.func29,Tryz.ntmps29
 go_wp2
 go_ret
 exact⟨rfl,rfl⟩
theorem tombs_off{B:Nat}{t:Tb}(h:NRow X p d T k none w)(hT:TAt T B t w):Calls Tryz.prog 72 #[.pointer (some ⟨X,0,none⟩)] w fun e w'=>e=.returned (.int .i64 t.tombs)∧w=w':=by
 have c2:=h.c2;have c4:=h.c4;have hn:=dl_none;have a2:=table.tombs_any T B t w hT;clear h hT
 go_enter Tryz.func72,Tryz.ntmps72
 go_wp2_with (go_at_call 78;refine a2.mono ?_;rintro e w1 ⟨rfl,rfl⟩)
 go_ret
 exact⟨rfl,rfl⟩
theorem len_off{B:Nat}{t:Tb}(h:NRow X p d T k none w)(hT:TAt T B t w):Calls Tryz.prog 35 #[.pointer (some ⟨X,0,none⟩)] w fun e w'=>e=.returned (.int .i64 t.len)∧w=w':=by
 have a2:=table.len_any T B t w hT;have cU:=cur_off h;clear h hT
 go_enter Tryz.func35,Tryz.ntmps35
 go_wp2_with (first
  | (go_at_call 52;refine cU.mono ?_;rintro e w1 ⟨rfl,rfl⟩)
  | (go_at_call 77;refine a2.mono ?_;rintro e w1 ⟨rfl,rfl⟩))
 go_ret
 exact⟨rfl,rfl⟩
theorem groups_off{B:Nat}{t:Tb}(h:NRow X p d T k none w)(hT:TAt T B t w):Calls Tryz.prog 34 #[.pointer (some ⟨X,0,none⟩)] w fun e w'=>e=.returned (.int .i64 (t.n:Nat))∧w=w':=by
 have a2:=table.groups_any T B t w hT;have cU:=cur_off h;clear h hT
 go_enter Tryz.func34,Tryz.ntmps34
 go_wp2_with (first
  | (go_at_call 52;refine cU.mono ?_;rintro e w1 ⟨rfl,rfl⟩)
  | (go_at_call 63;refine a2.mono ?_;rintro e w1 ⟨rfl,rfl⟩))
 go_ret
 exact⟨rfl,rfl⟩
theorem wants_on{D:Nat}(h:NRow X p d T k (some ⟨D,0,none⟩) w)(g:Int):Calls Tryz.prog 32 #[.pointer (some ⟨X,0,none⟩),.int .i64 g] w fun e w'=>e=.returned (.tuple #[.int .i64 0,.bool false])∧w=w':=by
 have c4:=h.c4;have hn:=dl_some;clear h
 go_enter Tryz.func32,Tryz.ntmps32
 go_wp2
 go_ret2
 exact⟨rfl,rfl⟩
theorem tombs_on{D:Nat}(h:NRow X p d T k (some ⟨D,0,none⟩) w):Calls Tryz.prog 72 #[.pointer (some ⟨X,0,none⟩)] w fun e w'=>e=.returned (.int .i64 0)∧w=w':=by
 have c4:=h.c4;have hn:=dl_some;clear h
 go_enter Tryz.func72,Tryz.ntmps72
 go_wp2
 go_ret
 exact⟨rfl,rfl⟩
theorem left_on{D:Nat}{x:Int}(h:NRow X p d T k (some ⟨D,0,none⟩) w)(hc:Calls Tryz.prog 81 #[.pointer (some ⟨D,0,none⟩)] w fun e w'=>e=.returned (.int .i64 x)∧Below w.heap.size w w'):Calls Tryz.prog 73 #[.pointer (some ⟨X,0,none⟩)] w fun e w'=>e=.returned (.int .i64 x)∧Below w.heap.size w w':=by
 have c4:=h.c4;have hn:=dl_some;clear h
 go_enter Tryz.func73,Tryz.ntmps73
 go_wp2_with (go_at_call 81;refine hc.mono ?_;rintro e w1 ⟨rfl,hb⟩)
 go_ret
 exact⟨rfl,hb⟩
theorem done_on{D:Nat}{x:Int}(h:NRow X p d T k (some ⟨D,0,none⟩) w)(hc:Calls Tryz.prog 81 #[.pointer (some ⟨D,0,none⟩)] w fun e w'=>e=.returned (.int .i64 x)∧Below w.heap.size w w'):Calls Tryz.prog 33 #[.pointer (some ⟨X,0,none⟩)] w fun e w'=>e=.returned (.bool (x==0))∧Below w.heap.size w w':=by
 have c4:=h.c4;have hn:=dl_some;clear h
 go_enter Tryz.func33,Tryz.ntmps33
 go_wp2_with (go_at_call 81;refine hc.mono ?_;rintro e w1 ⟨rfl,hb⟩)
 go_ret
 exact⟨rfl,hb⟩
theorem len_on{D:Nat}{x:Int}(h:NRow X p d T k (some ⟨D,0,none⟩) w)(hc:Calls Tryz.prog 219 #[.pointer (some ⟨D,0,none⟩)] w fun e w'=>e=.returned (.int .i64 x)∧w=w'):Calls Tryz.prog 35 #[.pointer (some ⟨X,0,none⟩)] w fun e w'=>e=.returned (.int .i64 x)∧w=w':=by
 have cU:=cur_on h;clear h
 go_enter Tryz.func35,Tryz.ntmps35
 go_wp2_with (first
  | (go_at_call 52;refine cU.mono ?_;rintro e w1 ⟨rfl,rfl⟩)
  | (go_at_call 219;refine hc.mono ?_;rintro e w1 ⟨rfl,rfl⟩))
 go_ret
 exact⟨rfl,rfl⟩
theorem groups_on{D:Nat}{x:Int}(h:NRow X p d T k (some ⟨D,0,none⟩) w)(hc:Calls Tryz.prog 217 #[.pointer (some ⟨D,0,none⟩)] w fun e w'=>e=.returned (.int .i64 x)∧w=w'):Calls Tryz.prog 34 #[.pointer (some ⟨X,0,none⟩)] w fun e w'=>e=.returned (.int .i64 x)∧w=w':=by
 have cU:=cur_on h;clear h
 go_enter Tryz.func34,Tryz.ntmps34
 go_wp2_with (first
  | (go_at_call 52;refine cU.mono ?_;rintro e w1 ⟨rfl,rfl⟩)
  | (go_at_call 217;refine hc.mono ?_;rintro e w1 ⟨rfl,rfl⟩))
 go_ret
 exact⟨rfl,rfl⟩
theorem step_on{D:Nat}{v:Value}{R:Bool→World→Prop}(h:NRow X p d T k (some ⟨D,0,none⟩) w)(hc:Calls Tryz.prog 75 #[.pointer (some ⟨D,0,none⟩),v] w fun e w'=>∃b,e=.returned (.bool b)∧R b w'):Calls Tryz.prog 29 #[.pointer (some ⟨X,0,none⟩),v] w fun e w'=>∃b,e=.returned (.bool b)∧R b w':=by
 have c4:=h.c4;have hn:=dl_some;clear h
 go_enter Tryz.func29,Tryz.ntmps29
 go_wp2_with (go_at_call 75;refine hc.mono ?_;rintro e w1 ⟨b,rfl,hb⟩)
 go_ret
 exact⟨b,rfl,hb⟩
end
theorem must_dual(v:Value)(w:World):Calls Tryz.prog 64 #[v,.nilIface] w fun e w'=>e=.returned v∧w=w':=by
 go_enter Tryz.func64,Tryz.ntmps64
 go_wp2_with (go_at_call 83;refine (raise_nil _).mono ?_;rintro e w1 ⟨rfl,rfl⟩)
 go_ret
 exact⟨rfl,rfl⟩
theorem must_tabs(v:Value)(w:World):Calls Tryz.prog 68 #[v,.nilIface] w fun e w'=>e=.returned v∧w=w':=by
 go_enter Tryz.func68,Tryz.ntmps68
 go_wp2_with (go_at_call 83;refine (raise_nil _).mono ?_;rintro e w1 ⟨rfl,rfl⟩)
 go_ret
 exact⟨rfl,rfl⟩
set_option maxRecDepth 20000 in
theorem nnew_yes(p d:Nat)(hd:d≤5)(hp:p<2^d)(w:World):Calls Tryz.prog 6 #[.int .i64 p,.int .i64 d] w fun e w'=>∃X T B,e=.returned (.tuple #[.pointer (some ⟨X,0,none⟩),.nilIface])∧NRow X p d T 0 none w'∧TAt T B (Tb.new 1) w'∧w.heap.size≤T∧w.heap.size≤B∧w.heap.size≤X∧X≠T∧X≠B∧Below w.heap.size w w':=by
 have cL:=fun W=>split.low_yes p d (by omega) hp W
 have cT:=fun W=>table.new_yes 1 (by decide) W
 have d1:decide (5<(d:Int))=false:=decide_eq_false (by omega)
 go_enter Tryz.func6,Tryz.ntmps6
 go_wp2_with (first
  | (go_at_call 36;refine (cL _).mono ?_;rintro e w1 ⟨rfl,rfl⟩)
  | (go_at_call 38;refine (cT _).mono ?_;rintro e w2 ⟨rfl,ht2,hb2⟩)
  | (go_at_call 37;refine (must_tab _ _).mono ?_;rintro e w3 ⟨rfl,rfl⟩))
 go_ret2
 have hz:=hb2.size;have hl:=ht2.lt;have hl2:=ht2.lb;exact⟨_,_,_,rfl,NRow.of_box p d (w.heap.size+1) 0 none w2,ht2.below (new_block w2 _),Nat.le_succ _,Nat.le_refl _,hz,by omega,by omega,under.below_step hb2 (new_block w2 _)⟩
set_option maxRecDepth 20000 in
theorem nnew_deep(p d:Int)(hd:5<d)(w:World)(er:Value)(he:w.cell? ⟨0,0,none⟩=some er):Calls Tryz.prog 6 #[.int .i64 p,.int .i64 d] w fun e w'=>e=.returned (.tuple #[.pointer none,er])∧Below w.heap.size w w':=by
 have d1:decide (5<d)=true:=decide_eq_true hd
 go_enter Tryz.func6,Tryz.ntmps6
 go_wp2
 go_quiet (fail)
 go_wp2
 go_ret2
 exact⟨rfl,below_drewN' _ _⟩
set_option maxRecDepth 20000 in
theorem nnew_far(p d:Int)(hd:d≤5)(hp:split.NoPrefix p d)(w:World)(x:Addr)(he:w.cell? ⟨0,0,none⟩=some (errs.errV x)):Calls Tryz.prog 6 #[.int .i64 p,.int .i64 d] w fun e w'=>e=.returned (.tuple #[.pointer none,errs.errV x])∧Below w.heap.size w w':=by
 have d1:decide (5<d)=false:=decide_eq_false (by omega);have cL:=split.low_no p d hp w _ he
 go_enter Tryz.func6,Tryz.ntmps6
 go_wp2_with (go_at_call 36;refine cL.mono ?_;rintro e w1 ⟨rfl,nq,rfl⟩)
 go_ret2
 exact⟨rfl,below_drewN' _ _⟩
section
variable {X p d T:Nat} {k:Int} {w:World}
theorem start_state{D:Nat}(h:NRow X p d T k (some ⟨D,0,none⟩) w)(kd:Int)(er:Value)(he:w.cell? ⟨2,0,none⟩=some er):Calls Tryz.prog 22 #[.pointer (some ⟨X,0,none⟩),.int .i64 kd] w fun e w'=>e=.returned er∧Below w.heap.size w w':=by
 have c4:=h.c4;have hn:=dl_some;clear h
 go_enter Tryz.func22,Tryz.ntmps22
 go_wp2
 go_ret
 exact⟨rfl,Below.refl _ _⟩
theorem start_bad{B:Nat}{t:Tb}{a:String→Addr}(h:NRow X p d T k none w)(hT:TAt T B t w)(hE:choose.KR a w)(hF:choose.FreshOk w)(kd:Int)(hx:choose.gx kd t.n≠0):Calls Tryz.prog 22 #[.pointer (some ⟨X,0,none⟩),.int .i64 kd] w fun e w'=>e=.returned (choose.ev a (choose.gx kd t.n))∧Below w.heap.size w w':=by
 have c2:=h.c2;have c4:=h.c4;have hn:=dl_none;have cG:=table.groups_any T B t w hT;have cC:=choose.groups_any kd t.n a w hE hF;have hv:∃x,choose.ev a (choose.gx kd t.n)=errs.errV x:=⟨_,by unfold choose.ev;rw [if_neg hx]⟩;clear h hT;obtain⟨x,hx'⟩:=hv;rw [hx'] at cC ⊢;generalize choose.ge kd t.n=g1 at *
 generalize choose.gm kd t.n=g2 at *
 generalize t.n=n at *
 go_enter Tryz.func22,Tryz.ntmps22
 go_wp2_with (first
  | (go_at_call 63;refine cG.mono ?_;rintro e w1 ⟨rfl,rfl⟩)
  | (go_at_call 62;refine cC.mono ?_;rintro e w2 ⟨rfl,hb2⟩))
 go_ret
 exact⟨rfl,hb2⟩
theorem start_range {B : Nat} {t : Tb} {a : String → Addr} (h : NRow X p 5 T k none w) (hT : TAt T B t w) (hE : choose.KR a w) (hF : choose.FreshOk w) (hx : choose.gx 3 t.n = 0) : Calls Tryz.prog 22 #[.pointer (some ⟨X, 0, none⟩), .int .i64 3] w fun e w' => e = .returned (errs.errV (a "ambler/api.ErrRange")) ∧ Below w.heap.size w w' := by
 have hN:=Lib.hid h;have c2:=h.c2;have c4:=h.c4;have hn:=dl_none;have hr:=hE.r;have cG:=table.groups_any T B t w hT;have cC:=choose.groups_any 3 t.n a w hE hF;rw [hx,choose.ev_none] at cC;have HE:=Lib.hid hE;clear h hT hE;generalize choose.ge 3 t.n=g1 at *
 generalize choose.gm 3 t.n=g2 at *
 generalize t.n=n at *
 go_enter Tryz.func22,Tryz.ntmps22
 go_wp2_with (first
  | (go_at_call 63;refine cG.mono ?_;rintro e w1 ⟨rfl,rfl⟩)
  | (go_at_call 62;refine cC.mono ?_;rintro e w2 ⟨rfl,hb2⟩;have y1:=(hN.out.keep hb2).c1;have y2:=(HE.out.below hb2).r))
 go_ret
 exact⟨rfl,hb2⟩
theorem start_yes{B:Nat}{t:Tb}{a:String→Addr}(h:NRow X p d T k none w)(hT:TAt T B t w)(hE:choose.KR a w)(hF:choose.FreshOk w)(kd:Int)(hx:choose.gx kd t.n=0)(hd:kd=3→d≠5){R:Nat→World→Prop}
  (hc:∀W,Below w.heap.size w W→Calls Tryz.prog 65 #[.pointer (some ⟨T,0,none⟩),.int .i64 (choose.ge kd t.n),.int .i64 (if kd=3 then (d:Int) else -1)] W fun e w'=>∃D,e=.returned (.tuple #[.pointer (some ⟨D,0,none⟩),.nilIface])∧R D w'∧Below W.heap.size W w') :
  Calls Tryz.prog 22 #[.pointer (some ⟨X,0,none⟩),.int .i64 kd] w fun e w'=>e=.returned .nilIface∧∃D w1,R D w1∧Below w.heap.size w w1∧w'=(w1.setCell ⟨X,3,none⟩ (.int .i64 kd)).setCell ⟨X,4,none⟩ (.pointer (some ⟨D,0,none⟩)):=by
 have hN:=Lib.hid h;have c2:=h.c2;have c4:=h.c4;have hn:=dl_none;have cG:=table.groups_any T B t w hT;have cC:=choose.groups_any kd t.n a w hE hF;rw [hx,choose.ev_none] at cC;clear h hT hE hF hx;generalize choose.ge kd t.n=g1 at *
 generalize choose.gm kd t.n=g2 at *
 generalize t.n=n at *
 by_cases h3:kd=3
 ·subst h3
  have hd5:((d:Int)==5)=false:=beq_eq_false_iff_ne.2 (by have:=hd rfl;omega);have hd5':(d==5)=false:=beq_eq_false_iff_ne.2 (hd rfl);rw [if_pos rfl] at hc
  go_enter Tryz.func22,Tryz.ntmps22
  go_wp2_with (first
   | (go_at_call 63;refine cG.mono ?_;rintro e w1 ⟨rfl,rfl⟩)
   | (go_at_call 62;refine cC.mono ?_;rintro e w2 ⟨rfl,hb2⟩;have y1:=(hN.out.keep hb2).c1;have y2:=(hN.out.keep hb2).c2)
   | (go_at_call 65;refine (hc _ hb2).mono ?_;rintro e w4 ⟨D,rfl,hR4,hb4⟩;have hn4:=(hN.out.keep hb2).keep hb4;have z3:=hn4.c3;have z4:=hn4.c4;have zf:=hn4.fz)
   | (go_at_call 64;refine (must_dual _ _).mono ?_;rintro e w5 ⟨rfl,rfl⟩))
  go_ret
  exact⟨rfl,D,_,hR4,under.below_step hb2 hb4,rfl⟩
 ·have h3':(kd==3)=false:=beq_eq_false_iff_ne.2 h3
  rw [if_neg h3] at hc
  go_enter Tryz.func22,Tryz.ntmps22
  go_wp2_with (first
   | (go_at_call 63;refine cG.mono ?_;rintro e w1 ⟨rfl,rfl⟩)
   | (go_at_call 62;refine cC.mono ?_;rintro e w2 ⟨rfl,hb2⟩;have y1:=(hN.out.keep hb2).c1;have y2:=(hN.out.keep hb2).c2)
   | (go_at_call 65;refine (hc _ hb2).mono ?_;rintro e w4 ⟨D,rfl,hR4,hb4⟩;have hn4:=(hN.out.keep hb2).keep hb4;have z3:=hn4.c3;have z4:=hn4.c4;have zf:=hn4.fz)
   | (go_at_call 64;refine (must_dual _ _).mono ?_;rintro e w5 ⟨rfl,rfl⟩))
  go_ret
  exact⟨rfl,D,_,hR4,under.below_step hb2 hb4,rfl⟩
theorem end_state{pd:Option Addr}(er:Value)(hc:Calls Tryz.prog 33 #[.pointer (some ⟨X,0,none⟩)] w fun e w'=>e=.returned (.bool false)∧Below w.heap.size w w')(he:w.cell? ⟨2,0,none⟩=some er):Calls Tryz.prog 24 #[.pointer (some ⟨X,0,none⟩)] w fun e w'=>e=.returned (.tuple #[.pointer none,er])∧Below w.heap.size w w':=by
 go_enter Tryz.func24,Tryz.ntmps24
 go_wp2_with (go_at_call 33;refine hc.mono ?_;rintro e w1 ⟨rfl,hb1⟩;have he1:=keepc hb1 he)
 go_quiet (fail)
 go_wp2
 go_ret2
 exact⟨rfl,under.below_step hb1 (below_drewN' _ _)⟩
section
variable {a:String→Addr} {w0:World} {Y:Lay} {D n1 dd q:Nat} {dp:Int} {t:Nat→Tb} {fp:List Nat}
theorem DAt.done_yes(hD:DAt a w0 Y D n1 dd dp q false t fp w)(hq:q=Y.n 0+(Y.N-1)*n1)(h:NRow X p d T k (some ⟨D,0,none⟩) w):Calls Tryz.prog 33 #[.pointer (some ⟨X,0,none⟩)] w fun e w'=>e=.returned (.bool true)∧Below w.heap.size w w':=by
 have cL:=hD.left;rw [hq,Nat.sub_self] at cL;exact done_on h cL
theorem DAt.done_no(hD:DAt a w0 Y D n1 dd dp q false t fp w)(hq:q<Y.n 0+(Y.N-1)*n1)(h:NRow X p d T k (some ⟨D,0,none⟩) w):Calls Tryz.prog 33 #[.pointer (some ⟨X,0,none⟩)] w fun e w'=>e=.returned (.bool false)∧Below w.heap.size w w':=by
 have cL:=hD.left;refine (done_on h cL).mono fun e w' ⟨he,hb⟩=>⟨?_,hb⟩
 rw [he]
 congr 2
 simp;omega
set_option maxRecDepth 20000 in
theorem end_one(h:NRow X p d T k (some ⟨D,0,none⟩) w)(hD:DAt a w0 Y D n1 dd dp q false t fp w)(hq:q=Y.n 0+(Y.N-1)*n1)(hN:Y.N=2)(hX:X∉fp)(hX0:w0.heap.size≤X):Calls Tryz.prog 24 #[.pointer (some ⟨X,0,none⟩)] w fun e w'=>e=.returned (.tuple #[.pointer none,.nilIface])∧NRow X p d (Y.T 1) 0 none w'∧Real a w0 Y t w'∧Past (X::fp) w w':=by
 have cD:=DAt.done_yes hD hq h;have HD:=Lib.hid hD;have HN:=Lib.hid h;have cT:=fun W (hb:Below w.heap.size w W)=>(HD.out.read hb).take_yes hq
 rw [hN] at cT;clear h hD
 go_enter Tryz.func24,Tryz.ntmps24
 go_wp2_with (first
  | (go_at_call 33;refine cD.mono ?_;rintro e w1 ⟨rfl,hb1⟩;have y4:=(HN.out.keep hb1).c4)
  | (go_at_call 69;refine (cT _ hb1).mono ?_;rintro e w2 ⟨GU,cU,rfl,hgu,nf,nt,hD2,hp2⟩;have hn2:=(HN.out.keep hb1).past hp2 hX;have g1:=hgu 1 (by decide) (by decide);have z2:=hn2.c2;have z3:=hn2.c3;have z4:=hn2.c4;have zf:=hn2.fz)
  | (go_at_call 68;refine (must_tabs _ _).mono ?_;rintro e w5 ⟨rfl,rfl⟩))
 go_ret2
 have hre:=hD2.re;have hpX:Past [X] w2 (((w2.setCell ⟨X,2,none⟩ (.pointer (some ⟨Y.T 1,0,none⟩))).setCell ⟨X,3,none⟩ (.int .i64 0)).setCell ⟨X,4,none⟩ (.pointer none)):=(((Past.refl [X] w2).store (.inl (by simp)) _).store (.inl (by simp)) _).store (.inl (by simp)) _;rw [show rdy Y n1 q=true from rdy_yes (by rw [hq];omega),cut_yes] at hre;refine⟨rfl,((hn2.set2 (Y.T 1)).set3 0).set4 none,hre.past hpX fun b hb=>?_,((Past.of hb1).trans (hp2.mono fun b hb=>List.mem_cons_of_mem _ hb)).trans (hpX.mono fun b hb=>?_)⟩
 ·obtain rfl:b=X:=by simpa using hb
  exact⟨hX0,fun e=>hX (HD.out.tin _ e)⟩
 ·obtain rfl:b=X:=by simpa using hb
  exact List.mem_cons_self
set_option maxRecDepth 20000 in
theorem end_two(h:NRow X p d T k (some ⟨D,0,none⟩) w)(hD:DAt a w0 Y D n1 dd dp q false t fp w)(hq:q=Y.n 0+(Y.N-1)*n1)(hN:Y.N=3)(hX:X∉fp)(hX0:w0.heap.size≤X)(hp16:p≤65536)(hd16:d≤16):Calls Tryz.prog 24 #[.pointer (some ⟨X,0,none⟩)] w fun e w'=>∃X',e=.returned (.tuple #[.pointer (some ⟨X',0,none⟩),.nilIface])∧w.heap.size≤X'∧NRow X (2*p) (d+1) (Y.T 1) 0 none w'∧NRow X' (2*p+1) (d+1) (Y.T 2) 0 none w'∧Real a w0 Y t w'∧Past (X::fp) w w':=by
 have cD:=DAt.done_yes hD hq h;have HD:=Lib.hid hD;have HN:=Lib.hid h;have cT:=fun W (hb:Below w.heap.size w W)=>(HD.out.read hb).take_yes hq
 rw [hN] at cT;clear h hD;have e1:wrap64 (2*(p:Int))=((2*p:Nat):Int):=by rw [IntWalk.wrap64_in _ (by omega)];omega
 have e2:wrap64 ((d:Int)+1)=((d+1:Nat):Int):=by rw [IntWalk.wrap64_in _ (by omega)];omega
 have e3:wrap64 (((2*p:Nat):Int)+1)=((2*p+1:Nat):Int):=by rw [IntWalk.wrap64_in _ (by omega)];omega
 go_enter Tryz.func24,Tryz.ntmps24
 go_wp2_with (first
  | (go_at_call 33;refine cD.mono ?_;rintro e w1 ⟨rfl,hb1⟩;have y4:=(HN.out.keep hb1).c4)
  | (go_at_call 69;refine (cT _ hb1).mono ?_;rintro e w2 ⟨GU,cU,rfl,hgu,nf,nt,hD2,hp2⟩;have hn2:=(HN.out.keep hb1).past hp2 hX;have g1:=hgu 1 (by decide) (by decide);have g2:=hgu 2 (by decide) (by decide);have z2:=hn2.c2;have z3:=hn2.c3;have z4:=hn2.c4;have zf:=hn2.fz)
  | (go_at_call 68;refine (must_tabs _ _).mono ?_;rintro e w5 ⟨rfl,rfl⟩))
 have hn3:=((hn2.set2 (Y.T 1)).set3 0).set4 none;have hpX:Past [X] w2 (((w2.setCell ⟨X,2,none⟩ (.pointer (some ⟨Y.T 1,0,none⟩))).setCell ⟨X,3,none⟩ (.int .i64 0)).setCell ⟨X,4,none⟩ (.pointer none)):=(((Past.refl [X] w2).store (.inl (by simp)) _).store (.inl (by simp)) _).store (.inl (by simp)) _;have u2:(((w2.setCell ⟨X,2,none⟩ (.pointer (some ⟨Y.T 1,0,none⟩))).setCell ⟨X,3,none⟩ (.int .i64 0)).setCell ⟨X,4,none⟩ (.pointer none)).cell? ⟨GU,1,none⟩=some (.pointer (some ⟨Y.T 2,0,none⟩)):=hpX.cell g2 (by simp only [List.mem_singleton];rintro rfl;exact hX nf);have hl2:=hn2.lt;have hre:=hD2.re;rw [show rdy Y n1 q=true from rdy_yes (by rw [hq];omega),cut_yes] at hre
 have hre3:=hre.past hpX fun b hb=>(by
  obtain rfl:b=X:=by simpa using hb
  exact⟨hX0,fun e=>hX (HD.out.tin _ e)⟩)
 have hpA:=((Past.of hb1).trans (hp2.mono fun b hb=>List.mem_cons_of_mem X hb)).trans (hpX.mono fun b hb=>by
  obtain rfl:b=X:=by simpa using hb
  exact List.mem_cons_self)
 have hxg:X≠GU:=by rintro rfl;exact hX nf
 generalize ((w2.setCell ⟨X,2,none⟩ (.pointer (some ⟨Y.T 1,0,none⟩))).setCell ⟨X,3,none⟩ (.int .i64 0)).setCell ⟨X,4,none⟩ (.pointer none)=w3 at *
 have k0:=hn3.c0;have k1:=hn3.c1;have kf:=hn3.fz;clear z2 z3 z4 zf g1 g2 cT cD y4
 go_region
 have q1:((2*p:Nat):Int)=2*(p:Int):=by omega
 have q2:((d+1:Nat):Int)=(d:Int)+1:=by omega
 have q3:((2*p+1:Nat):Int)=2*(p:Int)+1:=by omega
 have hn4:=(hn3.set0 (2*p)).set1 (d+1);simp only [q1,q2] at hn4;simp only [q1,q3] at e3;have hp4:Past [X] w3 (((w3.setCell ⟨X,0,none⟩ (.int .i64 (2*(p:Int)))).setCell ⟨X,1,none⟩ (.int .i64 ((d:Int)+1))).drew):=(((Past.refl [X] w3).store (.inl (by simp)) _).store (.inl (by simp)) _).trans (Past.of (under.drew_below _));have hn5:=hn4.keep (under.drew_below _);have u5:=hp4.cell u2 (by simp only [List.mem_singleton];exact fun e=>hxg e.symm)
 have hre5:=hre3.past hp4 fun b hb=>(by
  obtain rfl:b=X:=by simpa using hb
  exact⟨hX0,fun e=>hX (HD.out.tin _ e)⟩)
 have hp5:=hpA.trans (hp4.mono fun b hb=>by
  obtain rfl:b=X:=by simpa using hb
  exact List.mem_cons_self)
 generalize ((w3.setCell ⟨X,0,none⟩ (.int .i64 (2*(p:Int)))).setCell ⟨X,1,none⟩ (.int .i64 ((d:Int)+1))).drew=w5 at *
 have j0:w5.cell? ⟨X,0,none⟩=some (.int .i64 (2*(p:Int))):=by have:=hn5.c0;rwa [q1] at this
 have j1:w5.cell? ⟨X,1,none⟩=some (.int .i64 ((d:Int)+1)):=by have:=hn5.c1;rwa [q2] at this
 clear k0 k1 kf hn4 hp4 u2 e1 e2;go_wp2
 go_region
 go_wp2
 go_ret2
 have hnb:=NRow.of_box (2*p+1) (d+1) (Y.T 2) 0 none w5;simp only [q2,q3] at hnb;have hb6:=under.below_step (new_block w5 (.cells #[.int .i64 (2*(p:Int)+1),.int .i64 ((d:Int)+1),.pointer (some ⟨Y.T 2,0,none⟩),.int .i64 0,.pointer none] 92)) (under.drew_below _);exact⟨w5.heap.size,rfl,hp5.size,hn5.keep hb6,hnb.keep (under.drew_below _),hre5.read hb6,hp5.trans (Past.of hb6)⟩
end
end
end node
end Go.Proofs.YtdplhgpeggcmdaaGreatDoor
