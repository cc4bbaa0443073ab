/- NodeActsW: facts and laws for the walks. -/
import Derived.Test.YtdplhgpeggcmdaaGreatDoorNodeNz
import Derived.WalkHide
namespace Go.Proofs.YtdplhgpeggcmdaaGreatDoor
set_option linter.unusedSimpArgs false
set_option linter.unusedVariables false
open Go.ChangeShapes Go.WideShapes Go.ChangeAt Go.RowKit Go.Shelf swar under trap meter group probe lens tail call table evac dual
namespace node
attribute [local go_sem] Oper.semAt_some stage.pureUpon move.stepUpon movex.stepUpon
set_option maxRecDepth 100000 in
set_option maxHeartbeats 20000000 in
theorem acts_few (a:String → Addr) (dep:Nat) (s1:Option Addr) (lh ch:Nat) (s2:Option Addr) (lb cb:Nat) (h1:1 ≤ lh) (h2:lh ≤ 60) (h3:lb ≤ 120) (hd:dep ≤ 5) (hz:Nat → Nat) (az:Nat → Ac) (w:World) (hw:Base a w) (hb0:Bq a w) (hKR:choose.KR a w) (hFr:choose.FreshOk w) (hH:HashAt s1 lh w hz) (hA:ActAt s2 lb w az) :
  Calls Tryz.prog 3 #[.int .i64 dep,.slice s1 lh ch,.slice s2 lb cb] w fun e w'=>e=.returned (.bool true)∧Below w.heap.size w w':=by
 have cA:=alive_any a w hb0 hKR hFr;have cN:=fun W=>nnew_yes 0 dep hd (Nat.pos_of_ne_zero (by simp)) W
 have cR:=fun W=>rnnew_yes 0 dep hd (Nat.pos_of_ne_zero (by simp)) W
 have cE:∀W,Calls Tryz.prog 8 #[.nilIface] W fun e w'=>e=.returned (.int .i64 0)∧W=w':=fun W=>errs.num_nil W
 have d1:decide ((lh:Int)<1)=false:=decide_eq_false (by omega);have d2:decide (60<(lh:Int))=false:=decide_eq_false (by omega);have d3:decide (120<(lb:Int))=false:=decide_eq_false (by omega);have hns:=node_some;have hnn:=node_none;have hds:=rd_some;have hdn:=rd_none;have hqs:=qn_some;have hqn:=qn_none;have HW:=Lib.hid (And.intro hw (And.intro hb0 (And.intro hKR hFr)));have HH:=Lib.hid hH;have HA:=Lib.hid hA;clear hw hKR hFr hb0 hH hA
 go_enter Tryz.func3,Tryz.ntmps3
 go_wp2_with (first
  | (go_at_call 5;refine cA.mono ?_;rintro e w2 ⟨rfl,hb2⟩)
  | (go_at_call 6;refine (cN _).mono ?_;rintro e w3 ⟨X,T,B,rfl,hrow,hT3,k1,k2,k3,k4,k5,hb3⟩)
  | (go_at_call 7;refine (cR _).mono ?_;rintro e w5 ⟨Z,f,rfl,hqow,hwa,hf5,hZ5,hZd,hZG,hb5⟩;have hcx5:=keepc hb5 (newc w3 (.pointer (some ⟨X,0,none⟩)) 25))
  | (go_at_call 8;refine (cE _).mono ?_;rintro e w6 ⟨rfl,rfl⟩))
 have HB:=Lib.hid hb2;have hw2:=(HW.out.2.1).below hb2;have hbn:=new_block w3 (.cells #[.pointer (some ⟨X,0,none⟩)] 25);have hvn:=Var.new w3 (.pointer (some ⟨X,0,none⟩)) 25;have hbm:=two_new w5 (.cells #[.int .i64 0,.int .i64 0,.int .i64 0,.int .i64 0,.int .i64 0,.int .i64 0,.int .i64 0,.bool false] 38) (.cells #[.pointer (some ⟨w5.heap.size,0,none⟩)] 34);have hlX:=hrow.lt;have hlT:=hT3.lt;have hlB:=hT3.lb;have hlZ:=hqow.lt;have s2:=hb3.size;have s3:=hb5.size;rw [World.size_alloc] at s3;have hwl:=fun b hb=>hwa.lts (b:=b) hb
 have HI:=Lib.hid (show AR a w2 (hD lh dep hz) lh X Z w5.heap.size w3.heap.size (w5.heap.size+1) 0 ((w5.alloc (.cells #[.int .i64 0,.int .i64 0,.int .i64 0,.int .i64 0,.int .i64 0,.int .i64 0,.int .i64 0,.bool false] 38)).alloc (.cells #[.pointer (some ⟨w5.heap.size,0,none⟩)] 34)) from by
  have hvm:=Var.new (w5.alloc (.cells #[.int .i64 0,.int .i64 0,.int .i64 0,.int .i64 0,.int .i64 0,.int .i64 0,.int .i64 0,.bool false] 38)) (.pointer (some ⟨w5.heap.size,0,none⟩)) 34;rw [World.size_alloc] at hvm;refine⟨0,dep,NP.new (s:=w3.heap.size) (s2:=w5.heap.size) hw2 (under.below_step (under.below_step (under.below_step hb3 hbn) hb5) hbm) (((hrow.keep hbn).keep hb5).keep hbm) (((hT3.below hbn).below hb5).below hbm) (hqow.keep hbm) (hwa.below hbm) ((GM.new w5).read (new_block _ _)) ⟨k3,k1,k2,k4,k5⟩ ⟨hlX,hlT,hlB⟩ (fun b hb=>⟨?_,hwl b hb⟩) ⟨?_,hlZ,hZd,hZG⟩ (Nat.le_refl _) hd (fun b hb=>?_),((hvn.below hb5).below hbm),hvm⟩
  ·have:=hf5 b hb
   rw [World.size_alloc] at this;omega
  ·rw [World.size_alloc] at hZ5
   omega
  ·rw [World.size_alloc,World.size_alloc]
   rw [World.size_alloc] at hZ5 hf5;have hb':b=w3.heap.size∨b=w5.heap.size+1:=by simpa using hb
   have hG1:=hf5 f.G (.inr rfl);have hG2:=hwl f.G (.inr rfl);refine⟨by omega,fun e=>?_⟩;simp only [FI,List.mem_cons] at e
   rcases e with e|e|e|e|e|e|e
   ·omega
   ·omega
   ·omega
   ·omega
   ·omega
   ·omega
   ·have:=hf5 b (.inl e)
    have:=hwl b (.inl e)
    omega)
 have HBW:=Lib.hid (show Below w.heap.size w w2 from hb2);have HWW:=Lib.hid (And.intro (HW.out.2.2.1.below hb2) (HW.out.2.2.2.below hb2));have HHH:=Lib.hid (HH.out.below hb2);have HAA:=Lib.hid (HA.out.below hb2);have HB2:=Lib.hid (HW.out.1.below hb2)
 have HHb:=Lib.hid (show ∀key,key<lh→hD lh dep hz key<18446744073709551616 from fun key hk=>by
  unfold hD;rw [if_pos hk];obtain⟨_,_,h,_⟩:=HH.out key hk
  exact Nat.lt_of_le_of_lt (Nat.div_le_self _ _) h)
 clear cA cN cR cE HW HH HA HB hw2 hb2 hbn hvn hbm hrow hT3 hqow hwa hf5 hZ5 hZd hZG hb3 hb5 hcx5 k1 k2 k3 k4 k5 hwl;generalize (w5.alloc (.cells #[.int .i64 0,.int .i64 0,.int .i64 0,.int .i64 0,.int .i64 0,.int .i64 0,.int .i64 0,.bool false] 38)).alloc (.cells #[.pointer (some ⟨w5.heap.size,0,none⟩)] 34)=W0 at *
 generalize w5.heap.size+1=Xm at *
 generalize w5.heap.size=Bm at *
 generalize w3.heap.size=Xn at *
 go_loopw [86] (fun i wr=>∃j:Nat,j≤lb∧i=.int .i64 j∧Hid (AR a w2 (hD lh dep hz) lh X Z Bm Xn Xm j wr)) (fun i _=>lb-(intOf i).toNat)
 case atStart=>exact⟨0,by omega,rfl,HI⟩
 case round =>
  as_aux_lemma =>
   obtain⟨j,hj,rfl,HR⟩:=hrel;clear HI
   go_hideQ
   rcases Nat.lt_or_ge j lb with hjl|hjl
   ·obtain⟨⟨xa,rfl,hcs⟩,b1,b2,b3,b4⟩:=HAA.out j hjl
    obtain⟨p,d,hN,hvn,hvm⟩:=HR.out;obtain⟨c0,c1,c2⟩:=hcs _ hN.bel;have hji:(j:Int)<(lb:Int):=by omega
    have hkw:j+1≤lb:=by omega
    have hkz:kN (az j).key lh<lh:=kN_lt _ h1;obtain⟨xh,rfl,hzk,hxh⟩:=HHH.out _ hkz;have eH:hD lh dep hz (kN (az j).key lh)=hz (kN (az j).key lh)/2^dep:=if_pos hkz;have e1:=uN_cast (az j).key;obtain⟨er,ew,eu,ei⟩:=ent_num (az j).key h1 (by omega);have hvv:=uN_lt (az j).n;have en:=uN_cast (az j).n;generalize kN (az j).key lh=ki at *
    generalize uN (az j).key=uk at *
    generalize hz ki=hh at *
    generalize (az j).kind=kd at *
    generalize (az j).key=ky at *
    generalize uN (az j).n=vn at *
    generalize (az j).n=nn at *
    obtain⟨hs,hhs⟩:∃hs,hh/2^dep=hs:=⟨_,rfl⟩;have esh:=split.cast_div hh dep;rw [hhs] at eH esh;have hss:hs<18446744073709551616:=by rw [←hhs];exact Nat.lt_of_le_of_lt (Nat.div_le_self _ _) hzk
    have hki:(ki:Int)<(lh:Int):=Int.ofNat_lt.2 hkz;have hk1:ki<101:=Nat.lt_of_lt_of_le hkz (Nat.le_trans h2 (by decide));have hw64:=table.w64_small ki hk1;have hu64:=table.u64_small ki hk1;have hbA:=new_block wr (.cells #[.int .i64 kd,.int .i64 ky,.int .i64 nn] 40);have zA:=World.size_alloc wr (.cells #[.int .i64 kd,.int .i64 ky,.int .i64 nn] 40);have ⟨a0,a1,a2⟩:=act3 kd ky nn wr;have HE:=Lib.hid eH;have HN:=Lib.hid (And.intro hN (And.intro hvn hvm));have HXH:=Lib.hid hxh;have HES:=Lib.hid esh;have HBA:=Lib.hid hbA;have cx:=fun W (hb:Below wr.heap.size wr W)=>hxh W (under.below_step hN.bel hb)
    clear hN HR hcs b1 b2 b3 b4 eH hxh hbA hvn hvm hhs esh hk1
    go_upto_region 16 with (fail)
    generalize wr.alloc (.cells #[.int .i64 kd,.int .i64 ky,.int .i64 nn] 40)=w1 at *
    obtain⟨XA,hXA⟩:∃XA,wr.heap.size=XA:=⟨_,rfl⟩;rw [hXA] at a0 a1 a2 zA;simp only [hXA];have HXA:=Lib.hid hXA;clear hXA c0 c1 c2 e1 er ew eu ei hzk;have hxd:XD w1 [] (fun _ _=>True) ki vn hs ⟨0,none,false⟩ w1.drew:=XD.start trivial (Past.of (under.drew_below _));have hxg:XG w1 [] (fun _ _=>True):=⟨fun b hb=>(by cases hb),fun _ _ _ _ _=>trivial,fun _ _ _ _ _ _ _=>trivial⟩;have qa:∀y:movex.Un (XD w1 [] (fun _ _=>True) ki vn hs),y.W.cell? ⟨XA,2,none⟩=some (.int .i64 nn):=fun y=>y.h.past.cell a2 (by simp)
    have q0:∀y:movex.Un (XD w1 [] (fun _ _=>True) ki vn hs),y.W.cell? (xh.add ki)=some (.int .u64 (hh:Nat)):=fun y=>cx _ (under.below_step HBA.out y.h.past.nil)
    haveI : Nonempty (movex.Un (XD w1 [] (fun _ _=>True) ki vn hs)):=⟨⟨_,_,hxd⟩⟩
    have esh:=HES.out;clear cx;refine (wpIn_wide (n:=3)).1 ?_;refine movex.region (D:=XD w1 [] (fun _ _=>True) ki vn hs) (XM undef undef 99 12 13) 13 14 [false,false,false,false,false,false,false,false,false,false,false,false,true,true] [] (by kernel_rfl) (by kernel_rfl) (by kernel_rfl) (fun k s _=>XM.some _ _ _ _ _ k s) (fun i j hij=>by cases hij) ⟨0,none,false⟩ hxd ?_;simp only [List.take_succ_cons,List.take_zero,List.drop_succ_cons,List.drop_zero]
    iterate 11
     refine movex.pure_step (fun _ _ _=>trivial) (fun K hK=>?_);go_simp;refine hK _ ?_;clear hK K
    refine movex.build_step 44 [(0,.tmp 99),(1,.tmp 102),(2,.tmp 108)] [(0,.int .u64 (ki:Nat)),(1,.int .u64 (vn:Nat)),(2,.int .u64 (hs:Nat))] _ (fun _ _ _=>trivial) rfl rfl rfl (built_ent ki vn hs) ?_;simp only [Act.put,List.setIfInBounds_toArray,List.set_cons_succ,List.set_cons_zero];refine movex.move_step (fun _ _ _=>trivial) (by kernel_rfl) (fun sd wd hd=>?_) ?_
    ·go_simp
     exact⟨_,⟨_,rfl,rfl⟩,hd.put hxg⟩
    rintro _ _ ⟨XE,rfl,rfl⟩ K hK;refine hK _ ?_;clear hK K;refine movex.last_step (fun _ _ _=>trivial) (by kernel_rfl) (fun wd hd=>?_) ?_
    ·obtain⟨_,x',y',z',hB,_⟩:=hd.box XE rfl
     have g0:=hB.c0;have g1:=hB.c1;have g2:=hB.c2;have gf:=hB.fz;go_simp;exact⟨_,⟨rfl,rfl⟩,hd.set hxg rfl⟩
    rintro _ _ ⟨rfl,rfl⟩ K hK;refine hK _ ?_;clear hK K;refine movex.nil_step ?_;intro w5 hw5;obtain⟨hXE,x1,y1,z1,hE5,hE5'⟩:=hw5.box XE rfl;obtain⟨hx1,hy1,hz1⟩:=hE5' rfl;rw [hx1,hy1,hz1] at hE5;clear esh HES;have hNB:=HN.out.1.boxes HN.out.2.1 HN.out.2.2 HBA.out hw5.past.nil (XA:=XA) (XE:=XE) (by have:=HXA.out;omega) (by have:=HXA.out;omega) a0 a1 a2 hE5;have HN5:=Lib.hid hNB.1;have HB5:=Lib.hid hNB.2;clear hNB hE5 hE5' hx1 hy1 hz1 hXE hw5 q0 qa hxd hxg this a0 a1 a2 zA hw64 hu64 HN HBA HXA HXH;gi_wp2;have cP:=HN5.out.pref;have cW:=fun W=>split.within_yes hs p d hss (by have:=HN5.out.d5;omega) HN5.out.p2 W
    have xn:=HB5.out.pn.cell
    by_cases hwi:hs/2^(64-d)=p
    ·simp only [hwi,decide_true] at cW
     have HWI:=Lib.hid hwi;clear hwi
     go_upto_region 19 with (first
      | (go_at_call 9;refine cP.mono ?_;clear cP;rintro e w7 ⟨rfl,hb6⟩;have e2:=(HB5.out.read hb6).eb.c2)
      | (go_at_call 10;refine (cW _).mono ?_;rintro e w8 ⟨rfl,rfl⟩))
     have HN7:=Lib.hid (HN5.out.read hb6);have HB7:=Lib.hid (HB5.out.read hb6);clear e2 xn hb6 HN5 HB5 cW HWI;have va:=HB7.out.a0
     go_upto_block 2 with (fail)
     go_cut [18,19,20,21,22,23,24,25,26,27,28,29,30,31,32,33,34,35,36,37,38,39,40,41,42,43] from 123 to 343 (fun s18 s19 s20 s21 s22 s23 s24 s25 s26 s27 s28 s29 s30 s31 s32 s33 s34 s35 s36 s37 s38 s39 s40 s41 s42 s43 wx=>Hid (RM a w2 (hD lh dep hz) lh X Z Bm Xn Xm XA XE kd ky nn ki vn hs (220000*(j+1)) wx))
     case first =>
      as_aux_lemma =>
       by_cases k0:kd=0∨kd=1
       ·as_aux_lemma =>
         obtain⟨more,hm⟩:∃more,(kd==0)=more:=⟨_,rfl⟩
         have hc:more=true∨(kd==1)=true:=by
          rcases k0 with rfl|rfl
          ·exact .inl hm.symm
          ·exact .inr rfl
         have cP:=fun W (h:NP a w2 (hD lh dep hz) lh X Z Bm p d (220000*j) [XA,XE,Xn,Xm] W)=>h.put (by omega) HHb.out hkz hvv (by omega) more
         rw [HE.out] at cP;clear k0;cases more <;> simp only [Bool.false_eq_true,false_or,true_or] at hc
         all_goals as_aux_lemma =>
          have f5:=Under.cell HB7.out.pn.cell;have f8:=Under.cell HB7.out.pm.cell;have f0:=Under.cell HB7.out.eb.c0;have f1:=Under.cell HB7.out.eb.c1;have f2:=Under.cell HB7.out.eb.c2;have fa:=Under.cell HB7.out.a0;clear va
          go_upto_region 34 with (fail)
          refine one.wp_region_one 7 _ (by kernel_rfl) (by kernel_rfl) rfl ?_;simp only [List.take_succ_cons,List.take_zero,List.drop_succ_cons,List.drop_zero]
          repeat (quiet_step (first
           | (go_at_call 12;(with_reducible refine under_call (probing_any _ _ _)))))
          refine wpQuiet_nil ?_;intro y Kc hKc;have cPy:=cP _ (HN7.out.read y.below);have hB8:=HB7.out.read y.below;clear f5 f8 f0 f1 f2 fa cP;generalize y.W=w8 at *
          go_simp;refine cPy.mono ?_;clear cPy;rintro e w9 ⟨b,en',h16,rfl,hp9,hd9⟩;have hB9:=hB8.pk hp9 fun b hb=>hb
          go_simp;refine hKc _ _ ?_;clear hKc Kc hp9 hB8
          repeat (quiet_step (fail))
          refine wpQuiet_nil ?_;intro y3;have cD:=hd9 _ y3.below;have hB10:=hB9.read y3.below;clear hB9 hd9;generalize y3.W=w10 at *
          have g0:=hB10.eb.c0;have g1:=hB10.eb.c1;have g2:=hB10.eb.c2;have ga:=hB10.a0;have HB10:=Lib.hid hB10;clear hB10;have hbb:(b != b)=false:=by simp
          go_wp2_with (first
           | (go_at_call 13;refine cD.mono ?_;clear cD;rintro e w11 ⟨rfl,hp11,hn11⟩;have cE:=table.num_err a en' h16 w11 (HB2.out.below hn11.bel).errs;have HN11:=Lib.hid hn11;have HB11:=Lib.hid (HB10.out.pk hp11 fun b hb=>hb);clear hp11 hn11)
           | (go_at_call 8;refine cE.mono ?_;clear cE;rintro e w12 ⟨rfl,hb12⟩))
          go_meet;exact Lib.hid ⟨p,d,(HN11.out.read hb12).up (by omega),HB11.out.read hb12⟩
       ·by_cases k2:kd = 2
        ·as_aux_lemma =>
          subst k2;obtain⟨ek,ev,eh,ab,fp,GG,hCG⟩:=HN7.out.delG (by omega) HHb.out hkz (by omega);rw [HE.out] at hCG;have hxg:=hCG.xg;have hG0:GG 0 w7.drew:=hCG.g0 _ (under.drew_below _);have hnB:=hCG.kl;have HCG:=Lib.hid hCG;clear hCG va;have hxd:XD w7 (Bm::fp) GG ek ev eh ⟨0,none,false⟩ w7.drew:=XD.start hG0 (Past.of (under.drew_below _));have q5:∀y:movex.Un (XD w7 (Bm::fp) GG ek ev eh),y.W.cell? ⟨Xn,0,none⟩=some (.pointer (some ⟨X,0,none⟩)):=fun y=>y.h.past.cell HB7.out.pn.cell (hnB _ (by simp))
          have q8:∀y:movex.Un (XD w7 (Bm::fp) GG ek ev eh),y.W.cell? ⟨Xm,0,none⟩=some (.pointer (some ⟨Bm,0,none⟩)):=fun y=>y.h.past.cell HB7.out.pm.cell (hnB _ (by simp))
          have q0:∀y:movex.Un (XD w7 (Bm::fp) GG ek ev eh),y.W.cell? ⟨XE,0,none⟩=some (.int .u64 (ki:Nat)):=fun y=>y.h.past.cell HB7.out.eb.c0 (hnB _ (by simp))
          have q2:∀y:movex.Un (XD w7 (Bm::fp) GG ek ev eh),y.W.cell? ⟨XE,2,none⟩=some (.int .u64 (hs:Nat)):=fun y=>y.h.past.cell HB7.out.eb.c2 (hnB _ (by simp))
          have qa:∀y:movex.Un (XD w7 (Bm::fp) GG ek ev eh),y.W.cell? ⟨XA,2,none⟩=some (.int .i64 nn):=fun y=>y.h.past.cell HB7.out.a2 (hnB _ (by simp))
          haveI : Nonempty (movex.Un (XD w7 (Bm::fp) GG ek ev eh)):=⟨⟨_,_,hxd⟩⟩
          go_upto_region 39 with (fail)
          refine (wpIn_wide (n:=3)).1 ?_
          refine movex.region (D:=XD w7 (Bm::fp) GG ek ev eh) (XM (.agg #[.pointer (some ⟨Bm,0,none⟩)]) (.tuple #[group.entV ek ev eh,.bool ab]) 7 11 12) 12 14 [false,false,true,false,false,false,false,true,false,false,false,true,true,false] [(2,11),(7,11)] (by kernel_rfl) (by kernel_rfl) (by kernel_rfl) (fun k s _=>XM.some _ _ _ _ _ k s) (fun i j hij=>by
           simp only [List.mem_cons,Prod.mk.injEq,List.not_mem_nil,or_false] at hij
           rcases hij with⟨rfl,rfl⟩|⟨rfl,rfl⟩
           ·exact XM.free _ _ _ _ _ _ (by decide) (by decide)
           ·exact XM.free _ _ _ _ _ _ (by decide) (by decide)) ⟨0,none,false⟩ hxd ?_
          simp only [List.take_succ_cons,List.take_zero,List.drop_succ_cons,List.drop_zero]
          iterate 2
           refine movex.pure_step (fun _ _ _=>trivial) (fun K hK=>?_);go_simp;refine hK _ ?_;clear hK K
          refine movex.move_step (fun _ _ _=>trivial) (by kernel_rfl) (fun sd wd hd=>?_) ?_
          ·go_simp
           refine callsIn_wide.2 ((probing_any Bm 0 wd).mono ?_);rintro e' w' ⟨rfl,hb'⟩;exact⟨_,rfl,sd,⟨rfl,rfl⟩,hd.read hxg hb'⟩
          rintro _ _ ⟨rfl,rfl⟩ K hK;refine hK _ ?_;clear hK K
          iterate 4
           refine movex.pure_step (fun _ _ _=>trivial) (fun K hK=>?_);go_simp;refine hK _ ?_;clear hK K
          refine movex.move_step (fun _ _ _=>trivial) (by kernel_rfl) (fun sd wd hd=>?_) ?_
          ·go_simp
           refine callsIn_wide.2 ((HCG.out.call sd.n wd hd.g).mono ?_);rintro e' w' ⟨hp',v',rfl,hv',hg'⟩;exact⟨_,rfl,⟨sd.n+1,sd.al,sd.st⟩,⟨hv',rfl⟩,hd.next hxg hg' hp'⟩
          rintro _ _ ⟨hv9,rfl⟩ K hK;obtain rfl:=hv9 rfl;clear hv9;refine hK _ ?_;clear hK K
          iterate 3
           refine movex.pure_step (fun _ _ _=>trivial) (fun K hK=>?_);go_simp;refine hK _ ?_;clear hK K
          refine movex.move_step (fun _ _ _=>trivial) (by kernel_rfl) (fun sd wd hd=>?_) ?_
          ·go_simp
           exact⟨_,⟨_,rfl,rfl⟩,hd.put hxg⟩
          rintro _ _ ⟨xb,rfl,rfl⟩ K hK;refine hK _ ?_;clear hK K;refine movex.last_step (fun _ _ _=>trivial) (by kernel_rfl) (fun wd hd=>?_) ?_
          ·obtain⟨hb1,x1,y1,z1,hE1,-⟩:=hd.box xb rfl
           have e0:=hE1.c0;have e1:=hE1.c1;have e2:=hE1.c2;have e3:=hE1.fz;go_simp;exact⟨_,⟨rfl,rfl⟩,hd.set hxg rfl⟩
          rintro _ _ ⟨rfl,rfl⟩ K hK;refine hK _ ?_;clear hK K
          iterate 1
           refine movex.pure_step (fun _ _ _=>trivial) (fun K hK=>?_);go_simp;refine hK _ ?_;clear hK K
          refine movex.nil_step ?_;intro w9 hw9;clear q5 q8 q0 q2 qa this hxd hG0;obtain⟨hxb,x1,y1,z1,hE9,hE9'⟩:=hw9.box xb rfl;obtain⟨hx1,hx2,hx3⟩:=hE9' rfl;rw [hx1,hx2,hx3] at hE9;clear hx1 hx2 hx3;have hQ9:=HCG.out.fin w9 hw9.g hw9.past.size;have hB9:=HB7.out.past hw9.past hnB;have hz9:=hw9.past.size;have hxs:∀Z∈[XA,XE,Xn,Xm],Z≠xb:=fun Z hZ e=>by have:=HB7.out.lts Z hZ;omega
          clear hw9 hE9' hxg HCG hnB;gi_wp2
          have cR:=hQ9 [xb,XA,XE,Xn,Xm] (fun b hb=>by
           rcases List.mem_cons.1 hb with rfl|hb
           ·exact⟨.inr hxb,hE9.lt⟩
           ·exact⟨.inl hb,hB9.lts b hb⟩) w9 (Below.refl _ _)
          have g0:=hB9.eb.c0;have g2:=hB9.eb.c2;have HB9:=Lib.hid hB9;clear hB9 hQ9;have habb:(ab != ab)=false:=by simp
          have z0:=hE9.c0;have z1':=hE9.c1;have z2:=hE9.c2
          go_wp2_with (go_at_call 15;refine cR.mono ?_;clear cR;rintro e w11 ⟨rfl,hp11,hn11⟩;have hb11:=new_block w11 (.cells #[.int .u64 (ek:Nat),.int .u64 (ev:Nat),.int .u64 (eh:Nat)] 44);have HB11:=Lib.hid ((HB9.out.pk hp11 fun b hb=>List.mem_cons_of_mem _ hb).read hb11);have HN11:=Lib.hid ((hn11.kl' (KL':=[XA,XE,Xn,Xm]) fun b hb=>List.mem_cons_of_mem _ hb).read hb11);have hE11:=(EBox.pk hE9 hp11 List.mem_cons_self).keep hb11;have z0:=hE11.c0;have z1':=hE11.c1;have z2:=hE11.c2;clear hn11 hp11 hb11 hE11)
          go_meet;exact Lib.hid ⟨p,d,HN11.out.up (by omega),HB11.out⟩
        ·by_cases k3:kd = 3
         ·as_aux_lemma =>
           subst k3;obtain⟨l,fp,GG,hll,hCG⟩:=HN7.out.findG (by omega) HHb.out hkz;rw [HE.out] at hCG;have cL:=fun o c W (hE:EntsAt o l W)=>lfind_any o c l.length l rfl (by omega) ki W hE
           unfold sV2 at hCG;generalize (l.find? fun e=>e.key==ki)=so at *
           generalize table.sK so=ek at *
           generalize table.sV so=ev at *
           generalize table.sH so=eh at *
           generalize so.isSome=ab at *
           have CL:=Lib.hid cL;clear cL;have hxg:=hCG.xg;have hG0:GG 0 w7.drew:=hCG.g0 _ (under.drew_below _);have hnB:=hCG.kl;have HCG:=Lib.hid hCG;clear hCG va;have hxd:XD w7 (Bm::fp) GG ek ev eh ⟨0,none,false⟩ w7.drew:=XD.start hG0 (Past.of (under.drew_below _));have q5:∀y:movex.Un (XD w7 (Bm::fp) GG ek ev eh),y.W.cell? ⟨Xn,0,none⟩=some (.pointer (some ⟨X,0,none⟩)):=fun y=>y.h.past.cell HB7.out.pn.cell (hnB _ (by simp))
           have q8:∀y:movex.Un (XD w7 (Bm::fp) GG ek ev eh),y.W.cell? ⟨Xm,0,none⟩=some (.pointer (some ⟨Bm,0,none⟩)):=fun y=>y.h.past.cell HB7.out.pm.cell (hnB _ (by simp))
           have q0:∀y:movex.Un (XD w7 (Bm::fp) GG ek ev eh),y.W.cell? ⟨XE,0,none⟩=some (.int .u64 (ki:Nat)):=fun y=>y.h.past.cell HB7.out.eb.c0 (hnB _ (by simp))
           have q2:∀y:movex.Un (XD w7 (Bm::fp) GG ek ev eh),y.W.cell? ⟨XE,2,none⟩=some (.int .u64 (hs:Nat)):=fun y=>y.h.past.cell HB7.out.eb.c2 (hnB _ (by simp))
           have qa:∀y:movex.Un (XD w7 (Bm::fp) GG ek ev eh),y.W.cell? ⟨XA,2,none⟩=some (.int .i64 nn):=fun y=>y.h.past.cell HB7.out.a2 (hnB _ (by simp))
           haveI : Nonempty (movex.Un (XD w7 (Bm::fp) GG ek ev eh)):=⟨⟨_,_,hxd⟩⟩
           go_upto_region 44 with (fail)
           refine (wpIn_wide (n:=3)).1 ?_
           refine movex.region (D:=XD w7 (Bm::fp) GG ek ev eh) (XM (.agg #[.pointer (some ⟨Bm,0,none⟩)]) (.tuple #[group.entV ek ev eh,.bool ab]) 7 11 12) 12 14 [false,false,true,false,false,false,false,true,false,false,false,true,true,false] [(2,11),(7,11)] (by kernel_rfl) (by kernel_rfl) (by kernel_rfl) (fun k s _=>XM.some _ _ _ _ _ k s) (fun i j hij=>by
            simp only [List.mem_cons,Prod.mk.injEq,List.not_mem_nil,or_false] at hij
            rcases hij with⟨rfl,rfl⟩|⟨rfl,rfl⟩
            ·exact XM.free _ _ _ _ _ _ (by decide) (by decide)
            ·exact XM.free _ _ _ _ _ _ (by decide) (by decide)) ⟨0,none,false⟩ hxd ?_
           simp only [List.take_succ_cons,List.take_zero,List.drop_succ_cons,List.drop_zero]
           iterate 2
            refine movex.pure_step (fun _ _ _=>trivial) (fun K hK=>?_);go_simp;refine hK _ ?_;clear hK K
           refine movex.move_step (fun _ _ _=>trivial) (by kernel_rfl) (fun sd wd hd=>?_) ?_
           ·go_simp
            refine callsIn_wide.2 ((probing_any Bm 0 wd).mono ?_);rintro e' w' ⟨rfl,hb'⟩;exact⟨_,rfl,sd,⟨rfl,rfl⟩,hd.read hxg hb'⟩
           rintro _ _ ⟨rfl,rfl⟩ K hK;refine hK _ ?_;clear hK K
           iterate 4
            refine movex.pure_step (fun _ _ _=>trivial) (fun K hK=>?_);go_simp;refine hK _ ?_;clear hK K
           refine movex.move_step (fun _ _ _=>trivial) (by kernel_rfl) (fun sd wd hd=>?_) ?_
           ·go_simp
            refine callsIn_wide.2 ((HCG.out.call sd.n wd hd.g).mono ?_);rintro e' w' ⟨hp',v',rfl,hv',hg'⟩;exact⟨_,rfl,⟨sd.n+1,sd.al,sd.st⟩,⟨hv',rfl⟩,hd.next hxg hg' hp'⟩
           rintro _ _ ⟨hv9,rfl⟩ K hK;obtain rfl:=hv9 rfl;clear hv9;refine hK _ ?_;clear hK K
           iterate 3
            refine movex.pure_step (fun _ _ _=>trivial) (fun K hK=>?_);go_simp;refine hK _ ?_;clear hK K
           refine movex.move_step (fun _ _ _=>trivial) (by kernel_rfl) (fun sd wd hd=>?_) ?_
           ·go_simp
            exact⟨_,⟨_,rfl,rfl⟩,hd.put hxg⟩
           rintro _ _ ⟨xb,rfl,rfl⟩ K hK;refine hK _ ?_;clear hK K;refine movex.last_step (fun _ _ _=>trivial) (by kernel_rfl) (fun wd hd=>?_) ?_
           ·obtain⟨hb1,x1,y1,z1,hE1,-⟩:=hd.box xb rfl
            have e0:=hE1.c0;have e1:=hE1.c1;have e2:=hE1.c2;have e3:=hE1.fz;go_simp;exact⟨_,⟨rfl,rfl⟩,hd.set hxg rfl⟩
           rintro _ _ ⟨rfl,rfl⟩ K hK;refine hK _ ?_;clear hK K
           iterate 1
            refine movex.pure_step (fun _ _ _=>trivial) (fun K hK=>?_);go_simp;refine hK _ ?_;clear hK K
           refine movex.nil_step ?_;intro w9 hw9;clear q5 q8 q0 q2 qa this hxd hG0;obtain⟨hxb,x1,y1,z1,hE9,hE9'⟩:=hw9.box xb rfl;obtain⟨hx1,hx2,hx3⟩:=hE9' rfl;rw [hx1,hx2,hx3] at hE9;clear hx1 hx2 hx3;have hQ9:=HCG.out.fin w9 hw9.g hw9.past.size;have hB9:=HB7.out.past hw9.past hnB;have hz9:=hw9.past.size;have hxs:∀Z∈[XA,XE,Xn,Xm],Z≠xb:=fun Z hZ e=>by have:=HB7.out.lts Z hZ;omega
           clear hw9 hE9' hxg HCG hnB;gi_wp2;have u2:=hB9.eb.c0;have cA:=fun W (hb:Below w9.heap.size w9 W)=>(hQ9.2 W hb).2
           have lxb:=hE9.lt;have HN9:=Lib.hid hQ9.1;have HB9:=Lib.hid hB9;have HE9:=Lib.hid hE9;have HXS:=Lib.hid hxs;have cL:=CL.out;have nA:∀Z∈[XA,XE,Xn,Xm],Z≠w9.heap.size:=fun Z hZ e=>by have:=HB9.out.lts Z hZ;omega
           clear hQ9 hB9 hE9 hxs CL;clear HHH HAA HBW HB2 HHb
           go_upto_region 45 with (fail)
           go_region_held3 (fun w'=>w'.cell? ⟨XE,0,none⟩=some (.int .u64 (ki:Nat)))
            (first
             | (with_reducible exact u2)
             | (with_reducible exact keepc (under.drew_below w9) u2)
             | (with_reducible exact keepc (below_drewN' w9 _) u2)
             | (with_reducible exact CB.eb.c0)
             | (with_reducible exact CA.eb.c0)
             | (with_reducible exact (CA.read (new_block wA _)).eb.c0)
             | (with_reducible exact (CB.read (new_block wB _)).eb.c0)
             | (with_reducible exact (CB.set (x:=w9.heap.size) nA _ _ _).eb.c0)
             | (with_reducible exact (CB.set (x:=wA.heap.size) nB _ _ _).eb.c0)
             | (with_reducible exact keepc (under.below_step (new_block w9 _) (under.drew_below (w9.alloc _))) u2)
             | (with_reducible exact keepc (new_block w9 _) u2)
             | (with_reducible exact keepc (under.below_step (under.drew_below w9) (new_block w9.drew _)) u2)
             | go_keep)
            (first
             | (go_at_call 18;(with_reducible refine Calls.mono (cA _ (under.drew_below w9)) ?_);rintro e wA ⟨vA,rfl,hKA,hbA⟩;have hb7:Below w9.heap.size w9 wA:=under.below_step (under.drew_below w9) hbA;have CA:=HB9.out.read hb7;have nB:∀Z∈[XA,XE,Xn,Xm],Z≠wA.heap.size:=(fun Z hZ e=>by have:=CA.lts Z hZ;omega);have hzA:=hb7.size;obtain⟨oA,ccA,rfl,hEA'⟩:=hKA.rows;have hEA:EntsAt oA l wA:=hEA')
             | (go_at_call 18;(with_reducible refine Calls.mono (cA _ (under.below_step (new_block w9 (.cells #[.int .u64 0,.int .u64 0,.int .u64 0] 44)) (under.drew_below (w9.alloc (.cells #[.int .u64 0,.int .u64 0,.int .u64 0] 44))))) ?_);rintro e wA ⟨vA,rfl,hKA,hbA⟩;have hb7:Below w9.heap.size w9 wA:=under.below_step (under.below_step (new_block w9 (.cells #[.int .u64 0,.int .u64 0,.int .u64 0] 44)) (under.drew_below (w9.alloc (.cells #[.int .u64 0,.int .u64 0,.int .u64 0] 44)))) hbA;have CA:=HB9.out.read hb7;have nB:∀Z∈[XA,XE,Xn,Xm],Z≠wA.heap.size:=(fun Z hZ e=>by have:=CA.lts Z hZ;omega);have hzA:=hb7.size;obtain⟨oA,ccA,rfl,hEA'⟩:=hKA.rows;have hEA:EntsAt oA l wA:=hEA';have zA:EBox w9.heap.size 0 0 0 wA:=(EBox.new 0 0 0 w9).keep (under.below_step (under.drew_below _) hbA))
             | (go_at_call 17;(with_reducible refine Calls.mono (cL _ _ _ hEA) ?_);rintro e wB ⟨rfl,hbB⟩;have CB:=CA.read hbB;have hbf:=under.below_step hb7 hbB;try (have zB:EBox w9.heap.size 0 0 0 wB:=zA.keep hbB;have g0:=zB.c0;have g1:=zB.c1;have g2:=zB.c2;have gf:=zB.fz))
             | (go_at_call 17;(with_reducible refine Calls.mono (cL _ _ _ (EntsAt.read hEA (new_block wA _))) ?_);rintro e wB ⟨rfl,hbB⟩;have CB:=(CA.read (new_block wA _)).read hbB;have hbf:=under.below_step (under.below_step hb7 (new_block wA _)) hbB;have zB:EBox wA.heap.size 0 0 0 wB:=(EBox.new 0 0 0 wA).keep hbB;have g0:=zB.c0;have g1:=zB.c1;have g2:=zB.c2;have gf:=zB.fz))
           all_goals first
            | (have F:=EF.set3 (l:=[XA,XE,Xn,Xm]) HE9.out zB hbf (Nat.le_refl _) nA lxb;obtain⟨wf,hwf⟩:∃wf,table.set3 w9.heap.size ek ev eh wB=wf:=⟨_,rfl⟩;rw [hwf] at F;unfold table.set3 at hwf;rw [hwf];clear hwf;generalize w9.heap.size=Yb at F ⊢)
            | (have F:=EF.set3 (l:=[XA,XE,Xn,Xm]) HE9.out zB hbf hzA nB lxb;obtain⟨wf,hwf⟩:∃wf,table.set3 wA.heap.size ek ev eh wB=wf:=⟨_,rfl⟩;rw [hwf] at F;unfold table.set3 at hwf;rw [hwf];clear hwf;generalize wA.heap.size=Yb at F ⊢)
            | (have F:=EF.alloc HE9.out hbf (fun Z hZ e=>by have:=CB.lts Z hZ;omega:∀Z∈[XA,XE,Xn,Xm],Z≠wB.heap.size);generalize wB.alloc (.cells #[.int .u64 (ek:Nat),.int .u64 (ev:Nat),.int .u64 (eh:Nat)] 44)=wf at F ⊢;generalize wB.heap.size=Yb at F ⊢)
           all_goals
            clear nA cA cL lxb HE9;have z0:=F.1.c0;have z1:=F.1.c1;have z2:=F.1.c2;have y0:=F.2.1.c0;have y1:=F.2.1.c1;have y2:=F.2.1.c2;have habb:(ab != ab)=false:=by simp
            have HF:=Lib.hid F.2.2;clear F
            go_wp2_with (fail)
            go_meet;exact Lib.hid ⟨p,d,(HN9.out.aside HF.out.1 fun b hb=>by obtain rfl:b=Yb:=(by simpa using hb);exact⟨Nat.le_trans HN9.out.bel.size HF.out.2.1,.inr HF.out.2.1⟩).up (by omega),HB9.out.new HF.out.1 fun b hb=>by obtain rfl:b=Yb:=(by simpa using hb);exact HF.out.2.1⟩
         ·by_cases k4:kd = 4
          ·as_aux_lemma =>
            subst k4;obtain⟨l,fp,GG,hll,hCG⟩:=HN7.out.leastG hs vn;have cL:=fun o c W (hE:EntsAt o l W)=>rtleast_any o c l.length l rfl (by omega) hs vn W hE
            unfold sV2 at hCG;generalize lfold hs vn none l=so at *
            generalize table.sK so=ek at *
            generalize table.sV so=ev at *
            generalize table.sH so=eh at *
            generalize so.isSome=ab at *
            have CL:=Lib.hid cL;clear cL;have hxg:=hCG.xg;have hG0:GG 0 w7.drew:=hCG.g0 _ (under.drew_below _);have hnB:=hCG.kl;have HCG:=Lib.hid hCG;clear hCG va;have hxd:XD w7 (Bm::fp) GG ek ev eh ⟨0,none,false⟩ w7.drew:=XD.start hG0 (Past.of (under.drew_below _));have q5:∀y:movex.Un (XD w7 (Bm::fp) GG ek ev eh),y.W.cell? ⟨Xn,0,none⟩=some (.pointer (some ⟨X,0,none⟩)):=fun y=>y.h.past.cell HB7.out.pn.cell (hnB _ (by simp))
            have q8:∀y:movex.Un (XD w7 (Bm::fp) GG ek ev eh),y.W.cell? ⟨Xm,0,none⟩=some (.pointer (some ⟨Bm,0,none⟩)):=fun y=>y.h.past.cell HB7.out.pm.cell (hnB _ (by simp))
            have q0:∀y:movex.Un (XD w7 (Bm::fp) GG ek ev eh),y.W.cell? ⟨XE,0,none⟩=some (.int .u64 (ki:Nat)):=fun y=>y.h.past.cell HB7.out.eb.c0 (hnB _ (by simp))
            have q2:∀y:movex.Un (XD w7 (Bm::fp) GG ek ev eh),y.W.cell? ⟨XE,2,none⟩=some (.int .u64 (hs:Nat)):=fun y=>y.h.past.cell HB7.out.eb.c2 (hnB _ (by simp))
            have qa:∀y:movex.Un (XD w7 (Bm::fp) GG ek ev eh),y.W.cell? ⟨XA,2,none⟩=some (.int .i64 nn):=fun y=>y.h.past.cell HB7.out.a2 (hnB _ (by simp))
            haveI : Nonempty (movex.Un (XD w7 (Bm::fp) GG ek ev eh)):=⟨⟨_,_,hxd⟩⟩
            go_upto_region 49 with (fail)
            refine (wpIn_wide (n:=3)).1 ?_
            refine movex.region (D:=XD w7 (Bm::fp) GG ek ev eh) (XM (.agg #[.pointer (some ⟨Bm,0,none⟩)]) (.tuple #[group.entV ek ev eh,.bool ab]) 8 12 13) 13 15 [false,false,true,false,false,false,false,false,true,false,false,false,true,true,false] [(2,12),(8,12)] (by kernel_rfl) (by kernel_rfl) (by kernel_rfl) (fun k s _=>XM.some _ _ _ _ _ k s) (fun i j hij=>by
             simp only [List.mem_cons,Prod.mk.injEq,List.not_mem_nil,or_false] at hij
             rcases hij with⟨rfl,rfl⟩|⟨rfl,rfl⟩
             ·exact XM.free _ _ _ _ _ _ (by decide) (by decide)
             ·exact XM.free _ _ _ _ _ _ (by decide) (by decide)) ⟨0,none,false⟩ hxd ?_
            simp only [List.take_succ_cons,List.take_zero,List.drop_succ_cons,List.drop_zero]
            iterate 2
             refine movex.pure_step (fun _ _ _=>trivial) (fun K hK=>?_);go_simp;refine hK _ ?_;clear hK K
            refine movex.move_step (fun _ _ _=>trivial) (by kernel_rfl) (fun sd wd hd=>?_) ?_
            ·go_simp
             refine callsIn_wide.2 ((probing_any Bm 0 wd).mono ?_);rintro e' w' ⟨rfl,hb'⟩;exact⟨_,rfl,sd,⟨rfl,rfl⟩,hd.read hxg hb'⟩
            rintro _ _ ⟨rfl,rfl⟩ K hK;refine hK _ ?_;clear hK K
            iterate 5
             refine movex.pure_step (fun _ _ _=>trivial) (fun K hK=>?_);go_simp;refine hK _ ?_;clear hK K
            refine movex.move_step (fun _ _ _=>trivial) (by kernel_rfl) (fun sd wd hd=>?_) ?_
            ·go_simp
             refine callsIn_wide.2 ((HCG.out.call sd.n wd hd.g).mono ?_);rintro e' w' ⟨hp',v',rfl,hv',hg'⟩;exact⟨_,rfl,⟨sd.n+1,sd.al,sd.st⟩,⟨hv',rfl⟩,hd.next hxg hg' hp'⟩
            rintro _ _ ⟨hv9,rfl⟩ K hK;obtain rfl:=hv9 rfl;clear hv9;refine hK _ ?_;clear hK K
            iterate 3
             refine movex.pure_step (fun _ _ _=>trivial) (fun K hK=>?_);go_simp;refine hK _ ?_;clear hK K
            refine movex.move_step (fun _ _ _=>trivial) (by kernel_rfl) (fun sd wd hd=>?_) ?_
            ·go_simp
             exact⟨_,⟨_,rfl,rfl⟩,hd.put hxg⟩
            rintro _ _ ⟨xb,rfl,rfl⟩ K hK;refine hK _ ?_;clear hK K;refine movex.last_step (fun _ _ _=>trivial) (by kernel_rfl) (fun wd hd=>?_) ?_
            ·obtain⟨hb1,x1,y1,z1,hE1,-⟩:=hd.box xb rfl
             have e0:=hE1.c0;have e1:=hE1.c1;have e2:=hE1.c2;have e3:=hE1.fz;go_simp;exact⟨_,⟨rfl,rfl⟩,hd.set hxg rfl⟩
            rintro _ _ ⟨rfl,rfl⟩ K hK;refine hK _ ?_;clear hK K
            iterate 1
             refine movex.pure_step (fun _ _ _=>trivial) (fun K hK=>?_);go_simp;refine hK _ ?_;clear hK K
            refine movex.nil_step ?_;intro w9 hw9;clear q5 q8 q0 q2 qa this hxd hG0;obtain⟨hxb,x1,y1,z1,hE9,hE9'⟩:=hw9.box xb rfl;obtain⟨hx1,hx2,hx3⟩:=hE9' rfl;rw [hx1,hx2,hx3] at hE9;clear hx1 hx2 hx3;have hQ9:=HCG.out.fin w9 hw9.g hw9.past.size;have hB9:=HB7.out.past hw9.past hnB;have hz9:=hw9.past.size;have hxs:∀Z∈[XA,XE,Xn,Xm],Z≠xb:=fun Z hZ e=>by have:=HB7.out.lts Z hZ;omega
            clear hw9 hE9' hxg HCG hnB;gi_wp2;have u2:=hB9.eb.c2;have b2:=hB9.a2;have cA:=fun W (hb:Below w9.heap.size w9 W)=>(hQ9.2 W hb).2
            have lxb:=hE9.lt;have HN9:=Lib.hid hQ9.1;have HB9:=Lib.hid hB9;have HE9:=Lib.hid hE9;have HXS:=Lib.hid hxs;have cL:=CL.out;have nA:∀Z∈[XA,XE,Xn,Xm],Z≠w9.heap.size:=fun Z hZ e=>by have:=HB9.out.lts Z hZ;omega
            clear hQ9 hB9 hE9 hxs CL;clear HHH HAA HBW HB2 HHb
            go_upto_region 50 with (fail)
            go_region_held3 (fun w'=>w'.cell? ⟨XE,2,none⟩=some (.int .u64 (hs:Nat))∧w'.cell? ⟨XA,2,none⟩=some (.int .i64 nn))
             (first
              | (with_reducible exact⟨u2,b2⟩)
              | (with_reducible exact⟨keepc (under.drew_below w9) u2,keepc (under.drew_below w9) b2⟩)
              | (with_reducible exact⟨keepc (below_drewN' w9 _) u2,keepc (below_drewN' w9 _) b2⟩)
              | (with_reducible exact⟨CB.eb.c2,CB.a2⟩)
              | (with_reducible exact⟨CA.eb.c2,CA.a2⟩)
              | (with_reducible exact⟨(CA.read (new_block wA _)).eb.c2,(CA.read (new_block wA _)).a2⟩)
              | (with_reducible exact⟨(CB.read (new_block wB _)).eb.c2,(CB.read (new_block wB _)).a2⟩)
              | (with_reducible exact⟨(CB.set (x:=w9.heap.size) nA _ _ _).eb.c2,(CB.set (x:=w9.heap.size) nA _ _ _).a2⟩)
              | (with_reducible exact⟨(CB.set (x:=wA.heap.size) nB _ _ _).eb.c2,(CB.set (x:=wA.heap.size) nB _ _ _).a2⟩)
              | (with_reducible exact⟨keepc (under.below_step (new_block w9 _) (under.drew_below (w9.alloc _))) u2,keepc (under.below_step (new_block w9 _) (under.drew_below (w9.alloc _))) b2⟩)
              | (with_reducible exact⟨keepc (new_block w9 _) u2,keepc (new_block w9 _) b2⟩)
              | (with_reducible exact⟨keepc (under.below_step (under.drew_below w9) (new_block w9.drew _)) u2,keepc (under.below_step (under.drew_below w9) (new_block w9.drew _)) b2⟩)
              | go_keep)
             (first
              | (go_at_call 18;(with_reducible refine Calls.mono (cA _ (under.drew_below w9)) ?_);rintro e wA ⟨vA,rfl,hKA,hbA⟩;have hb7:Below w9.heap.size w9 wA:=under.below_step (under.drew_below w9) hbA;have CA:=HB9.out.read hb7;have nB:∀Z∈[XA,XE,Xn,Xm],Z≠wA.heap.size:=(fun Z hZ e=>by have:=CA.lts Z hZ;omega);have hzA:=hb7.size;obtain⟨oA,ccA,rfl,hEA'⟩:=hKA.rows;have hEA:EntsAt oA l wA:=hEA')
              | (go_at_call 18;(with_reducible refine Calls.mono (cA _ (under.below_step (new_block w9 (.cells #[.int .u64 0,.int .u64 0,.int .u64 0] 44)) (under.drew_below (w9.alloc (.cells #[.int .u64 0,.int .u64 0,.int .u64 0] 44))))) ?_);rintro e wA ⟨vA,rfl,hKA,hbA⟩;have hb7:Below w9.heap.size w9 wA:=under.below_step (under.below_step (new_block w9 (.cells #[.int .u64 0,.int .u64 0,.int .u64 0] 44)) (under.drew_below (w9.alloc (.cells #[.int .u64 0,.int .u64 0,.int .u64 0] 44)))) hbA;have CA:=HB9.out.read hb7;have nB:∀Z∈[XA,XE,Xn,Xm],Z≠wA.heap.size:=(fun Z hZ e=>by have:=CA.lts Z hZ;omega);have hzA:=hb7.size;obtain⟨oA,ccA,rfl,hEA'⟩:=hKA.rows;have hEA:EntsAt oA l wA:=hEA';have zA:EBox w9.heap.size 0 0 0 wA:=(EBox.new 0 0 0 w9).keep (under.below_step (under.drew_below _) hbA))
              | (go_at_call 20;(with_reducible refine Calls.mono (cL _ _ _ hEA) ?_);rintro e wB ⟨rfl,hbB⟩;have CB:=CA.read hbB;have hbf:=under.below_step hb7 hbB;try (have zB:EBox w9.heap.size 0 0 0 wB:=zA.keep hbB;have g0:=zB.c0;have g1:=zB.c1;have g2:=zB.c2;have gf:=zB.fz))
              | (go_at_call 20;(with_reducible refine Calls.mono (cL _ _ _ (EntsAt.read hEA (new_block wA _))) ?_);rintro e wB ⟨rfl,hbB⟩;have CB:=(CA.read (new_block wA _)).read hbB;have hbf:=under.below_step (under.below_step hb7 (new_block wA _)) hbB;have zB:EBox wA.heap.size 0 0 0 wB:=(EBox.new 0 0 0 wA).keep hbB;have g0:=zB.c0;have g1:=zB.c1;have g2:=zB.c2;have gf:=zB.fz))
            all_goals first
             | (have F:=EF.set3 (l:=[XA,XE,Xn,Xm]) HE9.out zB hbf (Nat.le_refl _) nA lxb;obtain⟨wf,hwf⟩:∃wf,table.set3 w9.heap.size ek ev eh wB=wf:=⟨_,rfl⟩;rw [hwf] at F;unfold table.set3 at hwf;rw [hwf];clear hwf;generalize w9.heap.size=Yb at F ⊢)
             | (have F:=EF.set3 (l:=[XA,XE,Xn,Xm]) HE9.out zB hbf hzA nB lxb;obtain⟨wf,hwf⟩:∃wf,table.set3 wA.heap.size ek ev eh wB=wf:=⟨_,rfl⟩;rw [hwf] at F;unfold table.set3 at hwf;rw [hwf];clear hwf;generalize wA.heap.size=Yb at F ⊢)
             | (have F:=EF.alloc HE9.out hbf (fun Z hZ e=>by have:=CB.lts Z hZ;omega:∀Z∈[XA,XE,Xn,Xm],Z≠wB.heap.size);generalize wB.alloc (.cells #[.int .u64 (ek:Nat),.int .u64 (ev:Nat),.int .u64 (eh:Nat)] 44)=wf at F ⊢;generalize wB.heap.size=Yb at F ⊢)
            all_goals
             clear nA cA cL lxb HE9;have z0:=F.1.c0;have z1:=F.1.c1;have z2:=F.1.c2;have y0:=F.2.1.c0;have y1:=F.2.1.c1;have y2:=F.2.1.c2;have habb:(ab != ab)=false:=by simp
             have HF:=Lib.hid F.2.2;clear F
             go_wp2_with (fail)
             go_meet;exact Lib.hid ⟨p,d,(HN9.out.aside HF.out.1 fun b hb=>by obtain rfl:b=Yb:=(by simpa using hb);exact⟨Nat.le_trans HN9.out.bel.size HF.out.2.1,.inr HF.out.2.1⟩).up (by omega),HB9.out.new HF.out.1 fun b hb=>by obtain rfl:b=Yb:=(by simpa using hb);exact HF.out.2.1⟩
          ·by_cases k5:kd = 5 ∨ kd = 6
           ·as_aux_lemma =>
             have hc:(kd==5)=true∨(kd==5)=false∧(kd==6)=true:=by
              rcases k5 with rfl|rfl
              ·exact .inl rfl
              ·exact .inr ⟨rfl,rfl⟩
             have h6:(kd==5)=true→(kd==6)=false:=fun h=>by rw [beq_iff_eq] at h;subst h;rfl
             have v2:=HB7.out.a2;have xn:=HB7.out.pn.cell;clear k5
             rcases hc with hc|⟨hc,hc6⟩
             all_goals first
              | (have hc6:=h6 hc;go_upto_region 58 with (fail);have HN8:=HN7;have HB8:=HB7;clear hc6 h6)
              | (obtain⟨wk,wb,cW⟩:=HN7.out.wants nn;go_upto_region 58 with (go_at_call 21;refine cW.mono ?_;clear cW;rintro e w8 ⟨rfl,hb8⟩;have HN8:=Lib.hid (HN7.out.read hb8);have HB8:=Lib.hid (HB7.out.read hb8);have xn8:=HB8.out.pn.cell;clear hb8 h6))
             all_goals as_aux_lemma =>
              have cS:=fun k=>HN8.out.start (by omega) HWW.out.1 HWW.out.2 k
              have xn8':=HB8.out.pn.cell;clear HN7 HB7 va v2 xn
              go_wp2_with (first
               | (go_at_call 22;refine (cS _).mono ?_;clear cS;rintro e w9 ⟨en',h16,rfl,hp9,hb9,hd9⟩;have cE:=table.num_err a en' h16 w9 (HB2.out.below hb9).errs;have HB9:=Lib.hid (HB8.out.pk hp9 fun b hb=>hb);have HD9:=Lib.hid hd9;clear hd9 hp9 hb9)
               | (go_at_call 8;refine cE.mono ?_;clear cE;rintro e w10 ⟨rfl,hb10⟩;have cD:=HD9.out w10 hb10;have HB10:=Lib.hid (HB9.out.read hb10))
               | (go_at_call 23;refine cD.mono ?_;clear cD;rintro e w11 ⟨rfl,hp11,hn11⟩;have HB11:=Lib.hid (HB10.out.pk hp11 fun b hb=>hb);have HN11:=Lib.hid hn11;clear hp11 hn11))
              go_meet;exact Lib.hid ⟨p,d,HN11.out.up (by omega),HB11.out⟩
           ·by_cases k7:kd = 7
            ·as_aux_lemma =>
              subst k7;have cE:=HN7.out.fin;have xn:=HB7.out.pn.cell
              go_upto_region 62 with (fail)
              refine cE.mono ?_;clear cE;rintro e w8 ⟨hp8,hb8,(⟨en',h16,rfl,hd8⟩|⟨X1,rfl,hd8⟩)⟩
              ·as_aux_lemma =>
                have HB8:=Lib.hid (HB7.out.pk hp8 fun b hb=>hb);have cD:=hd8 w8 (Below.refl _ _);clear hd8 hp8 HB7 HN7 va xn
                go_wp2_with (first
                 | (go_at_call 25;refine cD.mono ?_;clear cD;rintro e w9 ⟨rfl,hp9,hn9⟩;have cN:=table.num_err a en' h16 w9 (HB2.out.below hn9.bel).errs;have HN9:=Lib.hid hn9;have HB9:=Lib.hid (HB8.out.pk hp9 fun b hb=>hb);clear hn9 hp9)
                 | (go_at_call 8;refine cN.mono ?_;clear cN;rintro e w10 ⟨rfl,hb10⟩))
                go_meet;exact Lib.hid ⟨p,d,(HN9.out.read hb10).up (by omega),HB9.out.read hb10⟩
              ·as_aux_lemma =>
                have HB8:=Lib.hid (HB7.out.pk hp8 fun b hb=>hb);have cD:=hd8 w8 (Below.refl _ _);clear hd8 hp8 HB7 HN7 va xn
                go_wp2_with (first
                 | (go_at_call 25;refine cD.mono ?_;clear cD;rintro e w9 ⟨Z1,rfl,hp9,hn9,hn2⟩;have HN9:=Lib.hid hn9;have HB9:=Lib.hid (HB8.out.pk hp9 fun b hb=>hb);have cS:=hn2.same nn;have v9:=HB9.out.a2;clear hn9 hn2 hp9)
                 | (go_at_call 8;refine (errs.num_nil _).mono ?_;rintro e w10 ⟨rfl,rfl⟩)
                 | (go_at_call 26;refine cS.mono ?_;clear cS;rintro e w11 ⟨rfl,hb11⟩))
                go_meet;exact Lib.hid ⟨2*p,d+1,(HN9.out.read hb11).up (by omega),HB9.out.read hb11⟩
            ·as_aux_lemma =>
              have d0:(kd==0)=false:=beq_eq_false_iff_ne.2 fun e=>k0 (.inl e)
              have d1:(kd==1)=false:=beq_eq_false_iff_ne.2 fun e=>k0 (.inr e)
              have d2:(kd==2)=false:=beq_eq_false_iff_ne.2 k2;have d3:(kd==3)=false:=beq_eq_false_iff_ne.2 k3;have d4:(kd==4)=false:=beq_eq_false_iff_ne.2 k4;have d5:(kd==5)=false:=beq_eq_false_iff_ne.2 fun e=>k5 (.inl e)
              have d6:(kd==6)=false:=beq_eq_false_iff_ne.2 fun e=>k5 (.inr e)
              have d7:(kd==7)=false:=beq_eq_false_iff_ne.2 k7;have hmf:∀(fn:Fn) (first cap:Array Value) (w:World),(Instr.makeFunc fn first cap).run Tryz.prog w=.ok (.func fn first cap) w:=fun _ _ _ _=>rfl
              clear k0 k2 k3 k4 k5 k7
              go_wp2_with (fail)
              clear d0 d1 d2 d3 d4 d5 d6 d7 va
              go_loopw [39] (fun i wx=>∃m:Nat,m≤300∧i=.int .i64 m∧(m≤1∨kd=8)∧Hid (NP a w2 (hD lh dep hz) lh X Z Bm p d (220000*j+700*m) [XA,XE,Xn,Xm] wx∧BX X Bm Xn Xm XA XE kd ky nn ki vn hs wx)) (fun i _=>301-(intOf i).toNat)
              case atStart=>exact⟨0,by omega,rfl,.inl (by omega),Lib.hid ⟨HN7.out,HB7.out⟩⟩
              case round =>
               as_aux_lemma =>
                obtain⟨m,hm,rfl,hk8,HM⟩:=hrel;clear HN7 HB7;have x0:=HM.out.2.a0
                by_cases hgo:m=0∨kd=8∧m<300
                ·have hm3:m<300:=by omega
                 have hg3:((m:Int)==0)=true∨((m:Int)==0)=false∧(kd==8)=true∧(m:Int)<300:=by
                  by_cases h0:m=0
                  ·exact .inl (by rw [h0];rfl)
                  ·exact .inr ⟨beq_eq_false_iff_ne.2 (by omega),beq_iff_eq.2 (hgo.resolve_left h0).1,by omega⟩
                 have hk9:m+1≤1∨kd=8:=hgo.imp (fun h=>by omega) fun h=>h.1
                 clear hgo
                 rcases hg3 with e0|⟨e0,e8,e3⟩
                 all_goals first
                  | (have e3':=e3;go_upto_region 23 with (fail);clear e0 e8 e3 e3')
                  | (go_upto_region 23 with (fail);clear e0)
                 all_goals as_aux_lemma =>
                  have hb8:=new_block wr (.cells #[.bool false] 4)
                  have hN8:NP a w2 (hD lh dep hz) lh X Z Bm p d (220000*j+700*m) (wr.heap.size::[XA,XE,Xn,Xm]) (wr.alloc (.cells #[.bool false] 4)):=HM.out.1.also (fun b hb=>by
                   rcases List.mem_cons.1 hb with rfl|hb
                   ·exact .inr (Nat.le_refl _)
                   ·exact .inl hb) (fun b hb=>by
                   rw [World.size_alloc]
                   rcases List.mem_cons.1 hb with rfl|hb
                   ·omega
                   ·have:=HM.out.2.lts b hb;omega) hb8
                  have hB8:=HM.out.2.read hb8;have hKi:wr.heap.size∉[XA,XE,Xn,Xm]:=fun e=>by have:=HM.out.2.lts _ e;omega
                  have cC:=hN8.catch HB2.out (by omega) HHb.out hKi HM.out.1.bel.size (Var.new wr (.bool false) _) hB8.pn.cell hB8.pm.cell (by omega);have HB8:=Lib.hid hB8;have HCC:=Lib.hid cC;clear hN8 hB8 cC hKi hb8 HM x0
                  go_upto_region 24 with (fail)
                  generalize wr.alloc (.cells #[.bool false] 4)=W1 at *
                  generalize wr.heap.size=Xi at *
                  have xn:=HB8.out.pn.cell
                  go_wp2_with (fail)
                  refine HCC.out.mono ?_;clear HCC;rintro e w9 (⟨b,he,hv9,hp9,hd9⟩|⟨rfl,hb9,hd9⟩)
                  ·obtain rfl:e=.returned .nilIface:=he
                   have HB9:=Lib.hid (HB8.out.pk hp9 fun b hb=>hb);have ci:=hv9.cell;have hbb:(b != b)=false:=by simp
                   rcases hd9 w9 (Below.refl _ _) with⟨rfl,hc,hn⟩|⟨R,hc,hs⟩
                   ·as_aux_lemma =>
                     have HN9:=Lib.hid (hn.kl' (KL':=[XA,XE,Xn,Xm]) fun b hb=>List.mem_cons_of_mem _ hb);clear hn hd9 hp9 hv9 HB8
                     go_wp2_with (fail)
                     go_roundw
                     case rel=>exact⟨m+1,by omega,by simp,hk9,Lib.hid ⟨HN9.out.up (by omega),HB9.out⟩⟩
                     case measure=>simp [intOf];omega
                   ·as_aux_lemma =>
                     have HV9:=Lib.hid hv9;clear hd9 hp9 hv9 HB8
                     go_wp2_with (go_at_call 30;refine hs.mono ?_;clear hs;rintro e w10 ⟨rfl,hp10,hn10⟩;have HN10:=Lib.hid (hn10.kl' (KL':=[XA,XE,Xn,Xm]) fun b hb=>List.mem_cons_of_mem _ hb);have HB10:=Lib.hid (HB9.out.pk hp10 fun b hb=>List.mem_cons_of_mem _ hb);have ci:=(Var.pk HV9.out hp10 List.mem_cons_self).cell;clear hn10 hp10)
                     go_roundw
                     case rel=>exact⟨m+1,by omega,by simp,hk9,Lib.hid ⟨HN10.out.up (by omega),HB10.out⟩⟩
                     case measure=>simp [intOf];omega
                  ·as_aux_lemma =>
                    obtain⟨R,hc,hs⟩:=hd9 w9 (Below.refl _ _);clear hd9 HB8;generalize hea:errAt a 10=ea at *
                    have HEA:=Lib.hid hea;clear hea
                    go_wp2_with (first
                     | (go_at_call 30;refine hs.mono ?_;clear hs;rintro e w10 ⟨rfl,hb10⟩;have cN:=table.num_err a 10 (by decide) w10 (HB2.out.below hb10).errs;rw [HEA.out] at cN)
                     | (go_at_call 8;refine cN.mono ?_;clear cN;rintro e w11 ⟨rfl,hb11⟩))
                    go_ret
                    exact⟨rfl,under.below_step (under.below_step HBW.out hb10) hb11⟩
                ·have e0:((m:Int)==0)=false:=beq_eq_false_iff_ne.2 fun e=>hgo (.inl (by omega))
                 have e8:(kd==8)=false∨(kd==8)=true∧¬(m:Int)<300:=by
                  by_cases h8:kd=8
                  ·exact .inr ⟨beq_iff_eq.2 h8,fun h=>hgo (.inr ⟨h8,by omega⟩)⟩
                  ·exact .inl (beq_eq_false_iff_ne.2 h8)
                 clear hgo hk8
                 rcases e8 with e8|⟨e8,e3⟩
                 all_goals
                  go_wp2_with (fail)
                  go_meet;exact Lib.hid ⟨p,d,HM.out.1.up (by omega),HM.out.2⟩
     case rest =>
      as_aux_lemma =>
       obtain⟨p',d',hN,hB⟩:=hcut.out;have cS:=hN.same nn;have xn:=hB.pn.cell;have x2:=hB.a2;have HM:=Lib.hid (And.intro hN hB);clear hN hB hcut
       go_wp2_with (go_at_call 26;refine cS.mono ?_;clear cS;rintro e w20 ⟨rfl,hb20⟩)
       go_roundw
       case rel=>exact⟨j+1,by omega,by simp,Lib.hid (RM.ar ⟨p',d',HM.out.1.read hb20,HM.out.2.read hb20⟩)⟩
       case measure=>simp [intOf];omega
    ·simp only [hwi,decide_false] at cW
     clear hwi
     go_wp2_with (first
      | (go_at_call 9;refine cP.mono ?_;clear cP;rintro e w7 ⟨rfl,hb6⟩;have e2:=(HB5.out.read hb6).eb.c2)
      | (go_at_call 10;refine (cW _).mono ?_;rintro e w8 ⟨rfl,rfl⟩))
     go_roundw
     case rel=>exact⟨j+1,by omega,by simp,Lib.hid (RM.ar ⟨p,d,(HN5.out.read hb6).up (by omega),HB5.out.read hb6⟩)⟩
     case measure=>simp [intOf];omega
   ·obtain rfl:j=lb:=by omega
    obtain⟨p,d,hN,hvn,hvm⟩:=HR.out;have hbf:=under.below_step HBW.out hN.bel;clear hN hvn hvm HR;go_wp2
    go_ret
    exact⟨rfl,hbf⟩
end node
namespace node
theorem acts_law(a:String→Addr)(dep:Int)(s1:Option Addr)(lh ch:Nat)(s2:Option Addr)(lb cb:Nat)(hz:Nat→Nat)(az:Nat→Ac)(w:World)(hw:Base a w)(hKR:choose.KR a w)(hFr:choose.FreshOk w)(hH:HashAt s1 lh w hz)(hA:ActAt s2 lb w az) :
  Calls Tryz.prog 3 #[.int .i64 dep,.slice s1 lh ch,.slice s2 lb cb] w fun e w'=>e=.returned (.bool true)∧Below w.heap.size w w':=by
 by_cases hc:lh<1∨60<lh∨120<lb
 ·exact acts_more a dep s1 lh ch s2 lb cb hc w (Bq.of hw) hKR hFr
 ·by_cases hd:dep<0∨5<dep
  ·exact acts_bad a dep s1 lh ch s2 lb cb (by omega) (by omega) (by omega) hd w hw (Bq.of hw) hKR hFr
  ·obtain⟨d,rfl⟩:∃d:Nat,dep=(d:Int):=⟨dep.toNat,by omega⟩
   exact acts_few a d s1 lh ch s2 lb cb (by omega) (by omega) (by omega) (by omega) hz az w hw (Bq.of hw) hKR hFr hH hA
end node
end Go.Proofs.YtdplhgpeggcmdaaGreatDoor
