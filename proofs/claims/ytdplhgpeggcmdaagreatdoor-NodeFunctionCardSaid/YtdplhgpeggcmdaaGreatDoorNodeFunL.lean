/- NodeFunL: several texts in one: plain facts and laws for the walks. No program is named. -/
import Derived.Test.YtdplhgpeggcmdaaGreatDoorNodeMem
import Derived.Handy
import Derived.LoopTactic
import Derived.BigQuiet
import Derived.Deep.CutRange
import Derived.Deep.CutBlock
import Derived.Deep.RegionHeld3

/-! ### NodeFunction: the walk. -/
namespace Go.Proofs.YtdplhgpeggcmdaaGreatDoor.node
open Go.ChangeShapes Go.WideShapes Go.ChangeAt Go.RowKit Go.Shelf swar under trap meter group probe lens tail call table evac dual
attribute [local go_sem] Oper.semAt_some stage.pureUpon move.stepUpon movex.stepUpon
set_option linter.unusedSimpArgs false
set_option linter.unusedVariables false

theorem infoNode:(Tryz.prog.info? 25).map (fun i => (i.zero,i.size,i.bytes)) = some (some (.pointer none),1,8):=by kernel_rfl
/-- before there are rows and a meter -/
structure N0 (w0:World) (X T B Ba A:Nat) (W:World):Prop where
 row:NRow X 0 0 T 0 none W
 tat:TAt T B (Tb.new 1) W
 box:W.heap[Ba]? = some (.cells #[.slice (some ⟨A,0,none⟩) 1 1] 79 (0,0))
 own:W.ownsRow w0.heap.size 25 1 (.slice (some ⟨A,0,none⟩) 1 1) 1 (ptrsN (fun _ => X) 1)
 bel:Below w0.heap.size w0 W
 new:w0.heap.size ≤ X ∧ w0.heap.size ≤ T ∧ w0.heap.size ≤ B ∧ w0.heap.size ≤ Ba ∧ w0.heap.size ≤ A
 ne:X ≠ T ∧ X ≠ B ∧ Ba ≠ A ∧ Ba ∉ [X,T,B] ∧ A ∉ [X,T,B]
theorem N0.keep {w0:World} {X T B Ba A:Nat} {W W':World} (h:N0 w0 X T B Ba A W) (hb:Below W.heap.size W W'):N0 w0 X T B Ba A W':=
 ⟨h.row.keep hb,h.tat.below hb,(hb.block _ (Array.getElem?_eq_some_iff.1 h.box).1).trans h.box,row_below h.own hb,under.below_step h.bel hb,h.new,h.ne⟩
theorem N0.first {w0 w3:World} {X T B:Nat} (hr:NRow X 0 0 T 0 none w3) (ht:TAt T B (Tb.new 1) w3) (k1:w0.heap.size ≤ T) (k2:w0.heap.size ≤ B) (k3:w0.heap.size ≤ X) (k4:X ≠ T) (k5:X ≠ B) (hb:Below w0.heap.size w0 w3) :
  N0 w0 X T B (w3.heap.size + 1) w3.heap.size ((w3.alloc (.cells #[.pointer (some ⟨X,0,none⟩)] 25)).alloc (.cells #[.slice (some ⟨w3.heap.size,0,none⟩) 1 1] 79)):=by
 have h2:=two_new w3 (.cells #[.pointer (some ⟨X,0,none⟩)] 25) (.cells #[.slice (some ⟨w3.heap.size,0,none⟩) 1 1] 79)
 have hz:=hb.size
 have l1:=hr.lt
 have l2:=ht.lt
 have l3:=ht.lb
 refine ⟨hr.keep h2,ht.below h2, ?_, ?_,under.below_step hb h2,⟨k3,k1,k2,by omega,hz⟩,⟨k4,k5,by omega,by simp only [List.mem_cons,List.not_mem_nil,or_false]; omega,by simp only [List.mem_cons,List.not_mem_nil,or_false]; omega⟩⟩
 ·have:=World.alloc_heap_new (w3.alloc (.cells #[.pointer (some ⟨X,0,none⟩)] 25)) (.cells #[.slice (some ⟨w3.heap.size,0,none⟩) 1 1] 79)
  rwa [World.size_alloc] at this
 ·have:=World.ownsRow_lit (base:=w0.heap.size) (e:=25) (size:=1) w3 #[.pointer (some ⟨X,0,none⟩)] 1 hz (by decide) rfl
  exact row_below this (new_block _ _)
theorem NS.start {a:String → Addr} {w0:World} {H:Nat → Nat} {la g X T B Ba A Bm Bt Bv:Nat} {W:World} (hw:Bq a w0) (hla:la ≤ 100) (hH:∀ key,key < la → H key < 18446744073709551616) (hg:g ≤ 5) (h:N0 w0 X T B Ba A W) (gm:GM Bm W) (hr:table.Rows Bt Bv la (fun _ => none) (fun _ => 0) W) (hm:w0.heap.size ≤ Bm ∧ w0.heap.size ≤ Bt ∧ w0.heap.size ≤ Bv)
  (hd:(Ba :: Bm :: Bt :: Bv :: [A]).Nodup) (hf:∀ b ∈ [Bm,Bt,Bv],b ∉ [X,T,B]) :
  NS a w0 H la g Ba Bm Bt Bv 0 1 8 true 1 1 (fun _ => X) (fun _ => 0) (fun _ => 0) (fun _ _ => none) (fun _ => [X,T,B]) (.slice (some ⟨A,0,none⟩) 1 1) (fun _ => none) (fun _ => none) (fun _ => 0) W:=by
 have hi:Idl 1 0 g 1 ((Tb.new 1).len + (Tb.new 1).tombs):=⟨by decide,by show (0:Int) + 0 + 1 ≤ _; decide,Nat.zero_le _,hg,fun e => absurd e (by decide)⟩
 have hlt:=(Array.getElem?_eq_some_iff.1 h.box).1
 have hl1:=row_lt h.own (g:=A) rfl
 have hl2:=gm.lt
 have hl3:=hr.lt
 have hl4:=hr.lv
 refine ⟨Nat.one_pos,fun j hj hne => absurd hj (by omega),⟨hla,hH,h.new.1,by decide,⟨Nat.zero_le _,hg⟩,fun key e => (by cases e),.inl ⟨T,B,1,Tb.new 1,h.row,lay1_start hw rfl (Tb.Ok.new (by decide)) h.tat h.bel h.new.2.1 h.new.2.2.1,RepN.new (by decide) H,hi,rfl,⟨h.ne.1,h.ne.2.1⟩⟩⟩,fun j k hj hk hne => absurd hne (by omega),fun hh hlt => ⟨0,Nat.one_pos, ?_,fun k hk _ => by omega⟩,rfl,gm,hr,h.box,h.own,⟨Nat.le_refl _,Nat.le_refl _⟩,fun b hb => ?_,hd,fun key hk j hj hw => rfl,fun k v e => (by cases e)⟩
 ·unfold wi
  rw [Nat.sub_zero]
  exact Nat.div_eq_of_lt hlt
 ·have hb':b = Ba ∨ b = Bm ∨ b = Bt ∨ b = Bv ∨ b = A:=by simpa [Value.ownBlock] using hb
  have:=h.new
  rcases hb' with rfl | rfl | rfl | rfl | rfl
  ·exact ⟨h.new.2.2.2.1,hlt,fun _ _ => h.ne.2.2.2.1⟩
  ·exact ⟨hm.1,hl2,fun _ _ => hf _ (by simp)⟩
  ·exact ⟨hm.2.1,hl3,fun _ _ => hf _ (by simp)⟩
  ·exact ⟨hm.2.2,hl4,fun _ _ => hf _ (by simp)⟩
  ·exact ⟨h.new.2.2.2.2,hl1.2,fun _ _ => h.ne.2.2.2.2⟩
section
variable {a:String → Addr} {w0:World} {H:Nat → Nat} {la g Ba Bm Bt Bv i e x:Nat} {o:Bool} {cnt ln:Nat} {X P Dp:Nat → Nat} {Fs:Nat → Nat → Option Nat} {fps:Nat → List Nat} {vA:Value} {K G:Nat → Option Nat} {V:Nat → Nat} {W W':World}
theorem NS.of (h:NS a w0 H la g Ba Bm Bt Bv i e x o cnt cnt X P Dp Fs fps vA K G V W) (hh:Nat) (hlt:hh < 18446744073709551616):Calls Tryz.prog 31 #[.int .u64 (hh:Nat),.pointer (some ⟨Ba,0,none⟩)] W fun e w' => ∃ j,e = .returned (.pointer (some ⟨X j,0,none⟩)) ∧ j < cnt ∧ wi hh (P j) (Dp j) ∧ Below W.heap.size W w':=by
 obtain ⟨GA,cA,rfl,_,_⟩:=h.own.form h.l1.1
 have cb:W.cell? ⟨Ba,0,none⟩ = some (.slice (some ⟨GA,0,none⟩) cnt cA):=by rw [cell_of_row _ _ _ _ _ _ h.box]; rfl
 have n32:=h.n32
 refine (of_any hh hlt Ba GA cA cnt X P Dp (by omega) W cb (fun j hj => ?_) fun j hj => ?_).mono fun e w' ⟨⟨j,hr⟩,hb⟩ => ?_
 ·have:=h.own.cellAt j (by omega)
  rw [this]; exact ptrsN_at X hj
 ·obtain ⟨e,x,o,q⟩:=h.node hj
  exact ⟨q.row,q.hp,by have:=q.hdg; omega⟩
 ·rcases hr with ⟨h1,h2,h3⟩ | ⟨h1,h2⟩
  ·exact ⟨j,h2,h1,h3,hb⟩
  ·obtain ⟨k,hk,hw,_⟩:=h.one hh hlt
   exact absurd hw (h2 k hk)
/-- a key is put, or deleted, in the active node -/
theorem NS.set (h:NS a w0 H la g Ba Bm Bt Bv i e x o cnt ln X P Dp Fs fps vA K G V W) {e' x':Nat} {o':Bool} {key:Nat} {v:Option Nat} (hp:Past (Bm :: fps i) W W') (hN:NF a w0 H la g (X i) (P i) (Dp i) (table.set (Fs i) key v) e' x' o' (fps i) W') (hg:GM Bm W') (hw:wi (H key) (P i) (Dp i)) :
  NS a w0 H la g Ba Bm Bt Bv i e' x' o' cnt ln X P Dp (up Fs i (table.set (Fs i) key v)) fps vA (table.set K key v) G V W':=by
 have r:=h.go hp hN hg (fun b hb => .inl hb) (K':=table.set K key v) fun k hk => ⟨fun hwk => ?_,fun hwk => ?_⟩
 ·rwa [up_self] at r
 ·by_cases q:k = key
  ·subst q; rw [table.set_same,table.set_same]
  ·rw [table.set_ne _ _ q,table.set_ne _ _ q]; exact h.agr k hk i h.hi hwk
 ·rw [table.set_ne _ _ (by rintro rfl; exact hwk hw)]
/-- it goes on, and holds what it held -/
theorem NS.stay (h:NS a w0 H la g Ba Bm Bt Bv i e x o cnt ln X P Dp Fs fps vA K G V W) {e' x':Nat} {o':Bool} {fp':List Nat} (hp:Past (Bm :: fps i) W W') (hN:NF a w0 H la g (X i) (P i) (Dp i) (Fs i) e' x' o' fp' W') (hg:GM Bm W') (hf:∀ b ∈ fp',b ∈ fps i ∨ W.heap.size ≤ b) :
  NS a w0 H la g Ba Bm Bt Bv i e' x' o' cnt ln X P Dp Fs (up fps i fp') vA K G V W':=by
 have r:=h.go hp hN hg hf (K':=K) fun k hk => ⟨fun hwk => h.agr k hk i h.hi hwk,fun _ => rfl⟩
 rwa [up_self] at r
end
section
variable {a:String → Addr} {w0:World} {H:Nat → Nat} {la g Ba Bm Bt Bv i e x:Nat} {o:Bool} {cnt ln:Nat} {X P Dp:Nat → Nat} {Fs:Nat → Nat → Option Nat} {fps:Nat → List Nat} {vA:Value} {K G:Nat → Option Nat} {V:Nat → Nat} {W W':World}
theorem NF.free {X p d:Nat} {F:Nat → Option Nat} {fp:List Nat} (h:NF a w0 H la g X p d F e x o fp W):NF a w0 H la g X p d F e x false fp W:=by
 refine ⟨h.hla,h.hH,h.hX,h.hp,h.hdg,h.hwi, ?_⟩
 rcases h.st with ⟨T,B,n,t,i⟩ | ⟨kd,Y,D,n1,dd,dp,q,c,t,fd,i⟩
 ·exact .inl ⟨T,B,n,t,i⟩
 ·obtain ⟨C,hb⟩:=i.bs
  exact .inr ⟨kd,Y,D,n1,dd,dp,q,c,t,fd,i.row,i.dm,⟨C,⟨hb.ok,hb.dg,hb.g5,hb.gn,hb.jb,hb.qn,fun e => (by cases e),hb.cc,hb.cn,hb.so⟩⟩,i.dd,i.fp,i.nX⟩
/-- the active node, seen otherwise -/
theorem NS.idle (h:NS a w0 H la g Ba Bm Bt Bv i e x o cnt ln X P Dp Fs fps vA K G V W) {e' x':Nat} {o':Bool} (hN:NF a w0 H la g (X i) (P i) (Dp i) (Fs i) e' x' o' (fps i) W):NS a w0 H la g Ba Bm Bt Bv i e' x' o' cnt ln X P Dp Fs fps vA K G V W:=
 ⟨h.hi,h.oth,hN,h.sep,h.one,h.ms,h.gm,h.rows,h.box,h.own,h.l1,h.far,h.nd,h.agr,h.vals⟩
end
theorem act3 (kd ky nn:Int) (w:World):(w.alloc (.cells #[.int .i64 kd,.int .i64 ky,.int .i64 nn] 40)).cell? ⟨w.heap.size,0,none⟩ = some (.int .i64 kd) ∧ (w.alloc (.cells #[.int .i64 kd,.int .i64 ky,.int .i64 nn] 40)).cell? ⟨w.heap.size,1,none⟩ = some (.int .i64 ky) ∧ (w.alloc (.cells #[.int .i64 kd,.int .i64 ky,.int .i64 nn] 40)).cell? ⟨w.heap.size,2,none⟩ = some (.int .i64 nn):=by
 have h:=World.alloc_heap_new w (.cells #[.int .i64 kd,.int .i64 ky,.int .i64 nn] 40)
 exact ⟨by rw [cell_of_row _ _ _ _ _ _ h]; rfl,by rw [cell_of_row _ _ _ _ _ _ h]; rfl,by rw [cell_of_row _ _ _ _ _ _ h]; rfl⟩
/-- between two acts -/
def RS (a:String → Addr) (w0:World) (H:Nat → Nat) (la g Ba Bm Bt Bv:Nat) (W:World):Prop:=∃ i cnt X P Dp Fs fps vA K V,NS a w0 H la g Ba Bm Bt Bv i 1 8 true cnt cnt X P Dp Fs fps vA K K V W
set_option maxRecDepth 100000 in
set_option maxHeartbeats 20000000 in
theorem fun_few (a:String → Addr) (glob:Int) (s1:Option Addr) (lh ch:Nat) (s2:Option Addr) (lb cb:Nat) (h1:1 ≤ lh) (h2:lh ≤ 100) (h3:lb ≤ 250) (hz:Nat → Nat) (az:Nat → Ac) (w:World) (hw:Bq a w) (hKR:choose.KR a w) (hFr:choose.FreshOk w) (hH:HashAt s1 lh w hz) (hA:ActAt s2 lb w az) :
  Calls Tryz.prog 4 #[.slice s1 lh ch,.slice s2 lb cb,.int .i64 glob] w fun e w' => e = .returned (.bool true) ∧ Below w.heap.size w w':=by
 have cA:=alive_any a w hw hKR hFr
 have cN:=fun W => nnew_yes 0 0 (by decide) (by decide) W
 have d1:decide ((lh:Int) < 1) = false:=decide_eq_false (by omega)
 have d2:decide (100 < (lh:Int)) = false:=decide_eq_false (by omega)
 have d3:decide (250 < (lb:Int)) = false:=decide_eq_false (by omega)
 have hns:=node_some
 obtain ⟨i0,hi0,hq0,hq1,hq2⟩:=info_parts infoNode
 have hfo:=fnOf
 have hnn:=node_none
 have HW:=Lib.hid (And.intro hw (And.intro hKR hFr))
 have HH:=Lib.hid hH
 have HA:=Lib.hid hA
 have hg5:kN glob 6 < 6:=kN_lt _ (by decide)
 have e1:=uN_cast glob
 obtain ⟨er,ew,eu,ei⟩:=ent_num glob (la:=6) (by decide) (by decide)
 have er6:((uN glob:Nat):Int) % 6 = ((kN glob 6:Nat):Int):=er
 generalize uN glob = ug at *
 generalize kN glob 6 = g at *
 clear hw hKR hFr hH hA
 go_enter Tryz.func4,Tryz.ntmps4
 go_upto_region 9 with (first
  | (go_at_call 5; refine cA.mono ?_; rintro e w2 ⟨rfl,hb2⟩)
  | (go_at_call 6; refine (cN _).mono ?_; rintro e w3 ⟨X,T,B,rfl,hrow,hT3,k1,k2,k3,k4,k5,hb3⟩))
 have HZ:=Lib.hid (show Below w.heap.size w w2 from hb2)
 have HW2:=Lib.hid (And.intro (HW.out.1.below hb2) (And.intro (HW.out.2.1.below hb2) (HW.out.2.2.below hb2)))
 have HH2:=Lib.hid (HH.out.below hb2)
 have HA2:=Lib.hid (HA.out.below hb2)
 have HHb:=Lib.hid (show ∀ key,key < lh → hOf lh hz key < 18446744073709551616 from fun key hk => by
  rw [hOf_lt hk]
  obtain ⟨_,_,h,_⟩:=HH2.out key hk
  exact h)
 have HN0:=Lib.hid (N0.first hrow hT3 k1 k2 k3 k4 k5 hb3)
 have hzz:=hb3.size
 clear cA cN hb2 hrow hT3 k1 k2 k3 k4 k5 HW HH HA hb3
 go_upto_region 10 with (fail)
 simp only [er6]
 generalize (w3.alloc (.cells #[.pointer (some ⟨X,0,none⟩)] 25)).alloc (.cells #[.slice (some ⟨w3.heap.size,0,none⟩) 1 1] 79) = w4 at *
 generalize w3.heap.size + 1 = Ba at *
 generalize w3.heap.size = A0 at *
 clear hzz
 go_cut [11,12] from 63 to 68 (fun s11 s12 wx => ∃ Bt Bv,s11 = .slice (some ⟨Bt,0,none⟩) lh lh ∧ s12 = .slice (some ⟨Bv,0,none⟩) lh lh ∧ Hid (table.Rows Bt Bv lh (fun _ => none) (fun _ => 0) wx ∧ w4.heap.size ≤ Bt ∧ w4.heap.size ≤ Bv ∧ Below w4.heap.size w4 wx))
 case first =>
  as_aux_lemma =>
   have m1:=mk_bools lh h2
   have m2:=mk_u64s lh h2
   go_region_held3 (fun w' => True) (first | trivial | go_keep) (fail)
   all_goals (go_wp2_with (fail); go_meet; first | exact ⟨_,_,rfl,rfl,Lib.hid ⟨(table.Rows.new1 w4 lh).below (under.drew_below _),Nat.le_refl _,Nat.le_succ _,under.below_step (two_new w4 _ _) (under.drew_below _)⟩⟩ | exact ⟨_,_,rfl,rfl,Lib.hid ⟨(table.Rows.new2 w4 lh).below (under.drew_below _),Nat.le_succ _,Nat.le_refl _,under.below_step (two_new w4 _ _) (under.drew_below _)⟩⟩)
 case rest =>
  as_aux_lemma =>
   obtain ⟨Bt,Bv,rfl,rfl,hR⟩:=hcut
   go_wp2_with (fail)
   have hNS:NS a w2 (hOf lh hz) lh g Ba wc.heap.size Bt Bv 0 1 8 true 1 1 (fun _ => X) (fun _ => 0) (fun _ => 0) (fun _ _ => none) (fun _ => [X,T,B]) (.slice (some ⟨A0,0,none⟩) 1 1) (fun _ => none) (fun _ => none) (fun _ => 0) (wc.alloc (.cells #[.int .i64 0,.int .i64 0,.int .i64 0,.int .i64 0,.int .i64 0,.int .i64 0,.int .i64 0,.bool false] 38)):=by
    obtain ⟨hr,b1,b2,hb⟩:=hR.out
    have h4:=HN0.out
    have hb5:=new_block wc (.cells #[.int .i64 0,.int .i64 0,.int .i64 0,.int .i64 0,.int .i64 0,.int .i64 0,.int .i64 0,.bool false] 38)
    have z1:=h4.bel.size
    have z2:=hb.size
    have l1:=(Array.getElem?_eq_some_iff.1 h4.box).1
    have l2:=(row_lt h4.own (g:=A0) rfl).2
    have l3:=h4.row.lt
    have l4:=h4.tat.lt
    have l5:=h4.tat.lb
    have l6:=hr.lt
    have l7:=hr.lv
    have l8:=hr.ne
    have n1:=h4.ne.2.2.1
    refine NS.start HW2.out.1 (by omega) HHb.out (by omega) ((h4.keep hb).keep hb5) (GM.new wc) (hr.below hb5) ⟨by omega,by omega,by omega⟩ ?_ fun b hb => ?_
    ·simp only [List.nodup_cons,List.mem_cons,List.not_mem_nil,or_false,not_or,not_false_eq_true,List.nodup_nil,and_true]
     omega
    ·simp only [List.mem_cons,List.not_mem_nil,or_false] at hb ⊢
     omega
   have HRS:=Lib.hid (show RS a w2 (hOf lh hz) lh g Ba wc.heap.size Bt Bv _ from ⟨_,_,_,_,_,_,_,_,_,_,hNS⟩)
   clear hNS hR HN0 er ew eu ei e1 er6 d1 d2 d3
   generalize wc.heap.size = Bm at *
   go_loopw [74] (fun i wr => ∃ j:Nat,j ≤ lb ∧ i = .int .i64 j ∧ Hid (RS a w2 (hOf lh hz) lh g Ba Bm Bt Bv wr)) (fun i _ => lb - (intOf i).toNat)
   case atStart => exact ⟨0,by omega,rfl,HRS⟩
   case round =>
    as_aux_lemma =>
     obtain ⟨j,hj,rfl,HO⟩:=hrel
     clear HRS
     rcases Nat.lt_or_ge j lb with hjl | hjl
     ·obtain ⟨⟨xa,rfl,hcs⟩,b1,b2,b3,b4⟩:=HA2.out j hjl
      obtain ⟨i,cnt,X',P,Dp,Fs,fps,vA,K,V,hS⟩:=HO.out
      obtain ⟨c0,c1,c2⟩:=hcs _ hS.bel
      have hji:(j:Int) < (lb:Int):=by omega
      have hkw:j + 1 ≤ lb:=by omega
      have hkz:kN (az j).key lh < lh:=kN_lt _ h1
      obtain ⟨xh,rfl,hzk,hxh⟩:=HH2.out _ hkz
      have eH:hOf lh hz (kN (az j).key lh) = hz (kN (az j).key lh):=hOf_lt hkz
      have e1:=uN_cast (az j).key
      obtain ⟨er,ew,eu,ei⟩:=ent_num (az j).key h1 h2
      have hvn:=uN_lt (az j).n
      have en:=uN_cast (az j).n
      generalize kN (az j).key lh = ki at *
      generalize uN (az j).key = uk at *
      generalize hz ki = hh at *
      generalize (az j).kind = kd at *
      generalize (az j).key = ky at *
      generalize uN (az j).n = vn at *
      generalize (az j).n = nn at *
      have hbA:=new_block wr (.cells #[.int .i64 kd,.int .i64 ky,.int .i64 nn] 40)
      have ⟨a0,a1,a2⟩:=act3 kd ky nn wr
      have HOF:=Lib.hid (show ∀ j,j < cnt → ∀ b ∈ Bm :: fps j,b < wr.heap.size from fun j hj b hb => by
       rcases List.mem_cons.1 hb with rfl | hb
       ·exact (hS.far b (by simp)).2.1
       ·obtain ⟨_,_,_,q⟩:=hS.node hj
        exact q.lts b hb)
      have HBV:=Lib.hid (And.intro (hS.far Bt (by simp)).2.1 (hS.far Bv (by simp)).2.1)
      have hS1:=hS.read hbA
      have ch:=hxh _ hS1.bel
      have cOf:=hS1.of hh hzk
      have HE:=Lib.hid eH
      have HS1:=Lib.hid hS1
      have HXH:=Lib.hid hxh
      have HAA:=Lib.hid (act3 kd ky nn wr)
      clear hS hS1 HO hcs b1 b2 b3 b4 eH hxh hbA
      go_upto_region 20 with (go_at_call 31; refine cOf.mono ?_; clear cOf; rintro e w5 ⟨i1,rfl,hi1,hw1,hb5⟩)
      have hS5:=(HS1.out.read hb5).sel hi1
      have HAW:=Lib.hid (show w5.cell? ⟨wr.heap.size,0,none⟩ = some (.int .i64 kd) ∧ w5.cell? ⟨wr.heap.size,1,none⟩ = some (.int .i64 ky) ∧ w5.cell? ⟨wr.heap.size,2,none⟩ = some (.int .i64 nn) from ⟨keepc hb5 a0,keepc hb5 a1,keepc hb5 a2⟩)
      have HS5:=Lib.hid hS5
      have y0:=HAW.out.1
      clear a0 a1 a2 ch c0 c1 c2 hS5 hb5 HS1 HAA
      go_upto_if 96 with (fail)
      go_cut [19,20,21,22] from 94 to 154 (fun s19 s20 s21 s22 wx => Hid (∃ Fs' K' V',NS a w2 (hOf lh hz) lh g Ba Bm Bt Bv i1 0 0 true cnt cnt X' P Dp Fs' fps vA K' K' V' wx))
      case first =>
       as_aux_lemma =>
        by_cases k2:kd = 2
        ·subst k2
         obtain ⟨ek,ev,eh,GG,hev,hg0,hxg,hgb,hcd,hdone⟩:=HS5.out.act.delete HS5.out.gm (HS5.out.far Bm (by simp)).1 ((HS5.out.far Bm (by simp)).2.2 i1 hi1) (key:=ki) hkz
         have hFK:=HS5.out.agr ki hkz i1 hi1 (by rw [HE.out]; exact hw1)
         rw [hFK] at hcd hev
         rw [HE.out] at hcd
         have ch5:=HXH.out w5 HS5.out.bel
         have hxd:XD w5 (Bm :: fps i1) GG ek ev eh ⟨0,none,false⟩ w5.drew:=XD.start (hxg.read _ _ _ hg0 (under.drew_below _)) (Past.of (under.drew_below _))
         have q0:∀ y:movex.Un (XD w5 (Bm :: fps i1) GG ek ev eh),y.W.cell? (xh.add ki) = some (.int .u64 (hh:Nat)):=fun y => HXH.out y.W (hgb _ _ y.h.g)
         haveI : Nonempty (movex.Un (XD w5 (Bm :: fps i1) GG ek ev eh)):=⟨⟨_,_,hxd⟩⟩
         have HD:=Lib.hid hdone
         have HEV:=Lib.hid hev
         clear hdone hg0 hev ch5
         go_upto_region 21 with (fail)
         refine (wpIn_wide (n:=3)).1 ?_
         refine movex.region (D:=XD w5 (Bm :: fps i1) GG ek ev eh) (XM (.agg #[.pointer (some ⟨Bm,0,none⟩)]) (.tuple #[group.entV ek ev eh,.bool (K ki).isSome]) 9 13 14) 14 16 [false,false,true,false,false,false,false,false,false,true,false,false,false,true,true,false] [(2,13),(9,13)] (by kernel_rfl) (by kernel_rfl) (by kernel_rfl) (fun k s _ => XM.some _ _ _ _ _ k s) (fun i j hij => by
          simp only [List.mem_cons,Prod.mk.injEq,List.not_mem_nil,or_false] at hij
          rcases hij with ⟨rfl,rfl⟩ | ⟨rfl,rfl⟩
          ·exact XM.free _ _ _ _ _ _ (by decide) (by decide)
          ·exact XM.free _ _ _ _ _ _ (by decide) (by decide)) ⟨0,none,false⟩ hxd ?_
         simp only [List.take_succ_cons,List.take_zero,List.drop_succ_cons,List.drop_zero]
         iterate 2
          refine movex.pure_step (fun _ _ _ => trivial) (fun K hK => ?_)
          go_simp
          refine hK _ ?_
          clear hK K
         refine movex.move_step (fun _ _ _ => trivial) (by kernel_rfl) (fun sd wd hd => ?_) ?_
         ·go_simp
          refine callsIn_wide.2 ((probing_any Bm 0 wd).mono ?_)
          rintro e' w' ⟨rfl,hb'⟩
          exact ⟨_,rfl,sd,⟨rfl,rfl⟩,hd.read hxg hb'⟩
         rintro _ _ ⟨rfl,rfl⟩ K hK
         refine hK _ ?_
         clear hK K
         iterate 6
          refine movex.pure_step (fun _ _ _ => trivial) (fun K hK => ?_)
          go_simp
          refine hK _ ?_
          clear hK K
         refine movex.move_step (fun _ _ _ => trivial) (by kernel_rfl) (fun sd wd hd => ?_) ?_
         ·go_simp
          refine callsIn_wide.2 ((hcd sd.n wd hd.g).mono ?_)
          rintro e' w' ⟨hp',v',rfl,hv',hg'⟩
          exact ⟨_,rfl,⟨sd.n + 1,sd.al,sd.st⟩,⟨hv',rfl⟩,hd.next hxg hg' hp'⟩
         rintro _ _ ⟨hv9,rfl⟩ K hK
         obtain rfl:=hv9 rfl
         clear hv9
         refine hK _ ?_
         clear hK K
         iterate 3
          refine movex.pure_step (fun _ _ _ => trivial) (fun K hK => ?_)
          go_simp
          refine hK _ ?_
          clear hK K
         refine movex.move_step (fun _ _ _ => trivial) (by kernel_rfl) (fun sd wd hd => ?_) ?_
         ·go_simp
          exact ⟨_,⟨_,rfl,rfl⟩,hd.put hxg⟩
         rintro _ _ ⟨b9,rfl,rfl⟩ K hK
         refine hK _ ?_
         clear hK K
         refine movex.last_step (fun _ _ _ => trivial) (by kernel_rfl) (fun wd hd => ?_) ?_
         ·obtain ⟨_,x',y',z',hB,_⟩:=hd.box b9 rfl
          have g0:=hB.c0
          have g1:=hB.c1
          have g2:=hB.c2
          have gf:=hB.fz
          go_simp
          exact ⟨_,⟨rfl,rfl⟩,hd.set hxg rfl⟩
         rintro _ _ ⟨rfl,rfl⟩ K hK
         refine hK _ ?_
         clear hK K
         iterate 1
          refine movex.pure_step (fun _ _ _ => trivial) (fun K hK => ?_)
          go_simp
          refine hK _ ?_
          clear hK K
         refine movex.nil_step ?_
         intro w9 hd9
         obtain ⟨hN9,hG9⟩:=HD.out w9 hd9.g
         have hS9:=HS5.out.set hd9.past hN9 hG9 (by rw [HE.out]; exact hw1)
         clear hd9 hxd q0 this hcd hxg hgb hN9 hG9
         have hth:=hS9.rows.th ki hkz
         have hft:=hS9.rows.ft
         have H9:=Lib.hid hS9
         clear hS9
         gi_wp2
         obtain ⟨bk,hbk⟩:∃ bk,(K ki).isSome = bk:=⟨_,rfl⟩
         rw [hbk] at hth
         simp only [hbk]
         have habb:(bk != bk) = false:=by simp
         clear hbk
         go_wp2_with (fail)
         go_meet
         exact Lib.hid ⟨_,_,_,H9.out.del hkz⟩
        ·skip
         have e2:(kd == 2) = false:=beq_eq_false_iff_ne.2 k2
         have ch5:=HXH.out w5 HS5.out.bel
         have r2:=Under.cell HAW.out.2.2
         have rh:=Under.cell ch5
         have cP:=fun W (h:NS a w2 (hOf lh hz) lh g Ba Bm Bt Bv i1 1 8 true cnt cnt X' P Dp Fs fps vA K K V W) => h.act.put h.gm (h.far Bm (by simp)).1 ((h.far Bm (by simp)).2.2 i1 hi1) hkz hvn (by rw [HE.out]; exact hw1)
         have hFK:=HS5.out.agr ki hkz i1 hi1 (by rw [HE.out]; exact hw1)
         rw [hFK,HE.out] at cP
         obtain ⟨bk,hbk⟩:∃ bk,(K ki).isSome = bk:=⟨_,rfl⟩
         simp only [hbk] at cP
         have HBK:=Lib.hid hbk
         clear hFK hbk
         go_upto_region 25 with (fail)
         refine one.wp_region_one 13 _ (by kernel_rfl) (by kernel_rfl) rfl ?_
         simp only [List.take_succ_cons,List.take_zero,List.drop_succ_cons,List.drop_zero]
         repeat (quiet_step (first
          | (go_at_call 12; (with_reducible refine under_call (probing_any _ _ _)))))
         refine wpQuiet_nil ?_
         intro y Kc hKc
         have hS8:=HS5.out.read y.below
         have cPy:=cP _ hS8
         have ya:=keepc y.below HAW.out.2.2
         have hz8:=y.below.size
         clear r2 rh cP ch5
         generalize y.W = w8 at *
         go_simp
         refine cPy.mono ?_
         clear cPy
         rintro e w9 ⟨rfl,hN9,hG9,hp9⟩
         have hS9:=hS8.set hp9 hN9 hG9 (by rw [HE.out]; exact hw1)
         have ya9:=hp9.cell ya (fun e => by have:=HOF.out i1 hi1 _ e; omega)
         go_simp
         refine hKc _ _ ?_
         clear hKc Kc hp9 hS8 hN9 hG9 ya
         repeat (quiet_step (fail))
         refine wpQuiet_nil ?_
         intro y3
         have hS10:=hS9.read y3.below
         have v1:=keepc y3.below ya9
         clear hS9 ya9
         generalize y3.W = w10 at *
         have hth:=hS10.rows.th ki hkz
         have hva:=hS10.rows.va ki hkz
         have hft:=hS10.rows.ft
         have hfv:=hS10.rows.fv
         have hne:=hS10.rows.ne
         have n1':wr.heap.size ≠ Bt:=by have:=HBV.out.1; omega
         have n2':wr.heap.size ≠ Bv:=by have:=HBV.out.2; omega
         have H10:=Lib.hid hS10
         clear hS10
         generalize wr.heap.size = AA at *
         rw [HBK.out] at hth
         have habb:((!bk) == bk) = false:=by cases bk <;> rfl
         go_upto_region 28 with (fail)
         go_region_held3 (fun w' => w'.cell? ⟨AA,2,none⟩ = some (.int .i64 nn)) (first | exact (World.cell?_setCell_other _ _ _ _ (table.off_b (Ne.symm n1'))).trans (by assumption) | exact (World.cell?_setCell_other _ _ _ _ (table.off_b (Ne.symm n2'))).trans (by assumption) | go_keep) (fail)
         go_wp2_with (fail)
         go_meet
         exact Lib.hid ⟨_,_,_,(H10.out.read (below_drewN' _ _)).put hkz⟩
      case rest =>
       as_aux_lemma =>
        obtain ⟨Fs',K',V',hS6⟩:=hcut.out
        have cW:=hS6.act.wants
        have HS6:=Lib.hid hS6
        clear hS6 hcut
        go_upto_region 30 with (go_at_call 32; refine cW.mono ?_; clear cW; rintro e w7 ⟨kd',b',rfl,hWS,hb7⟩)
        go_cut [168] from 161 to 167 (fun s168 wx => s168 = .bool false ∧ Hid (∃ fps',NS a w2 (hOf lh hz) lh g Ba Bm Bt Bv i1 1 0 false cnt cnt X' P Dp Fs' fps' vA K' K' V' wx))
        case first =>
         as_aux_lemma =>
          by_cases k0:kd' = 0
          ·subst k0
           rcases hWS with ⟨_,hN7⟩ | ⟨k0,_⟩
           ·have hS7:=(HS6.out.read hb7).idle hN7.free
            go_wp2_with (fail)
            go_meet
            exact ⟨rfl,Lib.hid ⟨_,hS7⟩⟩
           ·exact absurd rfl k0
          ·have d0:(kd' != 0) = true:=by simp [k0]
           have cS:=HS6.out.act.start hWS k0 HW2.out.2.1 HW2.out.2.2
           have hS7:=HS6.out.read hb7
           go_wp2_with (go_at_call 22; refine cS.mono ?_; clear cS; rintro e w8 ⟨rfl,fp8,hN8,hp8,hf8⟩)
           go_meet
           exact ⟨rfl,Lib.hid ⟨_,hS7.stay (hp8.mono fun b hb => List.mem_cons_of_mem _ hb) hN8.free (hS7.gm.past hp8 ((hS7.far Bm (by simp)).2.2 i1 hS7.hi)) hf8⟩⟩
        case rest =>
         as_aux_lemma =>
          obtain ⟨rfl,HC⟩:=hcut
          clear hWS hb7
          go_wp2_with (fail)
          go_loopw [169] (fun i wx => ∃ m:Nat,m ≤ 8 ∧ i = .int .i64 m ∧ Hid (∃ fps',NS a w2 (hOf lh hz) lh g Ba Bm Bt Bv i1 1 m false cnt cnt X' P Dp Fs' fps' vA K' K' V' wx)) (fun i _ => 8 - (intOf i).toNat)
          case atStart => exact ⟨0,by omega,rfl,HC⟩
          case round =>
           as_aux_lemma =>
            obtain ⟨m,hm,rfl,HM⟩:=hrel
            clear HC
            obtain ⟨fps',hS⟩:=HM.out
            rcases Nat.lt_or_ge m 8 with hml | hml
            ·have hmi:(m:Int) < 8:=by omega
             have cS:=hS.act.step hS.gm (hS.far Bm (by simp)).1 ((hS.far Bm (by simp)).2.2 i1 hS.hi)
             have HS:=Lib.hid hS
             clear hS HM
             go_wp2_with (go_at_call 29; refine cS.mono ?_; clear cS; rintro e w8 ⟨b8,rfl,fp8,hN8,hG8,hp8,hf8⟩)
             go_roundw
             case rel => exact ⟨m + 1,by omega,by simp,Lib.hid ⟨_,HS.out.stay hp8 hN8 hG8 hf8⟩⟩
             case measure => simp [intOf]; omega
            ·obtain rfl:m = 8:=by omega
             have hp16:P i1 ≤ 65536:=by
              have h1:=hS.act.hp
              have h2:=hS.act.hdg
              have : 2 ^ Dp i1 ≤ 2 ^ 5:=Nat.pow_le_pow_right (by decide) (by omega)
              omega
             obtain ⟨dn,cD,cDn,cDy⟩:=hS.act.fin hp16
             have HS:=Lib.hid hS
             clear hS HM hp16
             go_upto_if 176 with (go_at_call 33; refine cD.mono ?_; clear cD; rintro e w9 ⟨rfl,hb9⟩)
             go_cut [25,26] from 177 to 189 (fun s25 s26 wx => Hid (∃ i cnt X P Dp Fs fps vA,NS a w2 (hOf lh hz) lh g Ba Bm Bt Bv i 1 8 true cnt cnt X P Dp Fs fps vA K' K' V' wx))
             case first =>
              as_aux_lemma =>
               cases dn with
               | false =>
                have hS9:=(HS.out.idle (cDn rfl)).read hb9
                go_wp2_with (fail)
                go_meet
                exact Lib.hid ⟨_,_,_,_,_,_,_,_,hS9⟩
               | true =>
                have hS9:=HS.out.read hb9
                have cE:=cDy rfl w9 hb9
                have HS9:=Lib.hid hS9
                clear hS9 cDn cDy hb9
                go_wp2_with (fail)
                refine cE.mono ?_
                clear cE
                rintro e w10 (⟨rfl,f10,hN10,hp10,hf10⟩ | ⟨hd10,X10,F1,F2,f1,f2,rfl,hN1,hN2,hp10,hf1,hf2,hs12,hk1,hk2⟩)
                ·have hS10:=HS9.out.stay (hp10.mono fun b hb => List.mem_cons_of_mem _ hb) hN10 (HS9.out.gm.past hp10 ((HS9.out.far Bm (by simp)).2.2 i1 HS9.out.hi)) (fun b hb => .inl (hf10 b hb))
                 go_wp2_with (fail)
                 go_meet
                 exact Lib.hid ⟨_,_,_,_,_,_,_,_,hS10⟩
                ·have hS10:=HS9.out.two hp10 hN1 hN2 hf1 hf2 hs12 hk1 hk2
                 have h32:=hS10.n32
                 clear hp10 hN1 hN2 hf1 hf2 hs12 hk1 hk2 hd10
                 have hX10:up X' cnt X10 cnt = X10:=up_same _ _ _
                 generalize up X' cnt X10 = X11 at *
                 subst hX10
                 have k2:=hS10.box
                 have k3:w10.cell? ⟨Ba,0,none⟩ = some vA:=by rw [cell_of_row _ _ _ _ _ _ k2]; rfl
                 have kf:w10.frozen? ⟨Ba,0,none⟩ = false:=frozen_of_row _ _ 0 _ _ k2
                 have hwb:w2.heap.size ≤ w10.heap.size:=hS10.bel.size
                 have HS10:=Lib.hid hS10
                 have hBl:=(hS10.far Ba (by simp)).2.1
                 have hBaN:Ba ∉ vA.ownBlock.toList:=by
                  have:=hS10.nd
                  simp only [List.nodup_cons,List.mem_cons,not_or] at this
                  exact this.1.2.2.2
                 clear hS10 k2
                 go_wp2_with (at_builtin; refine wpList_append_lies _ rfl _ _ 79 rfl w2.heap.size 25 i0 (.pointer none) 1 8 Tryz.underlying79 hi0 hq0 hq1 hq2 rfl (by decide) _ _ _ rfl (row_below HS10.out.own (new_block _ _)) ⟨w10.heap.size,0,none⟩ 1 1 [.pointer (some ⟨X11 cnt,0,none⟩)] rfl rfl (cell_one_new w10 _ _) (by simp [Value.oneCell']) (by decide) (by simp only [maxLen]; omega) (by omega) (by simp; omega) (w10.heap.size + 1) (by simp) ?_; intro g1 c1 w11 hrA hgA haA hlA; have hS11:=HS10.out.listed (by have:=hrA; simpa [ptrsN,List.range_succ] using this) hgA haA hlA; have r11:=(((Past.of (d:=vA.ownBlock.toList) (new_block w10 _)).trans (past_grown hgA)).block Ba hBl hBaN).trans HS10.out.box; have c11:w11.cell? ⟨Ba,0,none⟩ = some vA:=(by rw [cell_of_row _ _ _ _ _ _ r11]; rfl); have f11:w11.frozen? ⟨Ba,0,none⟩ = false:=frozen_of_row _ _ 0 _ _ r11; have HS11:=Lib.hid hS11; clear hS11 r11 hrA hgA haA hlA k3 kf)
                 go_meet
                 exact Lib.hid ⟨_,_,_,_,_,_,_,_,HS11.out⟩
             case rest =>
              as_aux_lemma =>
               obtain ⟨i2,cnt2,X2,P2,Dp2,Fs2,fps2,vA2,hS12⟩:=hcut.out
               have HS12:=Lib.hid hS12
               clear hS12 hcut cDn cDy hb9 HS
               go_wp2_with (fail)
               go_loopw [192] (fun i wx => ∃ m:Nat,m ≤ lh ∧ i = .int .i64 m ∧ Hid (NS a w2 (hOf lh hz) lh g Ba Bm Bt Bv i2 1 8 true cnt2 cnt2 X2 P2 Dp2 Fs2 fps2 vA2 K' K' V' wx)) (fun i _ => lh - (intOf i).toNat)
               case atStart => exact ⟨0,by omega,rfl,HS12⟩
               case round =>
                as_aux_lemma =>
                 obtain ⟨m,hm',rfl,HJ⟩:=hrel
                 clear HS12
                 rcases Nat.lt_or_ge m lh with hml | hml
                 ·have hmi:(m:Int) < (lh:Int):=by omega
                  obtain ⟨xm,hxm,hzm,hx⟩:=HH2.out m hml
                  injection hxm with hxm
                  subst hxm
                  have c0:=hx _ HJ.out.bel
                  have cOf:=HJ.out.of (hz m) hzm
                  have eHm:hOf lh hz m = hz m:=hOf_lt hml
                  have hwm:=u64_small m (by omega)
                  have HEm:=Lib.hid eHm
                  clear hx eHm
                  generalize hz m = hm2 at *
                  go_upto_region 49 with (first
                   | (go_at_call 31; refine cOf.mono ?_; clear cOf; rintro e w13 ⟨j13,rfl,hj13,hw13,hb13⟩; have hS13:=HJ.out.read hb13; obtain ⟨e13,x13,o13,hN13⟩:=hS13.node hj13; have cF:=hN13.find hml; have hFK:=hS13.agr m hml j13 hj13 (by rw [HEm.out]; exact hw13); rw [hFK,HEm.out] at cF; have HS13:=Lib.hid hS13; clear hS13 hN13 hFK hw13 hb13)
                   | (go_at_call 16; refine cF.mono ?_; clear cF; rintro e w14 ⟨ek,ev,eh,rfl,hev,hb14⟩))
                  have h14:=HS13.out.read hb14
                  have h15:=h14.read (new_block w14 (.cells #[.int .u64 (ek:Nat),.int .u64 (ev:Nat),.int .u64 (eh:Nat)] 44))
                  have hX14:=EBox.new ek ev eh w14
                  clear h14 hb14
                  generalize w14.alloc (.cells #[.int .u64 (ek:Nat),.int .u64 (ev:Nat),.int .u64 (eh:Nat)] 44) = w15 at *
                  generalize w14.heap.size = E14 at *
                  have hth:=h15.rows.th m hml
                  have hva:=h15.rows.va m hml
                  have u1:=hX14.c1
                  have hV:=h15.vals
                  have H15:=Lib.hid h15
                  clear h15 hX14
                  cases hKm:K' m with
                  | none =>
                   rw [hKm] at hth
                   simp only [hKm,Option.isSome_none] at hth ⊢
                   clear hev hva u1
                   go_quiet (fail)
                   go_wp2
                   go_roundw
                   case rel => exact ⟨m + 1,by omega,by simp,Lib.hid (H15.out.read (below_drewN' _ _))⟩
                   case measure => simp [intOf]; omega
                  | some u =>
                   have e1:=hev u hKm
                   have e2:=hV m u hKm
                   rw [hKm] at hth
                   simp only [hKm,Option.isSome_some] at hth ⊢
                   rw [e1] at u1
                   rw [e2] at hva
                   clear hev
                   go_quiet (fail)
                   go_wp2
                   go_roundw
                   case rel => exact ⟨m + 1,by omega,by simp,Lib.hid (H15.out.read (below_drewN' _ _))⟩
                   case measure => simp [intOf]; omega
                 ·obtain rfl:m = lh:=by omega
                  go_wp2_with (fail)
                  go_roundw
                  case rel => exact ⟨j + 1,by omega,by simp,Lib.hid ⟨i2,cnt2,X2,P2,Dp2,Fs2,fps2,vA2,K',V',HJ.out⟩⟩
                  case measure => simp [intOf]; omega
     ·obtain rfl:j = lb:=by omega
      obtain ⟨i,cnt,X',P,Dp,Fs,fps,vA,K,V,hS⟩:=HO.out
      have hb:=hS.box
      have h32:=hS.n32
      have hbel:=hS.bel
      obtain ⟨GA,cA,rfl,_,_⟩:=hS.own.form hS.l1.1
      have cb:wr.cell? ⟨Ba,0,none⟩ = some (.slice (some ⟨GA,0,none⟩) cnt cA):=by rw [cell_of_row _ _ _ _ _ _ hb]; rfl
      have d32:decide ((cnt:Int) ≤ 32) = true:=decide_eq_true (by omega)
      clear hS hb
      go_wp2_with (fail)
      go_ret
      exact ⟨rfl,under.below_step HZ.out hbel⟩
end Go.Proofs.YtdplhgpeggcmdaaGreatDoor.node

/-! ### NodeFunction: the law, of every argument. -/
namespace Go.Proofs.YtdplhgpeggcmdaaGreatDoor.node
open Go.ChangeShapes Go.WideShapes Go.ChangeAt Go.RowKit Go.Shelf swar under trap meter group probe lens tail call table evac dual
attribute [local go_sem] Oper.semAt_some stage.pureUpon move.stepUpon movex.stepUpon
set_option linter.unusedSimpArgs false
set_option linter.unusedVariables false

set_option maxRecDepth 20000 in
theorem fun_more (a:String → Addr) (glob:Int) (s1:Option Addr) (lh ch:Nat) (s2:Option Addr) (lb cb:Nat) (hc:lh < 1 ∨ 100 < lh ∨ 250 < lb) (w:World) (hw:Bq a w) (hKR:choose.KR a w) (hFr:choose.FreshOk w) :
  Calls Tryz.prog 4 #[.slice s1 lh ch,.slice s2 lb cb,.int .i64 glob] w fun e w' => e = .returned (.bool true) ∧ Below w.heap.size w w':=by
 have cA:=alive_any a w hw hKR hFr
 clear hw hKR hFr
 rcases hc with h | h | h
 ·have d1:decide ((lh:Int) < 1) = true:=decide_eq_true (by omega)
  go_enter Tryz.func4,Tryz.ntmps4
  go_wp2_with (go_at_call 5; refine cA.mono ?_; rintro e w2 ⟨rfl,hb2⟩)
  go_ret
  exact ⟨rfl,hb2⟩
 ·have d1:decide ((lh:Int) < 1) = false:=decide_eq_false (by omega)
  have d2:decide (100 < (lh:Int)) = true:=decide_eq_true (by omega)
  go_enter Tryz.func4,Tryz.ntmps4
  go_wp2_with (go_at_call 5; refine cA.mono ?_; rintro e w2 ⟨rfl,hb2⟩)
  go_ret
  exact ⟨rfl,hb2⟩
 ·by_cases h1:lh < 1 ∨ 100 < lh
  ·rcases h1 with h1 | h1
   ·have d1:decide ((lh:Int) < 1) = true:=decide_eq_true (by omega)
    go_enter Tryz.func4,Tryz.ntmps4
    go_wp2_with (go_at_call 5; refine cA.mono ?_; rintro e w2 ⟨rfl,hb2⟩)
    go_ret
    exact ⟨rfl,hb2⟩
   ·have d1:decide ((lh:Int) < 1) = false:=decide_eq_false (by omega)
    have d2:decide (100 < (lh:Int)) = true:=decide_eq_true (by omega)
    go_enter Tryz.func4,Tryz.ntmps4
    go_wp2_with (go_at_call 5; refine cA.mono ?_; rintro e w2 ⟨rfl,hb2⟩)
    go_ret
    exact ⟨rfl,hb2⟩
  ·have d1:decide ((lh:Int) < 1) = false:=decide_eq_false (by omega)
   have d2:decide (100 < (lh:Int)) = false:=decide_eq_false (by omega)
   have d3:decide (250 < (lb:Int)) = true:=decide_eq_true (by omega)
   go_enter Tryz.func4,Tryz.ntmps4
   go_wp2_with (go_at_call 5; refine cA.mono ?_; rintro e w2 ⟨rfl,hb2⟩)
   go_ret
   exact ⟨rfl,hb2⟩
theorem function_law (a:String → Addr) (glob:Int) (s1:Option Addr) (lh ch:Nat) (s2:Option Addr) (lb cb:Nat) (hz:Nat → Nat) (az:Nat → Ac) (w:World) (hw:Bq a w) (hKR:choose.KR a w) (hFr:choose.FreshOk w) (hH:HashAt s1 lh w hz) (hA:ActAt s2 lb w az) :
  Calls Tryz.prog 4 #[.slice s1 lh ch,.slice s2 lb cb,.int .i64 glob] w fun e w' => e = .returned (.bool true) ∧ Below w.heap.size w w':=by
 by_cases hc:lh < 1 ∨ 100 < lh ∨ 250 < lb
 ·exact fun_more a glob s1 lh ch s2 lb cb hc w hw hKR hFr
 ·exact fun_few a glob s1 lh ch s2 lb cb (by omega) (by omega) (by omega) hz az w hw hKR hFr hH hA
end Go.Proofs.YtdplhgpeggcmdaaGreatDoor.node
