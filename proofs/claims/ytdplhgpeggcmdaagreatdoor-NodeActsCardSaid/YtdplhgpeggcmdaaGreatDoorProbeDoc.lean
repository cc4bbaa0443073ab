/- ProbeDoc: facts and laws for the walks. -/
import Derived.Test.YtdplhgpeggcmdaaGreatDoorProbeSk
namespace Go.Proofs.YtdplhgpeggcmdaaGreatDoor
set_option linter.unusedSimpArgs false
set_option linter.unusedVariables false
namespace probe
open Go.ChangeShapes Go.WideShapes Go.ChangeAt Go.RowKit Go.Shelf
attribute [local go_sem] Oper.semAt_some
def enc(k:Nat):Value:=.int .i64 (k:Nat)
theorem infoInt:(Tryz.prog.info? 3).map (fun i=>(i.zero,i.size,i.bytes))=some (some (.int .i64 0),1,8):=by kernel_rfl
theorem below_step{w W W':World}(h:Below w.heap.size w W)(h':Below W.heap.size W W'):Below w.heap.size w W':=h.trans (h'.mono h.size)
def Kept(base:Nat)(W:World)(v:Value)(l:List Nat):Prop:=W.ownsRow base 3 1 v l.length (l.map enc)∧(v=.slice none 0 0↔l=[])
end probe
namespace probe
open Go.ChangeShapes Go.WideShapes Go.ChangeAt Go.RowKit errs
theorem drewN_below(w:World)(q:Nat):Below w.heap.size w (w.drewN q):=⟨rfl,rfl,rfl,Nat.le_refl _,fun _ _=>rfl⟩
theorem rright_yes(n:Nat)(h:okN n)(w:World) :
  Calls Tryz.prog 88 #[.int .i64 n] w fun e w'=>e=.returned (.bool true)∧w=w':=by
 go_enter Tryz.func88,Tryz.ntmps88
 rcases h with rfl|rfl|rfl|rfl|rfl|rfl|rfl
 all_goals
  go_wp2;refine wp_loop_rounds 8 ?_
  iterate 8 (try (rw [rounds_succ];go_wp2))
  go_ret
  exact⟨rfl,rfl⟩
theorem rright_no(g:Int)(hg:¬∃k:Nat,g=k∧okN k)(w:World) :
  Calls Tryz.prog 88 #[.int .i64 g] w fun e w'=>e=.returned (.bool false)∧w=w':=by
 have h1:((1:Int)==g)=false:=beq_eq_false_iff_ne.2 fun e=>hg ⟨1,e.symm,by decide⟩
 have h2:((2:Int)==g)=false:=beq_eq_false_iff_ne.2 fun e=>hg ⟨2,e.symm,by decide⟩
 have h3:((4:Int)==g)=false:=beq_eq_false_iff_ne.2 fun e=>hg ⟨4,e.symm,by decide⟩
 have h4:((8:Int)==g)=false:=beq_eq_false_iff_ne.2 fun e=>hg ⟨8,e.symm,by decide⟩
 have h5:((16:Int)==g)=false:=beq_eq_false_iff_ne.2 fun e=>hg ⟨16,e.symm,by decide⟩
 have h6:((32:Int)==g)=false:=beq_eq_false_iff_ne.2 fun e=>hg ⟨32,e.symm,by decide⟩
 have h7:((64:Int)==g)=false:=beq_eq_false_iff_ne.2 fun e=>hg ⟨64,e.symm,by decide⟩
 clear hg
 go_enter Tryz.func88,Tryz.ntmps88
 go_wp2;refine wp_loop_rounds 8 ?_
 iterate 8 (try (rw [rounds_succ];go_wp2))
 go_ret
 exact⟨rfl,rfl⟩
end probe
namespace probe
open Go.ChangeShapes Go.WideShapes Go.ChangeAt Go.RowKit Go.Shelf errs
def tri:Nat→Nat
 | 0=>0
 | k+1=>tri k+k
theorem tri_le:∀k,k≤64→tri k≤2016:=by
 have h:∀k:Fin 65,tri k.val≤2016:=by decide
 exact fun k hk=>h ⟨k,by omega⟩
theorem tri_eq:∀k,tri (k+1)=k*(k+1)/2
 | 0=>rfl
 | k+1=>by rw [tri,tri_eq k,tri_succ]
theorem rat_yes(h n i:Nat)(hok:okN n)(hi:i<n)(w:World) :
  Calls Tryz.prog 167 #[.int .u64 h,.int .i64 n,.int .i64 i] w fun e w'=>e=.returned (.tuple #[.int .i64 (plc h n i:Nat),.int .i64 0])∧w=w':=by
 have hp:=okN_pos hok;have hl:=okN_le hok;have hlt:(i:Int)<(n:Int):=by omega
 have hm:=Nat.mod_lt h hp
 go_enter Tryz.func167,Tryz.ntmps167
 go_wp2_with (go_at_call 88;refine (rright_yes n hok _).mono ?_;rintro e w' ⟨rfl,rfl⟩)
 go_loopw [8,9] (fun s k wr=>∃j:Nat,j≤i+1∧k=.int .i64 j∧s=.int .u64 ((h%n+tri j:Nat):Int)∧wr=w) (fun _ k _=>i+1-(intOf k).toNat)
 case atStart=>exact⟨0,by omega,rfl,by simp [tri],rfl⟩
 case round =>
  obtain⟨j,hj,rfl,rfl,rfl⟩:=hrel;have ht:=tri_le j (by omega)
  rcases Nat.lt_or_ge i j with hij|hij
  ·obtain rfl:j=i+1:=by omega
   have hd:¬((i+1:Nat):Int)≤(i:Int):=by omega
   have he:(h%n+tri (i+1))%n=plc h n i:=by rw [tri_eq,Nat.mod_add_mod];rfl
   have hx:wrap64 (((h%n+tri (i+1):Nat):Int)%(n:Int))=((plc h n i:Nat):Int):=by
    have:=plc_lt (h:=h) (i:=i) hp;rw [←Int.natCast_emod,he,i64_nat _ (by omega)]
   have HX:=Lib.hid hx;clear hx he;generalize h%n+tri (i+1)=s at *
   go_wp2
   go_ret2
   exact⟨by rw [HX.out];rfl,rfl⟩
  ·have hd:((j:Nat):Int)≤(i:Int):=by omega
   have hs:h%n+tri (j+1)=h%n+tri j+j:=by rw [tri,Nat.add_assoc]
   have HS:=Lib.hid hs;have hb:h%n+tri j≤3000:=by omega
   clear hs ht hm;generalize h%n+tri j=s at *
   go_wp2
   go_roundw
   case rel=>exact⟨j+1,by omega,by simp,by rw [HS.out];simp,trivial⟩
   case measure=>simp [intOf];omega
def Holds(base:Nat)(W:World)(v:Value)(l:List Nat):Prop:=W.ownsRow base 3 1 v l.length (l.map enc)∧∃g c,v=.slice (some ⟨g,0,none⟩) l.length c
theorem Holds.base{base:Nat}{W:World}{v:Value}{l:List Nat}(h:Holds base W v l):∀r,v.ownBlock=some r→base≤r:=by
 obtain⟨⟨_,h⟩,g,c,rfl⟩:=h;intro r hr;simp only [Value.ownBlock,Option.some.injEq] at hr;subst hr
 rcases h with⟨h,_⟩|⟨g',c',cur,h,hb,_⟩
 ·cases h
 ·cases h;exact hb
theorem Holds.snoc{base:Nat}{W':World}{v':Value}{l:List Nat}{k:Nat}(h:W'.ownsRow base 3 1 v' (l.length+1) (l.map enc++[.int .i64 (k:Nat)])):Holds base W' v' (l++[k]):=by
 obtain⟨g,c,hv⟩:=ownsRow_succ h;refine⟨?_,g,c,by simpa using hv⟩;rw [List.length_append,List.map_append];exact h
theorem Holds.cells{base:Nat}{W:World}{v:Value}{l:List Nat}(h:Holds base W v l) :
  ∃g c,v=.slice (some ⟨g,0,none⟩) l.length c∧g<W.heap.size∧base≤g∧∀j,j<l.length→W.cell? ⟨g,j,none⟩=some (.int .i64 (l[j]?.getD 0:Nat)):=by
 obtain⟨hrow,g,c,rfl⟩:=h;refine⟨g,c,rfl, ?_, ?_,fun j hj=>?_⟩
 ·rcases hrow.2 with⟨h,_⟩|⟨g',c',cur,h,_,hg,_⟩
  ·cases h
  ·cases h;exact (Array.getElem?_eq_some_iff.1 hg).1
 ·rcases hrow.2 with⟨h,_⟩|⟨g',c',cur,h,hb,_,_⟩
  ·cases h
  ·cases h;exact hb
 ·have hc:=hrow.cells (g:=g) rfl j (enc l[j]) (by simp [hj])
  have ea:((⟨g,0,none⟩:Addr).add j)=⟨g,j,none⟩:=by unfold Addr.add;split <;> simp_all
  rw [ea] at hc;rw [hc,enc,List.getElem?_eq_getElem hj];rfl
theorem holds_new(w:World)(W:World)(h:Below w.heap.size w W):Holds w.heap.size (W.alloc (.cells #[] 3)) (.slice (some ⟨W.heap.size,0,none⟩) 0 0) []:=
 ⟨⟨rfl,.inr ⟨W.heap.size,0,#[],rfl,h.size,World.alloc_heap_new W _,Nat.le_refl _,Nat.zero_le _,rfl,rfl⟩⟩,W.heap.size,0,rfl⟩
set_option maxHeartbeats 2000000 in
theorem rorder_yes(h n:Nat)(hok:okN n)(w:World) :
  Calls Tryz.prog 143 #[.int .u64 h,.int .i64 n] w fun e w'=>∃v,e=.returned v∧Holds w.heap.size w' v (wl h n)∧Below w.heap.size w w':=by
 obtain⟨i0,hi,hz0,hz1,hz2⟩:=info_parts infoInt;have hp:=okN_pos hok;have hl:=okN_le hok
 go_enter Tryz.func143,Tryz.ntmps143
 go_wp2
 go_loopw [5,6] (fun v k wr=>∃j:Nat,j≤n∧k=.int .i64 j∧Holds w.heap.size wr v (wlj h n j)∧Below w.heap.size w wr) (fun _ k _=>n-(intOf k).toNat)
 case atStart=>exact⟨0,by omega,rfl,holds_new w w (Below.refl _ _),(Below.refl _ w).alloc (Nat.le_refl _) _⟩
 case round =>
  obtain⟨j,hj,rfl,hH,hB⟩:=hrel;have HH:=Lib.hid hH;have hrow:=Lib.hid hH.1;have hbase:=Lib.hid hH.base;clear hH
  rcases Nat.lt_or_ge j n with hjn|hjn
  ·have hji:(j:Int)<(n:Int):=by omega
   go_wp2_with (first
    | (go_at_call 88;refine (rright_yes n hok _).mono ?_;rintro e w' ⟨rfl,rfl⟩)
    | (go_at_call 167;refine (rat_yes h n j hok hjn _).mono ?_;rintro e w' ⟨rfl,rfl⟩)
    | (at_builtin;refine wpList_append_own _ rfl _ _ 149 rfl w.heap.size 3 i0 (.int .i64 0) 1 8 Tryz.underlying149 hi hz0 hz1 hz2 rfl (by decide) _ _ _ rfl (hrow.out.alloc _) ⟨wr.heap.size,0,none⟩ 1 1 [.int .i64 (plc h n j:Nat)] rfl rfl (cell_one_new _ _ _) (by simp [Value.oneCell']) (by rw [wlj_length];simp only [maxLen];omega) (by rw [wlj_length];omega) (by have:=hB.size;simp;omega) ?_;intro v' w1 hown' hgrow _;have hB1:Below w.heap.size w w1:=(hB.alloc hB.size _).grown hgrow (by have:=hB.size;simp;omega) (fun r e=>hbase.out r e);have HS:=Lib.hid (Holds.snoc (k:=plc h n j) hown');clear hown' hgrow))
   go_roundw
   case rel=>exact⟨j+1,by omega,by simp,by rw [wlj_succ];exact HS.out,hB1⟩
   case measure=>simp [intOf];omega
  ·obtain rfl:j=n:=by omega
   have hji:¬(j:Int)<(j:Int):=by omega
   go_wp2_with (go_at_call 88;refine (rright_yes j hok _).mono ?_;rintro e w' ⟨rfl,rfl⟩)
   go_ret
   exact⟨_,rfl,HH.out,hB⟩
end probe
end Go.Proofs.YtdplhgpeggcmdaaGreatDoor
