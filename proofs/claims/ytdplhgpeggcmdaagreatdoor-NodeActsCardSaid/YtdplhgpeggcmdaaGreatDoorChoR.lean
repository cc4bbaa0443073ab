/- ChoR: facts and laws for the walks. -/
import Derived.Test.YtdplhgpeggcmdaaGreatDoorChooseA
namespace Go.Proofs.YtdplhgpeggcmdaaGreatDoor
set_option linter.unusedSimpArgs false
set_option linter.unusedVariables false
open Go.ChangeShapes Go.WideShapes Go.ChangeAt Go.RowKit errs under
namespace choose
theorem rright_any(g:Int)(w:World) :
  Calls Tryz.prog 88 #[.int .i64 g] w fun e w'=>e=.returned (.bool (rt g))∧w=w':=by
 cases h:rt g with
 | true=>obtain⟨n,rfl,hn⟩:=rt_yes h;exact probe.rright_yes n hn w
 | false=>exact probe.rright_no g (rt_no h) w
theorem sum_few{l t g:Int}(h1:0≤l)(h2:0≤t)(hg:1≤g∧g≤64):decide (mn2 l 1000+mn2 t 1000<4*g)=decide (l+t<4*g):=by
 apply decide_eq_decide.2;unfold mn2;split <;> split <;> omega
theorem mn2_le{l:Int}(h:0≤l):0≤mn2 l 1000∧mn2 l 1000≤1000:=by unfold mn2;split <;> omega
set_option maxHeartbeats 2000000 in
theorem rwhich_any(l t g a b:Int)(w:World) :
  Calls Tryz.prog 60 #[.int .i64 l,.int .i64 t,.int .i64 g,.int .i64 a,.int .i64 b] w fun e w'=>e=.returned (.int .i64 (wh l t g a b))∧w=w':=by
 have hR:=rright_any g w
 by_cases h0:0≤l∧0≤t∧0≤a∧0≤b
 ·obtain⟨h1,h2,h3,h4⟩:=h0
  have d1:decide (l<0)=false:=decide_eq_false (by omega);have d2:decide (t<0)=false:=decide_eq_false (by omega);have d3:decide (a<0)=false:=decide_eq_false (by omega);have d4:decide (b<0)=false:=decide_eq_false (by omega);cases hr:rt g with
  | false =>
   rw [wh_none (nd_groups hr)];rw [hr] at hR
   go_enter Tryz.func60,Tryz.ntmps60
   go_wp2_with (go_at_call 88;refine hR.mono ?_;rintro e w' ⟨rfl,rfl⟩)
   all_goals (go_ret;exact⟨rfl,rfl⟩)
  | true =>
   rw [hr] at hR;have hle:=rt_le hr;have hm1:=fun (ts:Array TypeId) (ty:TypeId) (W:World)=>run_mn2 (P:=Tryz.prog) (w:=W) ts ty .i64 l 1000
   have hm2:=fun (ts:Array TypeId) (ty:TypeId) (W:World)=>run_mn2 (P:=Tryz.prog) (w:=W) ts ty .i64 t 1000
   have hs:=sum_few h1 h2 hle;have b1:=mn2_le h1;have b2:=mn2_le h2
   have hnd:nd l t g a b=!(decide (l+t<4*g)):=by
    rw [nd_is h1 h2 h3 h4 hr,←decide_not];exact decide_eq_decide.2 (by omega)
   generalize mn2 l 1000=x at *
   generalize mn2 t 1000=y at *
   have e0:wrap64 (x+y)=x+y:=IntWalk.wrap64_in _ (by omega);have e1:wrap64 (4*g)=4*g:=IntWalk.wrap64_in _ (by omega);have e2:wrap64 (2*g)=2*g:=IntWalk.wrap64_in _ (by omega);cases hn:nd l t g a b with
   | false =>
    rw [wh_none hn];rw [hn] at hnd;have hq:decide (x+y<4*g)=true:=by rw [hs];simpa using hnd.symm
    clear hs hnd
    go_enter Tryz.func60,Tryz.ntmps60
    go_wp2_with (go_at_call 88;refine hR.mono ?_;rintro e w' ⟨rfl,rfl⟩)
    all_goals (go_ret;exact⟨rfl,rfl⟩)
   | true =>
    rw [hn] at hnd;have hq:decide (x+y<4*g)=false:=by rw [hs];simpa using hnd.symm
    clear hs hnd
    by_cases k1:l≤2*g
    ·rw [wh_few hn k1]
     go_enter Tryz.func60,Tryz.ntmps60
     go_wp2_with (go_at_call 88;refine hR.mono ?_;rintro e w' ⟨rfl,rfl⟩)
     all_goals (go_ret;exact⟨rfl,rfl⟩)
    ·by_cases k2:8 ≤ g ∧ a < b
     ·rw [wh_split hn (by omega) k2.1 k2.2]
      obtain⟨k3,k4⟩:=k2
      go_enter Tryz.func60,Tryz.ntmps60
      go_wp2_with (go_at_call 88;refine hR.mono ?_;rintro e w' ⟨rfl,rfl⟩)
      all_goals (go_ret;exact⟨rfl,rfl⟩)
     ·by_cases k3:g < 64
      ·rw [wh_grow hn (by omega) k2 k3]
       by_cases k4:8≤g
       ·have k5:¬a<b:=fun k5=>k2 ⟨k4,k5⟩
        clear k2
        go_enter Tryz.func60,Tryz.ntmps60
        go_wp2_with (go_at_call 88;refine hR.mono ?_;rintro e w' ⟨rfl,rfl⟩)
        all_goals (go_ret;exact⟨rfl,rfl⟩)
       ·clear k2
        go_enter Tryz.func60,Tryz.ntmps60
        go_wp2_with (go_at_call 88;refine hR.mono ?_;rintro e w' ⟨rfl,rfl⟩)
        all_goals (go_ret;exact⟨rfl,rfl⟩)
      ·rw [wh_last hn (by omega) k2 (by omega)]
       have k4:8≤g:=by omega
       have k5:¬a<b:=fun k5=>k2 ⟨k4,k5⟩
       clear k2
       go_enter Tryz.func60,Tryz.ntmps60
       go_wp2_with (go_at_call 88;refine hR.mono ?_;rintro e w' ⟨rfl,rfl⟩)
       all_goals (go_ret;exact⟨rfl,rfl⟩)
 ·rw [wh_none (nd_neg h0)]
  clear hR;have h:l<0∨(¬l<0∧t<0)∨(¬l<0∧¬t<0∧a<0)∨(¬l<0∧¬t<0∧¬a<0∧b<0):=by omega
  clear h0
  rcases h with h|⟨h0,h⟩|⟨h0,h1,h⟩|⟨h0,h1,h2,h⟩
  all_goals
   go_enter Tryz.func60,Tryz.ntmps60
   go_wp2
   all_goals (go_ret;exact⟨rfl,rfl⟩)
theorem rdouble_any(l t g a b:Int)(w:World) :
  Calls Tryz.prog 61 #[.int .i64 l,.int .i64 t,.int .i64 g,.int .i64 a,.int .i64 b] w fun e w'=>e=.returned (.bool (db l t g a b))∧w=w':=by
 have hN:=rwhich_any l t g a b w;unfold db;cases h:nd l t g a b with
 | false =>
  rw [wh_none h] at hN;rw [Bool.false_and]
  go_enter Tryz.func61,Tryz.ntmps61
  go_wp2_with (go_at_call 60;refine hN.mono ?_;rintro e w' ⟨rfl,rfl⟩)
  all_goals (go_ret;exact⟨rfl,rfl⟩)
 | true =>
  have hk:(wh l t g a b==0)=false:=by
   rcases wh_cases l t g a b with⟨_,hn⟩|⟨_,⟨hk,_⟩|⟨hk,_⟩|⟨hk,_⟩⟩
   ·rw [h] at hn;cases hn
   all_goals (rw [hk];rfl)
  generalize wh l t g a b=k at hN hk;have hle:=rt_le (nd_yes h).2.2.2.2.1;have e1:wrap64 (2*g)=2*g:=IntWalk.wrap64_in _ (by omega);rw [Bool.true_and]
  by_cases h1:2*g<l
  ·by_cases h2:8 ≤ g
   ·by_cases h3:a=b
    ·subst h3
     go_enter Tryz.func61,Tryz.ntmps61
     go_wp2_with (go_at_call 60;refine hN.mono ?_;rintro e w' ⟨rfl,rfl⟩)
     all_goals (go_ret;exact⟨by first|(simp [h1,h2];done)|simp_all,rfl⟩)
    ·have h3':(a==b)=false:=beq_eq_false_iff_ne.2 h3
     rw [decide_eq_false (by omega)];clear h3
     go_enter Tryz.func61,Tryz.ntmps61
     go_wp2_with (go_at_call 60;refine hN.mono ?_;rintro e w' ⟨rfl,rfl⟩)
     all_goals (go_ret;exact⟨rfl,rfl⟩)
   ·rw [decide_eq_false (by omega)]
    go_enter Tryz.func61,Tryz.ntmps61
    go_wp2_with (go_at_call 60;refine hN.mono ?_;rintro e w' ⟨rfl,rfl⟩)
    all_goals (go_ret;exact⟨rfl,rfl⟩)
  ·rw [decide_eq_false (by omega)]
   go_enter Tryz.func61,Tryz.ntmps61
   go_wp2_with (go_at_call 60;refine hN.mono ?_;rintro e w' ⟨rfl,rfl⟩)
   all_goals (go_ret;exact⟨rfl,rfl⟩)
theorem two_below(w:World)(o p:Obj):Below w.heap.size w ((w.alloc o).alloc p).drew:=probe.below_step (((Below.refl _ _).alloc (Nat.le_refl _) _).alloc (by simp) _) (under.drew_below _)
theorem rgroups_yes(k g:Int)(w:World)(hk:1≤k∧k≤3)(hr:rt g=true)(hg:¬(k=2∧g=64)) :
  Calls Tryz.prog 66 #[.int .i64 k,.int .i64 g] w fun e w'=>e=.returned (.tuple #[.int .i64 (if k=2 then 2*g else g),.int .i64 (if k=3 then 2 else 1),.int .i64 0])∧Below w.heap.size w w':=by
 have hle:=rt_le hr;have hR:=fun wx=>rright_any g wx
 rw [hr] at hR;have e2:wrap64 (2*g)=2*g:=IntWalk.wrap64_in _ (by omega);have h:k=1∨k=2∨k=3:=by omega
 clear hk
 rcases h with rfl|rfl|rfl
 ·clear hg
  go_enter Tryz.func66,Tryz.ntmps66
  go_wp2_with (go_at_call 88;refine (hR _).mono ?_;rintro e w' ⟨rfl,rfl⟩)
  go_region
  all_goals
   go_wp2
   go_ret3
   exact⟨rfl,two_below _ _ _⟩
 ·have h64:(g==64)=false:=beq_eq_false_iff_ne.2 fun e=>hg ⟨rfl,e⟩
  clear hg
  go_enter Tryz.func66,Tryz.ntmps66
  go_wp2_with (go_at_call 88;refine (hR _).mono ?_;rintro e w' ⟨rfl,rfl⟩)
  go_region
  all_goals
   go_wp2
   go_ret3
   exact⟨rfl,two_below _ _ _⟩
 ·clear hg
  go_enter Tryz.func66,Tryz.ntmps66
  go_wp2_with (go_at_call 88;refine (hR _).mono ?_;rintro e w' ⟨rfl,rfl⟩)
  go_region
  all_goals
   go_wp2
   go_ret3
   exact⟨rfl,two_below _ _ _⟩
theorem rgroups_kind(k g:Int)(w:World)(hk:¬(1≤k∧k≤3)) :
  Calls Tryz.prog 66 #[.int .i64 k,.int .i64 g] w fun e w'=>e=.returned (.tuple #[.int .i64 0,.int .i64 0,.int .i64 14])∧Below w.heap.size w w':=by
 by_cases h1:k<1
 ·clear hk
  go_enter Tryz.func66,Tryz.ntmps66
  go_wp2
  all_goals (go_ret3;exact⟨rfl,Below.refl _ _⟩)
 ·have h2:k > 3:=by omega
  clear hk
  go_enter Tryz.func66,Tryz.ntmps66
  go_wp2
  all_goals (go_ret3;exact⟨rfl,Below.refl _ _⟩)
theorem rgroups_range(k g:Int)(w:World)(hk:1≤k∧k≤3)(hg:¬(rt g=true∧¬(k=2∧g=64))) :
  Calls Tryz.prog 66 #[.int .i64 k,.int .i64 g] w fun e w'=>e=.returned (.tuple #[.int .i64 0,.int .i64 0,.int .i64 1])∧Below w.heap.size w w':=by
 have hR:=fun wx=>rright_any g wx
 cases hr:rt g with
 | false =>
  clear hg;rw [hr] at hR;have h:k=1∨k=2∨k=3:=by omega
  clear hk
  rcases h with rfl|rfl|rfl
  all_goals
   go_enter Tryz.func66,Tryz.ntmps66
   go_wp2_with (go_at_call 88;refine (hR _).mono ?_;rintro e w' ⟨rfl,rfl⟩)
   all_goals (go_ret3;exact⟨rfl,Below.refl _ _⟩)
 | true =>
  have h:k=2∧g=64:=by
   apply Classical.byContradiction;intro h;exact hg ⟨hr,h⟩
  obtain⟨rfl,rfl⟩:=h;clear hg hk;rw [hr] at hR
  go_enter Tryz.func66,Tryz.ntmps66
  go_wp2_with (go_at_call 88;refine (hR _).mono ?_;rintro e w' ⟨rfl,rfl⟩)
  all_goals (go_ret3;exact⟨rfl,Below.refl _ _⟩)
theorem rgroups_any(k g:Int)(w:World) :
  Calls Tryz.prog 66 #[.int .i64 k,.int .i64 g] w fun e w'=>e=.returned (.tuple #[.int .i64 (ge k g),.int .i64 (gm k g),.int .i64 (gx k g:Nat)])∧Below w.heap.size w w':=by
 by_cases hk:1≤k∧k≤3
 ·by_cases hg:rt g=true∧¬(k=2∧g=64)
  ·have e1:ge k g=if k=2 then 2*g else g:=by unfold ge;rw [if_pos ⟨hk,hg⟩]
   have e2:gm k g=if k=3 then 2 else 1:=by unfold gm;rw [if_pos ⟨hk,hg⟩]
   have e3:gx k g=0:=by unfold gx;rw [if_pos hk,if_pos hg]
   rw [e1,e2,e3];exact rgroups_yes k g w hk hg.1 hg.2
  ·have e1:ge k g=0:=by unfold ge;rw [if_neg (fun h=>hg h.2)]
   have e2:gm k g=0:=by unfold gm;rw [if_neg (fun h=>hg h.2)]
   have e3:gx k g=1:=by unfold gx;rw [if_pos hk,if_neg hg]
   rw [e1,e2,e3];exact rgroups_range k g w hk hg
 ·have e1:ge k g=0:=by unfold ge;rw [if_neg (fun h=>hk h.1)]
  have e2:gm k g=0:=by unfold gm;rw [if_neg (fun h=>hk h.1)]
  have e3:gx k g=14:=by unfold gx;rw [if_neg hk]
  rw [e1,e2,e3];exact rgroups_kind k g w hk
end choose
end Go.Proofs.YtdplhgpeggcmdaaGreatDoor
