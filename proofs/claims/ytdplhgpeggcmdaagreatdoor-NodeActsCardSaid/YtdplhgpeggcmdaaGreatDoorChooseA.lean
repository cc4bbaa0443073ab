/- ChooseA: facts and laws for the walks. -/
import Derived.Test.YtdplhgpeggcmdaaGreatDoorProbeDoc
namespace Go.Proofs.YtdplhgpeggcmdaaGreatDoor
set_option linter.unusedSimpArgs false
set_option linter.unusedVariables false
namespace choose
open Go.Proofs.YtdplhgpeggcmdaaGreatDoor.probe (okN)
def rt(g:Int):Bool:=decide (g=1∨g=2∨g=4∨g=8∨g=16∨g=32∨g=64)
theorem rt_yes{g:Int}(h:rt g=true):∃n:Nat,g=n∧okN n:=by
 simp only [rt,decide_eq_true_eq] at h
 rcases h with rfl|rfl|rfl|rfl|rfl|rfl|rfl
 ·exact⟨1,rfl,by decide⟩
 ·exact⟨2,rfl,by decide⟩
 ·exact⟨4,rfl,by decide⟩
 ·exact⟨8,rfl,by decide⟩
 ·exact⟨16,rfl,by decide⟩
 ·exact⟨32,rfl,by decide⟩
 ·exact⟨64,rfl,by decide⟩
theorem rt_of(n:Nat)(h:okN n):rt (n:Int)=true:=by
 simp only [rt,decide_eq_true_eq];unfold okN at h;omega
theorem rt_no{g:Int}(h:rt g=false):¬∃n:Nat,g=n∧okN n:=by
 rintro ⟨n,rfl,hn⟩;rw [rt_of n hn] at h;cases h
theorem rt_cases{g:Int}(h:rt g=true):g=1∨g=2∨g=4∨g=8∨g=16∨g=32∨g=64:=by
 simpa only [rt,decide_eq_true_eq] using h
theorem rt_le{g:Int}(h:rt g=true):1≤g∧g≤64:=by have:=rt_cases h;omega
def mn4(x y z u:Int):Int:=if u<(if z<(if y<x then y else x) then z else (if y<x then y else x)) then u else (if z<(if y<x then y else x) then z else (if y<x then y else x))
theorem mn4_lt(x y z u:Int):decide (mn4 x y z u<0)=decide (x<0∨y<0∨z<0∨u<0):=by
 apply decide_eq_decide.2;unfold mn4;split <;> split <;> split <;> omega
theorem run_min4{P:Program}{w:World}(ts:Array TypeId)(t:TypeId)(k:IntKind)(x y z u:Int) :
  (Builtin.min_ ts t #[.int k x,.int k y,.int k z,.int k u]).run P w=.ok (.int k (mn4 x y z u)) w:=by
 simp [Builtin.min_,Builtin.min2,mn4]
def mn2(x y:Int):Int:=if y<x then y else x
theorem run_mn2{P:Program}{w:World}(ts:Array TypeId)(t:TypeId)(k:IntKind)(x y:Int) :
  (Builtin.min_ ts t #[.int k x,.int k y]).run P w=.ok (.int k (mn2 x y)) w:=by
 simp [Builtin.min_,Builtin.min2,mn2]
def nd(l t g a b:Int):Bool:=decide (0≤l∧0≤t∧0≤a∧0≤b)&&rt g&&decide (4*g≤l+t)
def wh(l t g a b:Int):Int:=
 if nd l t g a b=false then 0 else if l≤2*g then 1 else if 8≤g∧a<b then 3 else if g<64 then 2 else 1
def db(l t g a b:Int):Bool:=nd l t g a b&&decide (2*g<l∧8≤g∧a=b∧b<5)
theorem nd_yes{l t g a b:Int}(h:nd l t g a b=true):0≤l∧0≤t∧0≤a∧0≤b∧rt g=true∧4*g≤l+t:=by
 simp only [nd,Bool.and_eq_true,decide_eq_true_eq] at h;exact⟨h.1.1.1,h.1.1.2.1,h.1.1.2.2.1,h.1.1.2.2.2,h.1.2,h.2⟩
theorem nd_neg{l t g a b:Int}(h:¬(0≤l∧0≤t∧0≤a∧0≤b)):nd l t g a b=false:=by
 simp only [nd,decide_eq_false h,Bool.false_and]
theorem nd_groups{l t g a b:Int}(h:rt g=false):nd l t g a b=false:=by
 simp only [nd,h,Bool.and_false,Bool.false_and]
theorem nd_is{l t g a b:Int}(h1:0≤l)(h2:0≤t)(h3:0≤a)(h4:0≤b)(h5:rt g=true):nd l t g a b=decide (4*g-l≤t):=by
 have : 0≤l∧0≤t∧0≤a∧0≤b:=⟨h1,h2,h3,h4⟩;simp only [nd,decide_eq_true this,h5,Bool.true_and];exact decide_eq_decide.2 (by omega)
theorem wh_none{l t g a b:Int}(h:nd l t g a b=false):wh l t g a b=0:=by simp only [wh,h,if_true]
theorem wh_few{l t g a b:Int}(h:nd l t g a b=true)(h1:l≤2*g):wh l t g a b=1:=by simp [wh,h,h1]
theorem wh_split{l t g a b:Int}(h:nd l t g a b=true)(h1:2*g<l)(h2:8≤g)(h3:a<b):wh l t g a b=3:=by
 have : ¬l≤2*g:=by omega
 simp [wh,h,this,h2,h3]
theorem wh_grow{l t g a b:Int}(h:nd l t g a b=true)(h1:2*g<l)(h2:¬(8≤g∧a<b))(h3:g<64):wh l t g a b=2:=by
 have : ¬l≤2*g:=by omega
 simp only [wh,h,if_neg this,if_neg h2,if_pos h3,Bool.true_eq_false,if_false]
theorem wh_last{l t g a b:Int}(h:nd l t g a b=true)(h1:2*g<l)(h2:¬(8≤g∧a<b))(h3:64≤g):wh l t g a b=1:=by
 have : ¬l≤2*g:=by omega
 have h3':¬g<64:=by omega
 simp only [wh,h,if_neg this,if_neg h2,if_neg h3',Bool.true_eq_false,if_false]
theorem wh_cases(l t g a b:Int):(wh l t g a b=0∧nd l t g a b=false)∨(nd l t g a b=true ∧
  ((wh l t g a b=1∧(l≤2*g∨64≤g))∨(wh l t g a b=2∧2*g<l∧g<64)∨(wh l t g a b=3∧2*g<l∧8≤g∧a<b))):=by
 cases h:nd l t g a b with
 | false=>exact .inl ⟨wh_none h,rfl⟩
 | true =>
  refine .inr ⟨rfl, ?_⟩
  by_cases h1:l≤2*g
  ·exact .inl ⟨wh_few h h1,.inl h1⟩
  ·by_cases h2:8≤g∧a<b
   ·exact .inr (.inr ⟨wh_split h (by omega) h2.1 h2.2,by omega,h2.1,h2.2⟩)
   ·by_cases h3:g<64
    ·exact .inr (.inl ⟨wh_grow h (by omega) h2 h3,by omega,h3⟩)
    ·exact .inl ⟨wh_last h (by omega) h2 (by omega),.inr (by omega)⟩
def ge(k g:Int):Int:=if (1≤k∧k≤3)∧rt g=true∧¬(k=2∧g=64) then (if k=2 then 2*g else g) else 0
def gm(k g:Int):Int:=if (1≤k∧k≤3)∧rt g=true∧¬(k=2∧g=64) then (if k=3 then 2 else 1) else 0
def gx(k g:Int):Nat:=if 1≤k∧k≤3 then (if rt g=true∧¬(k=2∧g=64) then 0 else 1) else 14
def un(k g:Int):Int:=if gx k g=0 then ge k g*gm k g+g else 0
end choose
namespace choose
open Go.ChangeShapes Go.WideShapes Go.ChangeAt Go.RowKit errs
abbrev I(x:Int):Prop:=-9223372036854775808≤x∧x≤9223372036854775807
theorem right_any(g:Int)(w:World) :
  Calls Tryz.prog 117 #[.int .i64 g] w fun e w'=>e=.returned (.bool (rt g))∧w=w':=by
 cases h:rt g with
 | true=>obtain⟨n,rfl,hn⟩:=rt_yes h;exact probe.right_yes n hn w
 | false=>exact probe.right_no g (rt_no h) w
theorem needs_any(l t g a b:Int)(hl:I l)(w:World) :
  Calls Tryz.prog 125 #[.int .i64 l,.int .i64 t,.int .i64 g,.int .i64 a,.int .i64 b] w fun e w'=>e=.returned (.bool (nd l t g a b))∧w=w':=by
 have hmin:=fun (ts:Array TypeId) (ty:TypeId) (W:World)=>run_min4 (P:=Tryz.prog) (w:=W) ts ty .i64 l t a b
 have hlt:=mn4_lt l t a b;generalize mn4 l t a b=m at hmin hlt
 by_cases h:l<0∨t<0∨a<0∨b<0
 ·rw [decide_eq_true h] at hlt
  rw [nd_neg (by omega)]
  go_enter Tryz.func125,Tryz.ntmps125
  go_wp2_with (go_at_call 117;refine (right_any _ _).mono ?_;rintro e w' ⟨rfl,rfl⟩)
  all_goals (go_ret;exact⟨rfl,rfl⟩)
 ·rw [decide_eq_false h] at hlt
  have hR:=right_any g w;cases hr:rt g with
  | false =>
   rw [nd_groups hr];rw [hr] at hR
   go_enter Tryz.func125,Tryz.ntmps125
   go_wp2_with (go_at_call 117;refine hR.mono ?_;rintro e w' ⟨rfl,rfl⟩)
   all_goals (go_ret;exact⟨rfl,rfl⟩)
  | true =>
   rw [hr] at hR;have hle:=rt_le hr;rw [nd_is (by omega) (by omega) (by omega) (by omega) hr];have e1:wrap64 (4*g)=4*g:=IntWalk.wrap64_in _ (by omega);have e2:wrap64 (4*g-l)=4*g-l:=IntWalk.wrap64_in _ (by omega)
   go_enter Tryz.func125,Tryz.ntmps125
   go_wp2_with (go_at_call 117;refine hR.mono ?_;rintro e w' ⟨rfl,rfl⟩)
   all_goals (go_ret;exact⟨by simp [e1,e2],rfl⟩)
theorem which_any(l t g a b:Int)(hl:I l)(w:World) :
  Calls Tryz.prog 79 #[.int .i64 l,.int .i64 t,.int .i64 g,.int .i64 a,.int .i64 b] w fun e w'=>e=.returned (.int .i64 (wh l t g a b))∧w=w':=by
 have hN:=needs_any l t g a b hl w;cases h:nd l t g a b with
 | false =>
  rw [h] at hN;rw [wh_none h]
  go_enter Tryz.func79,Tryz.ntmps79
  go_wp2_with (go_at_call 125;refine hN.mono ?_;rintro e w' ⟨rfl,rfl⟩)
  all_goals (go_ret;exact⟨rfl,rfl⟩)
 | true =>
  rw [h] at hN;have hle:=rt_le (nd_yes h).2.2.2.2.1;have e1:wrap64 (2*g)=2*g:=IntWalk.wrap64_in _ (by omega)
  by_cases h1:l≤2*g
  ·rw [wh_few h h1]
   go_enter Tryz.func79,Tryz.ntmps79
   go_wp2_with (go_at_call 125;refine hN.mono ?_;rintro e w' ⟨rfl,rfl⟩)
   all_goals (go_ret;exact⟨rfl,rfl⟩)
  ·by_cases h2:8 ≤ g ∧ a < b
   ·rw [wh_split h (by omega) h2.1 h2.2]
    obtain⟨h3,h4⟩:=h2
    go_enter Tryz.func79,Tryz.ntmps79
    go_wp2_with (go_at_call 125;refine hN.mono ?_;rintro e w' ⟨rfl,rfl⟩)
    all_goals (go_ret;exact⟨rfl,rfl⟩)
   ·by_cases h3:g < 64
    ·rw [wh_grow h (by omega) h2 h3]
     by_cases h4:8≤g
     ·have h5:¬a<b:=fun h5=>h2 ⟨h4,h5⟩
      clear h2
      go_enter Tryz.func79,Tryz.ntmps79
      go_wp2_with (go_at_call 125;refine hN.mono ?_;rintro e w' ⟨rfl,rfl⟩)
      all_goals (go_ret;exact⟨rfl,rfl⟩)
     ·clear h2
      go_enter Tryz.func79,Tryz.ntmps79
      go_wp2_with (go_at_call 125;refine hN.mono ?_;rintro e w' ⟨rfl,rfl⟩)
      all_goals (go_ret;exact⟨rfl,rfl⟩)
    ·rw [wh_last h (by omega) h2 (by omega)]
     have h4:8≤g:=by omega
     have h5:¬a<b:=fun h5=>h2 ⟨h4,h5⟩
     clear h2
     go_enter Tryz.func79,Tryz.ntmps79
     go_wp2_with (go_at_call 125;refine hN.mono ?_;rintro e w' ⟨rfl,rfl⟩)
     all_goals (go_ret;exact⟨rfl,rfl⟩)
theorem double_any(l t g a b:Int)(hl:I l)(w:World) :
  Calls Tryz.prog 80 #[.int .i64 l,.int .i64 t,.int .i64 g,.int .i64 a,.int .i64 b] w fun e w'=>e=.returned (.bool (db l t g a b))∧w=w':=by
 have hN:=needs_any l t g a b hl w;unfold db;cases h:nd l t g a b with
 | false =>
  rw [h] at hN;rw [Bool.false_and]
  go_enter Tryz.func80,Tryz.ntmps80
  go_wp2_with (go_at_call 125;refine hN.mono ?_;rintro e w' ⟨rfl,rfl⟩)
  all_goals (go_ret;exact⟨rfl,rfl⟩)
 | true =>
  rw [h] at hN;have hle:=rt_le (nd_yes h).2.2.2.2.1;have e1:wrap64 (2*g)=2*g:=IntWalk.wrap64_in _ (by omega);rw [Bool.true_and]
  by_cases h1:2*g<l
  ·by_cases h2:8 ≤ g
   ·by_cases h3:a=b
    ·subst h3
     go_enter Tryz.func80,Tryz.ntmps80
     go_wp2_with (go_at_call 125;refine hN.mono ?_;rintro e w' ⟨rfl,rfl⟩)
     all_goals (go_ret;exact⟨by simp [h1,h2],rfl⟩)
    ·have h3':(a==b)=false:=beq_eq_false_iff_ne.2 h3
     rw [decide_eq_false (by omega)];clear h3
     go_enter Tryz.func80,Tryz.ntmps80
     go_wp2_with (go_at_call 125;refine hN.mono ?_;rintro e w' ⟨rfl,rfl⟩)
     all_goals (go_ret;exact⟨rfl,rfl⟩)
   ·rw [decide_eq_false (by omega)]
    go_enter Tryz.func80,Tryz.ntmps80
    go_wp2_with (go_at_call 125;refine hN.mono ?_;rintro e w' ⟨rfl,rfl⟩)
    all_goals (go_ret;exact⟨rfl,rfl⟩)
  ·rw [decide_eq_false (by omega)]
   go_enter Tryz.func80,Tryz.ntmps80
   go_wp2_with (go_at_call 125;refine hN.mono ?_;rintro e w' ⟨rfl,rfl⟩)
   all_goals (go_ret;exact⟨rfl,rfl⟩)
end choose
namespace choose
open Go.ChangeShapes Go.WideShapes Go.ChangeAt Go.RowKit errs
attribute [local go_sem] Oper.semAt_some
def wd(k:Int):ByteArray:=if k=0 then⟨#[110,111,110,101]⟩ else if k=1 then⟨#[115,119,101,101,112]⟩ else if k=2 then⟨#[103,114,111,119]⟩ else if k=3 then⟨#[115,112,108,105,116]⟩ else⟨#[]⟩
structure FreshOk(w:World):Prop where
 c2:w.cell? ⟨16,2,none⟩=some (.int .i64 1)
 c3:w.cell? ⟨16,3,none⟩=some (.int .i64 1)
 c4:w.cell? ⟨16,4,none⟩=some (.int .i64 2)
 c5:w.cell? ⟨16,5,none⟩=some (.int .i64 1)
 c6:w.cell? ⟨16,6,none⟩=some (.int .i64 1)
 c7:w.cell? ⟨16,7,none⟩=some (.int .i64 2)
theorem FreshOk.below{w w':World}(h:FreshOk w)(hb:Below w.heap.size w w'):FreshOk w':=by
 have hlt:=World.block_lt_of_cell? w _ h.c2;exact⟨(hb.cell (p:=⟨_,2,none⟩) hlt).trans h.c2,(hb.cell (p:=⟨_,3,none⟩) hlt).trans h.c3,(hb.cell (p:=⟨_,4,none⟩) hlt).trans h.c4,(hb.cell (p:=⟨_,5,none⟩) hlt).trans h.c5,(hb.cell (p:=⟨_,6,none⟩) hlt).trans h.c6,(hb.cell (p:=⟨_,7,none⟩) hlt).trans h.c7⟩
def ev(a:String→Addr)(n:Nat):Value:=if n=0 then .nilIface else errV (a (nm (n-1)))
structure KR(a:String→Addr)(w:World):Prop where
 k : w.cell? ⟨13, 0, none⟩ = some (errV (a "ambler/api.ErrKind"))
 r : w.cell? ⟨0, 0, none⟩ = some (errV (a "ambler/api.ErrRange"))
theorem KR.below{a:String→Addr}{w w':World}(h:KR a w)(hb:Below w.heap.size w w'):KR a w':=
 ⟨(hb.cell (p:=⟨_,0,none⟩) (World.block_lt_of_cell? w _ h.k)).trans h.k,(hb.cell (p:=⟨_,0,none⟩) (World.block_lt_of_cell? w _ h.r)).trans h.r⟩
theorem groups_kind(k g:Int)(a:String→Addr)(w:World)(hE:KR a w)(hk:¬(1≤k∧k≤3)) :
  Calls Tryz.prog 62 #[.int .i64 k, .int .i64 g] w fun e w' => e = .returned (.tuple #[.int .i64 0, .int .i64 0, errV (a "ambler/api.ErrKind")]) ∧ Below w.heap.size w w' := by
 have c:=hE.k;clear hE
 by_cases h1:k<1
 ·clear hk
  go_enter Tryz.func62,Tryz.ntmps62
  go_wp2
  go_quiet (fail)
  go_wp2
  all_goals (go_ret3;exact⟨rfl,probe.drewN_below _ _⟩)
 ·have h2:k > 3:=by omega
  clear hk
  go_enter Tryz.func62,Tryz.ntmps62
  go_wp2
  go_quiet (fail)
  go_wp2
  all_goals (go_ret3;exact⟨rfl,probe.drewN_below _ _⟩)
theorem groups_range(k g:Int)(a:String→Addr)(w:World)(hE:KR a w)(hF:FreshOk w)(hk:1≤k∧k≤3)(hg:¬(rt g=true∧¬(k=2∧g=64))) :
  Calls Tryz.prog 62 #[.int .i64 k, .int .i64 g] w fun e w' => e = .returned (.tuple #[.int .i64 0, .int .i64 0, errV (a "ambler/api.ErrRange")]) ∧ Below w.heap.size w w' := by
 have c:=hE.r;have hlt:=World.block_lt_of_cell? w _ c;obtain⟨c2,c3,c4,c5,c6,c7⟩:=hF;clear hE;cases hr:rt g with
 | false =>
  clear hg;have hR:=fun wx=>right_any g wx
  rw [hr] at hR;have h:k=1∨k=2∨k=3:=by omega
  clear hk
  rcases h with rfl|rfl|rfl
  all_goals
   go_enter Tryz.func62,Tryz.ntmps62
   go_wp2_with (go_at_call 117;refine (hR _).mono ?_;rintro e w' ⟨rfl,rfl⟩)
   go_quiet (fail)
   go_wp2
   go_ret3
   exact⟨rfl,probe.below_step ((Below.refl _ _).alloc (Nat.le_refl _) _) (probe.drewN_below _ _)⟩
 | true =>
  have h:k=2∧g=64:=by
   apply Classical.byContradiction;intro h;exact hg ⟨hr,h⟩
  obtain⟨rfl,rfl⟩:=h;clear hg hk;have hR:=fun wx=>right_any 64 wx
  have hR2:=fun wx=>right_any 128 wx
  rw [hr] at hR;rw [show rt 128=false from rfl] at hR2
  go_enter Tryz.func62,Tryz.ntmps62
  go_wp2_with (first
   | (go_at_call 117;(with_reducible refine (hR _).mono ?_);rintro e w' ⟨rfl,rfl⟩)
   | (go_at_call 117;(with_reducible refine (hR2 _).mono ?_);rintro e w' ⟨rfl,rfl⟩))
  go_quiet (fail)
  go_wp2
  go_ret3
  exact⟨rfl,probe.below_step ((Below.refl _ _).alloc (Nat.le_refl _) _) (probe.drewN_below _ _)⟩
theorem rt_two{g:Int}(h:rt g=true)(h1:g≠64):rt (2*g)=true:=by
 have:=rt_cases h;simp only [rt,decide_eq_true_eq];omega
theorem groups_yes(k g:Int)(w:World)(hF:FreshOk w)(hk:1≤k∧k≤3)(hr:rt g=true)(hg:¬(k=2∧g=64)) :
  Calls Tryz.prog 62 #[.int .i64 k,.int .i64 g] w fun e w'=>e=.returned (.tuple #[.int .i64 (if k=2 then 2*g else g),.int .i64 (if k=3 then 2 else 1),.nilIface])∧Below w.heap.size w w':=by
 have hlt:=World.block_lt_of_cell? w _ hF.c2;obtain⟨c2,c3,c4,c5,c6,c7⟩:=hF;have hle:=rt_le hr;have hR:=fun wx=>right_any g wx
 rw [hr] at hR;have e1:wrap64 (1*g)=g:=by rw [Int.one_mul];exact IntWalk.wrap64_in _ (by omega)
 have e2:wrap64 (2*g)=2*g:=IntWalk.wrap64_in _ (by omega);have h:k=1∨k=2∨k=3:=by omega
 clear hk
 rcases h with rfl|rfl|rfl
 ·clear hg
  go_enter Tryz.func62,Tryz.ntmps62
  go_wp2_with (go_at_call 117;refine (hR _).mono ?_;rintro e w' ⟨rfl,rfl⟩)
  go_quiet (fail)
  go_wp2
  go_ret3
  exact⟨rfl,probe.below_step ((Below.refl _ _).alloc (Nat.le_refl _) _) (probe.drewN_below _ _)⟩
 ·have hR2:=fun wx=>right_any (2*g) wx
  rw [rt_two hr (fun e=>hg ⟨rfl,e⟩)] at hR2;clear hg
  go_enter Tryz.func62,Tryz.ntmps62
  go_wp2_with (first
   | (go_at_call 117;(with_reducible refine (hR _).mono ?_);rintro e w' ⟨rfl,rfl⟩)
   | (go_at_call 117;(with_reducible refine (hR2 _).mono ?_);rintro e w' ⟨rfl,rfl⟩))
  go_quiet (fail)
  go_wp2
  go_ret3
  exact⟨rfl,probe.below_step ((Below.refl _ _).alloc (Nat.le_refl _) _) (probe.drewN_below _ _)⟩
 ·clear hg
  go_enter Tryz.func62,Tryz.ntmps62
  go_wp2_with (go_at_call 117;refine (hR _).mono ?_;rintro e w' ⟨rfl,rfl⟩)
  go_quiet (fail)
  go_wp2
  go_ret3
  exact⟨rfl,probe.below_step ((Below.refl _ _).alloc (Nat.le_refl _) _) (probe.drewN_below _ _)⟩
theorem ev_kind (a : String → Addr) : ev a 14 = errV (a "ambler/api.ErrKind") := rfl
theorem ev_range (a : String → Addr) : ev a 1 = errV (a "ambler/api.ErrRange") := rfl
theorem ev_none(a:String→Addr):ev a 0=.nilIface:=rfl
theorem groups_any(k g:Int)(a:String→Addr)(w:World)(hE:KR a w)(hF:FreshOk w) :
  Calls Tryz.prog 62 #[.int .i64 k,.int .i64 g] w fun e w'=>e=.returned (.tuple #[.int .i64 (ge k g),.int .i64 (gm k g),ev a (gx k g)])∧Below w.heap.size w w':=by
 by_cases hk:1≤k∧k≤3
 ·by_cases hg:rt g=true∧¬(k=2∧g=64)
  ·have e1:ge k g=if k=2 then 2*g else g:=by unfold ge;rw [if_pos ⟨hk,hg⟩]
   have e2:gm k g=if k=3 then 2 else 1:=by unfold gm;rw [if_pos ⟨hk,hg⟩]
   have e3:gx k g=0:=by unfold gx;rw [if_pos hk,if_pos hg]
   rw [e1,e2,e3,ev_none];exact groups_yes k g w hF hk hg.1 hg.2
  ·have e1:ge k g=0:=by unfold ge;rw [if_neg (fun h=>hg h.2)]
   have e2:gm k g=0:=by unfold gm;rw [if_neg (fun h=>hg h.2)]
   have e3:gx k g=1:=by unfold gx;rw [if_pos hk,if_neg hg]
   rw [e1,e2,e3,ev_range];exact groups_range k g a w hE hF hk hg
 ·have e1:ge k g=0:=by unfold ge;rw [if_neg (fun h=>hk h.1)]
  have e2:gm k g=0:=by unfold gm;rw [if_neg (fun h=>hk h.1)]
  have e3:gx k g=14:=by unfold gx;rw [if_neg hk]
  rw [e1,e2,e3,ev_kind];exact groups_kind k g a w hE hk
theorem gx_cases(k g:Int):gx k g=0∨gx k g=1∨gx k g=14:=by
 unfold gx;split
 ·split
  ·exact .inl rfl
  ·exact .inr (.inl rfl)
 ·exact .inr (.inr rfl)
end choose
end Go.Proofs.YtdplhgpeggcmdaaGreatDoor
