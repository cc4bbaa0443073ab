/- SplLess: facts and laws for the walks. -/
import Derived.Test.YtdplhgpeggcmdaaGreatDoorKit
import Derived.Test.YtdplhgpeggcmdaaGreatDoorErrC
namespace Go.Proofs.YtdplhgpeggcmdaaGreatDoor
set_option linter.unusedSimpArgs false
set_option linter.unusedVariables false
open Go.ChangeShapes Go.WideShapes Go.ChangeAt Go.RowKit
namespace split
theorem isDepth_yes(d:Nat)(hd:d≤16)(w:World) :
  Calls Tryz.prog 92 #[.int .i64 d] w fun e w'=>e=.returned (.bool true)∧w=w':=by
 have h':decide ((d:Int)≤16)=true:=decide_eq_true (by omega)
 go_enter Tryz.func92,Tryz.ntmps92
 go_wp2
 all_goals (go_ret;exact⟨by simp_all,rfl⟩)
theorem isDepth_no(i:Int)(h:i<0∨16<i)(w:World) :
  Calls Tryz.prog 92 #[.int .i64 i] w fun e w'=>e=.returned (.bool false)∧w=w':=by
 rcases h with h|h
 ·have h':decide ((0:Int)≤i)=false:=decide_eq_false (by omega)
  go_enter Tryz.func92,Tryz.ntmps92
  go_wp2
  all_goals (go_ret;exact⟨by simp_all,rfl⟩)
 ·have h':decide ((0:Int)≤i)=true:=decide_eq_true (by omega)
  have h'':decide (i≤16)=false:=decide_eq_false (by omega)
  go_enter Tryz.func92,Tryz.ntmps92
  go_wp2
  all_goals (go_ret;exact⟨by simp_all,rfl⟩)
theorem i64_nat(n:Nat)(h:n<9223372036854775808):wrap64 (n:Int)=(n:Int):=Go.IntWalk.wrap64_in _ (by omega)
theorem cast_pow(n:Nat):((2:Int)^n)=((2^n:Nat):Int):=by simp
theorem cast_div(h n:Nat):((h:Int)/2^n)=((h/2^n:Nat):Int):=by simp
theorem top_small(h d:Nat)(hh:h<18446744073709551616)(hd:d≤16):h/2^(64-d)<65536:=
 Nat.lt_of_lt_of_le (top_lt h d hh (by omega)) (Nat.pow_le_pow_right (by decide) hd)
theorem pow_small(d:Nat)(hd:d≤16):2^d≤65536:=Nat.pow_le_pow_right (by decide) hd
theorem ltop_any(h d:Nat)(hh:h<18446744073709551616)(hd:d≤16)(w:World) :
  Calls Tryz.prog 44 #[.int .u64 h,.int .i64 d] w fun e w'=>e=.returned (.int .i64 ((h/2^(64-d):Nat):Int))∧w=w':=by
 have e:wrap64 ((h:Int)/2^(64-d))=((h/2^(64-d):Nat):Int):=by
  rw [cast_div,i64_nat (h/2^(64-d)) (by have:=top_small h d hh hd;omega)]
 go_enter Tryz.func44,Tryz.ntmps44
 go_wp2
 go_ret
 exact⟨by rw [e];rfl,rfl⟩
theorem h1_any(h:Nat)(w:World) :
  Calls Tryz.prog 95 #[.int .u64 h] w fun e w'=>e=.returned (.int .u64 ((h/128:Nat):Int))∧w=w':=by
 go_enter Tryz.func95,Tryz.ntmps95
 go_wp2
 go_ret
 exact⟨by simp,rfl⟩
theorem h2_any(h:Nat)(hh:h<18446744073709551616)(w:World) :
  Calls Tryz.prog 136 #[.int .u64 h] w fun e w'=>e=.returned (.int .u8 ((h%128:Nat):Int))∧w=w':=by
 go_enter Tryz.func136,Tryz.ntmps136
 have e:bits .and .u64 (h:Int) 127%256=((h%128:Nat):Int):=by
  rw [show (127:Int)=((127:Nat):Int) from rfl,u64_and_nat _ _ hh (by decide),show h&&&127=h%128 from Nat.and_two_pow_sub_one_eq_mod h 7];omega
 go_wp2
 go_ret
 exact⟨by rw [e];rfl,rfl⟩
theorem bit_yes(h d:Nat)(hh:h<18446744073709551616)(hd:d≤16)(w:World) :
  Calls Tryz.prog 157 #[.int .u64 h,.int .i64 d] w fun e w'=>e=.returned (.tuple #[.int .i64 ((bitN h d:Nat):Int),.nilIface])∧w=w':=by
 go_enter Tryz.func157,Tryz.ntmps157
 go_wp2_with (go_at_call 92;refine (isDepth_yes d hd _).mono ?_;rintro e w' ⟨rfl,rfl⟩)
 go_ret2
 refine⟨?_,rfl⟩;have hlt:h/2^(63-d)<18446744073709551616:=Nat.lt_of_le_of_lt (Nat.div_le_self _ _) hh
 have e:wrap64 (bits .and .u64 ((h:Int)/2^(63-d)) 1)=((bitN h d:Nat):Int):=by
  rw [cast_div,show (1:Int)=((1:Nat):Int) from rfl,u64_and_nat _ _ hlt (by decide),show (h/2^(63-d))&&&1=(h/2^(63-d))%2 from Nat.and_two_pow_sub_one_eq_mod _ 1];exact i64_nat _ (by have:=bitN_lt h d;unfold bitN at this;omega)
 rw [e];rfl
theorem isPrefix_yes(p d:Nat)(hd:d≤16)(hp:p<2^d)(w:World) :
  Calls Tryz.prog 43 #[.int .i64 p,.int .i64 d] w fun e w'=>e=.returned (.bool true)∧w=w':=by
 have e:wrap64 ((2:Int)^d)=((2^d:Nat):Int):=by
  rw [cast_pow,i64_nat (2^d) (by have:=pow_small d hd;omega)]
 have e2:decide ((p:Int)<(2:Int)^d)=true:=decide_eq_true (by rw [cast_pow];omega)
 go_enter Tryz.func43,Tryz.ntmps43
 go_wp2_with (go_at_call 92;refine (isDepth_yes d hd _).mono ?_;rintro e w' ⟨rfl,rfl⟩)
 all_goals (go_ret;exact⟨by first|rfl|(rw [e2];rfl),rfl⟩)
theorem isPrefix_neg(p:Int)(d:Nat)(hd:d≤16)(hp:p<0)(w:World) :
  Calls Tryz.prog 43 #[.int .i64 p,.int .i64 d] w fun e w'=>e=.returned (.bool false)∧w=w':=by
 have h':decide ((0:Int)≤p)=false:=decide_eq_false (by omega)
 go_enter Tryz.func43,Tryz.ntmps43
 go_wp2_with (go_at_call 92;refine (isDepth_yes d hd _).mono ?_;rintro e w' ⟨rfl,rfl⟩)
 all_goals (go_ret;exact⟨rfl,rfl⟩)
theorem isPrefix_big(p d:Nat)(hd:d≤16)(hp:2^d≤p)(w:World) :
  Calls Tryz.prog 43 #[.int .i64 p,.int .i64 d] w fun e w'=>e=.returned (.bool false)∧w=w':=by
 have e:wrap64 ((2:Int)^d)=((2^d:Nat):Int):=by
  rw [cast_pow,i64_nat (2^d) (by have:=pow_small d hd;omega)]
 have e2:decide ((p:Int)<(2:Int)^d)=false:=decide_eq_false (by rw [cast_pow];omega)
 go_enter Tryz.func43,Tryz.ntmps43
 go_wp2_with (go_at_call 92;refine (isDepth_yes d hd _).mono ?_;rintro e w' ⟨rfl,rfl⟩)
 all_goals (go_ret;exact⟨by first|rfl|(rw [e2];rfl),rfl⟩)
theorem isPrefix_deep(p i:Int)(h:i<0∨16<i)(w:World) :
  Calls Tryz.prog 43 #[.int .i64 p,.int .i64 i] w fun e w'=>e=.returned (.bool false)∧w=w':=by
 go_enter Tryz.func43,Tryz.ntmps43
 go_wp2_with (go_at_call 92;refine (isDepth_no i h _).mono ?_;rintro e w' ⟨rfl,rfl⟩)
 all_goals (go_ret;exact⟨rfl,rfl⟩)
def NoPrefix(p i:Int):Prop:=i<0∨16<i∨p<0∨(2:Int)^i.toNat≤p
theorem isPrefix_no(p i:Int)(h:NoPrefix p i)(w:World) :
  Calls Tryz.prog 43 #[.int .i64 p,.int .i64 i] w fun e w'=>e=.returned (.bool false)∧w=w':=by
 by_cases hi:i<0∨16<i
 ·exact isPrefix_deep p i hi w
 ·obtain⟨d,rfl⟩:=Int.eq_ofNat_of_zero_le (show 0≤i by omega)
  by_cases hp:p<0
  ·exact isPrefix_neg p d (by omega) hp w
  ·obtain⟨n,rfl⟩:=Int.eq_ofNat_of_zero_le (show 0≤p by omega)
   refine isPrefix_big n d (by omega) ?_ w
   rcases h with h|h|h|h
   ·omega
   ·omega
   ·omega
   ·rw [Int.toNat_natCast] at h;exact_mod_cast h
def lowN(p d:Nat):Nat:=p*2^(64-d)
theorem lowN_lt(p d:Nat)(hd:d≤64)(hp:p<2^d):lowN p d+(2^(64-d)-1)<18446744073709551616:=by
 have h1:(p+1)*2^(64-d)≤2^d*2^(64-d):=Nat.mul_le_mul_right _ (by omega);rw [←Nat.pow_add,show d+(64-d)=64 by omega,Nat.add_mul] at h1;have h2:0<2^(64-d):=Nat.pow_pos (by decide);unfold lowN;omega
theorem llow_any(p d:Nat)(hd:d≤16)(hp:p<2^d)(w:World) :
  Calls Tryz.prog 82 #[.int .i64 p,.int .i64 d] w fun e w'=>e=.returned (.int .u64 ((lowN p d:Nat):Int))∧w=w':=by
 have hp2:p<65536:=Nat.lt_of_lt_of_le hp (pow_small d hd)
 go_enter Tryz.func82,Tryz.ntmps82
 have e:IntKind.u64.wrap ((p:Int)*2^(64-d))=((lowN p d:Nat):Int):=by
  have h:=lowN_lt p d (by omega) hp;unfold lowN at h ⊢;rw [cast_pow,←Int.natCast_mul,IntKind.wrap_u64];omega
 go_wp2
 go_ret
 exact⟨rfl,rfl⟩
theorem low_yes(p d:Nat)(hd:d≤16)(hp:p<2^d)(w:World) :
  Calls Tryz.prog 36 #[.int .i64 p,.int .i64 d] w fun e w'=>e=.returned (.tuple #[.int .u64 ((lowN p d:Nat):Int),.nilIface])∧w=w':=by
 go_enter Tryz.func36,Tryz.ntmps36
 go_wp2_with (first
  | (go_at_call 43;refine (isPrefix_yes p d hd hp _).mono ?_;rintro e w' ⟨rfl,rfl⟩)
  | (go_at_call 82;refine (llow_any p d hd hp _).mono ?_;rintro e w' ⟨rfl,rfl⟩))
 go_ret2
 exact⟨rfl,rfl⟩
theorem low_no(p i:Int)(h:NoPrefix p i)(w:World)(er:Value)(hr:w.cell? ⟨0,0,none⟩=some er) :
  Calls Tryz.prog 36 #[.int .i64 p,.int .i64 i] w fun e w'=>e=.returned (.tuple #[.int .u64 0,er])∧∃q,w'=w.drewN q:=by
 go_enter Tryz.func36,Tryz.ntmps36
 go_wp2_with (go_at_call 43;refine (isPrefix_no p i h _).mono ?_;rintro e w' ⟨rfl,rfl⟩)
 go_quiet (fail)
 go_wp2
 go_ret2
 exact⟨rfl,_,rfl⟩
theorem within_yes(h p d:Nat)(hh:h<18446744073709551616)(hd:d≤16)(hp:p<2^d)(w:World) :
  Calls Tryz.prog 10 #[.int .u64 h,.int .i64 p,.int .i64 d] w fun e w'=>e=.returned (.bool (decide (h/2^(64-d)=p)))∧w=w':=by
 go_enter Tryz.func10,Tryz.ntmps10
 go_wp2_with (first
  | (go_at_call 43;refine (isPrefix_yes p d hd hp _).mono ?_;rintro e w' ⟨rfl,rfl⟩)
  | (go_at_call 44;refine (ltop_any h d hh hd _).mono ?_;rintro e w' ⟨rfl,rfl⟩))
 all_goals
  go_ret
  refine⟨?_,rfl⟩;show Ending.returned (.bool ((h:Int)/2^(64-d)==(p:Int)))=_;rw [cast_div];generalize h/2^(64-d)=x;congr 2;rw [Bool.eq_iff_iff];simp;omega
abbrev entV(k v h:Nat):Value:=.agg #[.int .u64 ((k:Nat):Int),.int .u64 ((v:Nat):Int),.int .u64 ((h:Nat):Int)]
def lessB(k1 h1 k2 h2:Nat):Bool:=if h1=h2 then decide (k1<k2) else decide (h1<h2)
theorem less_any(k1 v1 h1 k2 v2 h2:Nat)(w:World) :
  Calls Tryz.prog 214 #[entV k1 v1 h1,entV k2 v2 h2] w fun e w'=>e=.returned (.bool (lessB k1 h1 k2 h2))∧Below w.heap.size w w':=by
 by_cases h:h1=h2
 ·have e:((h1:Int) != (h2:Int))=false:=by simp [h]
  have e2:lessB k1 h1 k2 h2=decide ((k1:Int)<(k2:Int)):=by unfold lessB;rw [if_pos h];rw [Bool.eq_iff_iff];simp
  rw [e2];clear e2
  go_enter Tryz.func214,Tryz.ntmps214
  go_wp2
  all_goals
   go_ret
   refine⟨by simp, ?_⟩;exact ((Below.refl _ _).alloc (Nat.le_refl _) _).alloc (by simp) _
 ·have e:((h1:Int) != (h2:Int))=true:=by simp;omega
  have e2:lessB k1 h1 k2 h2=decide ((h1:Int)<(h2:Int)):=by unfold lessB;rw [if_neg h];rw [Bool.eq_iff_iff];simp
  rw [e2];clear e2
  go_enter Tryz.func214,Tryz.ntmps214
  go_wp2
  all_goals
   go_ret
   refine⟨by simp, ?_⟩;exact ((Below.refl _ _).alloc (Nat.le_refl _) _).alloc (by simp) _
theorem before_any(k1 v1 h1 k2 v2 h2:Nat)(w:World) :
  Calls Tryz.prog 58 #[entV k1 v1 h1,entV k2 v2 h2] w fun e w'=>e=.returned (.bool (lessB k1 h1 k2 h2))∧Below w.heap.size w w':=by
 by_cases h:h1=h2
 ·have e:((h1:Int) != (h2:Int))=false:=by simp [h]
  have e2:lessB k1 h1 k2 h2=decide ((k1:Int)<(k2:Int)):=by unfold lessB;rw [if_pos h];rw [Bool.eq_iff_iff];simp
  rw [e2];clear e2
  go_enter Tryz.func58,Tryz.ntmps58
  go_wp2
  all_goals
   go_ret
   refine⟨by simp, ?_⟩;exact ((Below.refl _ _).alloc (Nat.le_refl _) _).alloc (by simp) _
 ·have e:((h1:Int) != (h2:Int))=true:=by simp;omega
  have e2:lessB k1 h1 k2 h2=decide ((h1:Int)<(h2:Int)):=by unfold lessB;rw [if_neg h];rw [Bool.eq_iff_iff];simp
  rw [e2];clear e2
  go_enter Tryz.func58,Tryz.ntmps58
  go_wp2
  all_goals
   go_ret
   refine⟨by simp, ?_⟩;exact ((Below.refl _ _).alloc (Nat.le_refl _) _).alloc (by simp) _
theorem lessB_iff(k1 h1 k2 h2:Nat):lessB k1 h1 k2 h2=true↔(h1<h2∨h1=h2∧k1<k2):=by
 unfold lessB;split <;> simp <;> omega
end split
end Go.Proofs.YtdplhgpeggcmdaaGreatDoor
