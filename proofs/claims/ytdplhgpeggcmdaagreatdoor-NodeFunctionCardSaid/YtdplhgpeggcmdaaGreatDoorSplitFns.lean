/- The contracts of package split's functions but Less and After. -/
import Derived.Test.YtdplhgpeggcmdaaGreatDoorRows
import Derived.Test.YtdplhgpeggcmdaaGreatDoorMath
import Derived.WalkKit
import Derived.ProofKit
import Derived.BigQuiet
import Derived.Deep.QuietTactic
import Derived.RegionTactic
import Derived.Lib.Hide
import Derived.WalkSpells
namespace Go.Proofs.YtdplhgpeggcmdaaGreatDoor.split
open Go.ChangeShapes Go.WideShapes Go.ChangeAt Go.RowKit

theorem isDepth_yes (d:Nat) (hd:d ≤ 16) (w:World) :
  Calls Tryz.prog 92 #[.int .i64 d] w fun e w' => e = .returned (.bool true) ∧ w = w':=by
 have h':decide ((d:Int) ≤ 16) = true:=decide_eq_true (by omega)
 go_enter Tryz.func92,Tryz.ntmps92
 go_wp2
 all_goals (go_ret; exact ⟨by simp_all,rfl⟩)
/-- a small number stays as it is in 64 bits with a sign -/
theorem i64_nat (n:Nat) (h:n < 9223372036854775808):wrap64 (n:Int) = (n:Int):=Go.IntWalk.wrap64_in _ (by omega)
theorem cast_pow (n:Nat):((2:Int) ^ n) = ((2 ^ n:Nat):Int):=by simp
theorem cast_div (h n:Nat):((h:Int) / 2 ^ n) = ((h / 2 ^ n:Nat):Int):=by simp
theorem top_small (h d:Nat) (hh:h < 18446744073709551616) (hd:d ≤ 16):h / 2 ^ (64 - d) < 65536:=
 Nat.lt_of_lt_of_le (top_lt h d hh (by omega)) (Nat.pow_le_pow_right (by decide) hd)
theorem pow_small (d:Nat) (hd:d ≤ 16):2 ^ d ≤ 65536:=Nat.pow_le_pow_right (by decide) hd
theorem ltop_any (h d:Nat) (hh:h < 18446744073709551616) (hd:d ≤ 16) (w:World) :
  Calls Tryz.prog 44 #[.int .u64 h,.int .i64 d] w fun e w' => e = .returned (.int .i64 ((h / 2 ^ (64 - d):Nat):Int)) ∧ w = w':=by
 have e:wrap64 ((h:Int) / 2 ^ (64 - d)) = ((h / 2 ^ (64 - d):Nat):Int):=by
  rw [cast_div,i64_nat (h / 2 ^ (64 - d)) (by have:=top_small h d hh hd; omega)]
 go_enter Tryz.func44,Tryz.ntmps44
 go_wp2
 go_ret
 exact ⟨by rw [e]; rfl,rfl⟩
theorem h1_any (h:Nat) (w:World) :
  Calls Tryz.prog 95 #[.int .u64 h] w fun e w' => e = .returned (.int .u64 ((h / 128:Nat):Int)) ∧ w = w':=by
 go_enter Tryz.func95,Tryz.ntmps95
 go_wp2
 go_ret
 exact ⟨by simp,rfl⟩
theorem h2_any (h:Nat) (hh:h < 18446744073709551616) (w:World) :
  Calls Tryz.prog 136 #[.int .u64 h] w fun e w' => e = .returned (.int .u8 ((h % 128:Nat):Int)) ∧ w = w':=by
 go_enter Tryz.func136,Tryz.ntmps136
 have e:bits .and .u64 (h:Int) 127 % 256 = ((h % 128:Nat):Int):=by
  rw [show (127:Int) = ((127:Nat):Int) from rfl,u64_and_nat _ _ hh (by decide),show h &&& 127 = h % 128 from Nat.and_two_pow_sub_one_eq_mod h 7]
  omega
 go_wp2
 go_ret
 exact ⟨by rw [e]; rfl,rfl⟩
theorem bit_yes (h d:Nat) (hh:h < 18446744073709551616) (hd:d ≤ 16) (w:World) :
  Calls Tryz.prog 157 #[.int .u64 h,.int .i64 d] w fun e w' => e = .returned (.tuple #[.int .i64 ((bitN h d:Nat):Int),.nilIface]) ∧ w = w':=by
 go_enter Tryz.func157,Tryz.ntmps157
 go_wp2_with (go_at_call 92; refine (isDepth_yes d hd _).mono ?_; rintro e w' ⟨rfl,rfl⟩)
 go_ret2
 refine ⟨?_,rfl⟩
 have hlt:h / 2 ^ (63 - d) < 18446744073709551616:=Nat.lt_of_le_of_lt (Nat.div_le_self _ _) hh
 have e:wrap64 (bits .and .u64 ((h:Int) / 2 ^ (63 - d)) 1) = ((bitN h d:Nat):Int):=by
  rw [cast_div,show (1:Int) = ((1:Nat):Int) from rfl,u64_and_nat _ _ hlt (by decide),show (h / 2 ^ (63 - d)) &&& 1 = (h / 2 ^ (63 - d)) % 2 from Nat.and_two_pow_sub_one_eq_mod _ 1]
  exact i64_nat _ (by have:=bitN_lt h d; unfold bitN at this; omega)
 rw [e]; rfl
/-- which prefixes there are of a depth -/
theorem isPrefix_yes (p d:Nat) (hd:d ≤ 16) (hp:p < 2 ^ d) (w:World) :
  Calls Tryz.prog 43 #[.int .i64 p,.int .i64 d] w fun e w' => e = .returned (.bool true) ∧ w = w':=by
 have e:wrap64 ((2:Int) ^ d) = ((2 ^ d:Nat):Int):=by
  rw [cast_pow,i64_nat (2 ^ d) (by have:=pow_small d hd; omega)]
 have e2:decide ((p:Int) < (2:Int) ^ d) = true:=decide_eq_true (by rw [cast_pow]; omega)
 go_enter Tryz.func43,Tryz.ntmps43
 go_wp2_with (go_at_call 92; refine (isDepth_yes d hd _).mono ?_; rintro e w' ⟨rfl,rfl⟩)
 all_goals (go_ret; exact ⟨by first | rfl | (rw [e2]; rfl),rfl⟩)
/-- there is no such prefix -/
def NoPrefix (p i:Int):Prop:=i < 0 ∨ 16 < i ∨ p < 0 ∨ (2:Int) ^ i.toNat ≤ p
/-- the least hash of a prefix -/
def lowN (p d:Nat):Nat:=p * 2 ^ (64 - d)
theorem lowN_lt (p d:Nat) (hd:d ≤ 64) (hp:p < 2 ^ d):lowN p d + (2 ^ (64 - d) - 1) < 18446744073709551616:=by
 have h1:(p + 1) * 2 ^ (64 - d) ≤ 2 ^ d * 2 ^ (64 - d):=Nat.mul_le_mul_right _ (by omega)
 rw [← Nat.pow_add,show d + (64 - d) = 64 by omega,Nat.add_mul] at h1
 have h2:0 < 2 ^ (64 - d):=Nat.pow_pos (by decide)
 unfold lowN; omega
theorem llow_any (p d:Nat) (hd:d ≤ 16) (hp:p < 2 ^ d) (w:World) :
  Calls Tryz.prog 82 #[.int .i64 p,.int .i64 d] w fun e w' => e = .returned (.int .u64 ((lowN p d:Nat):Int)) ∧ w = w':=by
 have hp2:p < 65536:=Nat.lt_of_lt_of_le hp (pow_small d hd)
 go_enter Tryz.func82,Tryz.ntmps82
 have e:IntKind.u64.wrap ((p:Int) * 2 ^ (64 - d)) = ((lowN p d:Nat):Int):=by
  have h:=lowN_lt p d (by omega) hp
  unfold lowN at h ⊢
  rw [cast_pow,← Int.natCast_mul,IntKind.wrap_u64]; omega
 go_wp2
 go_ret
 exact ⟨rfl,rfl⟩
theorem low_yes (p d:Nat) (hd:d ≤ 16) (hp:p < 2 ^ d) (w:World) :
  Calls Tryz.prog 36 #[.int .i64 p,.int .i64 d] w fun e w' => e = .returned (.tuple #[.int .u64 ((lowN p d:Nat):Int),.nilIface]) ∧ w = w':=by
 go_enter Tryz.func36,Tryz.ntmps36
 go_wp2_with (first
  | (go_at_call 43; refine (isPrefix_yes p d hd hp _).mono ?_; rintro e w' ⟨rfl,rfl⟩)
  | (go_at_call 82; refine (llow_any p d hd hp _).mono ?_; rintro e w' ⟨rfl,rfl⟩))
 go_ret2
 exact ⟨rfl,rfl⟩
theorem within_yes (h p d:Nat) (hh:h < 18446744073709551616) (hd:d ≤ 16) (hp:p < 2 ^ d) (w:World) :
  Calls Tryz.prog 10 #[.int .u64 h,.int .i64 p,.int .i64 d] w fun e w' => e = .returned (.bool (decide (h / 2 ^ (64 - d) = p))) ∧ w = w':=by
 go_enter Tryz.func10,Tryz.ntmps10
 go_wp2_with (first
  | (go_at_call 43; refine (isPrefix_yes p d hd hp _).mono ?_; rintro e w' ⟨rfl,rfl⟩)
  | (go_at_call 44; refine (ltop_any h d hh hd _).mono ?_; rintro e w' ⟨rfl,rfl⟩))
 all_goals
  go_ret
  refine ⟨?_,rfl⟩
  show Ending.returned (.bool ((h:Int) / 2 ^ (64 - d) == (p:Int))) = _
  rw [cast_div]; generalize h / 2 ^ (64 - d) = x; congr 2; rw [Bool.eq_iff_iff]; simp; omega
end Go.Proofs.YtdplhgpeggcmdaaGreatDoor.split
