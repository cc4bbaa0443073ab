/- The contracts of package split's functions but Less and After. -/
import Derived.Test.YtapndkabgjeofaaGreatDoorRows
import Derived.Test.YtapndkabgjeofaaGreatDoorMath
import Derived.WalkKit
import Derived.ProofKit
import Derived.BigQuiet
import Derived.Deep.QuietTactic
import Derived.RegionTactic
import Derived.Lib.Hide
import Derived.WalkSpells
namespace Go.Proofs.YtapndkabgjeofaaGreatDoor.split
open Go.ChangeShapes Go.WideShapes Go.ChangeAt Go.RowKit

theorem isDepth_yes (d:Nat) (hd:d ≤ 16) (w:World) :
  Calls Tryz.prog 166 #[.int .i64 d] w fun e w' => e = .returned (.bool true) ∧ w = w':=by
 have h':decide ((d:Int) ≤ 16) = true:=decide_eq_true (by omega)
 go_enter Tryz.func166,Tryz.ntmps166
 go_wp2
 all_goals (go_ret; exact ⟨by simp_all,rfl⟩)
/-- a small number stays as it is in 64 bits with a sign -/
theorem i64_nat (n:Nat) (h:n < 9223372036854775808):wrap64 (n:Int) = (n:Int):=Go.IntWalk.wrap64_in _ (by omega)
theorem cast_div (h n:Nat):((h:Int) / 2 ^ n) = ((h / 2 ^ n:Nat):Int):=by simp
theorem h1_any (h:Nat) (w:World) :
  Calls Tryz.prog 89 #[.int .u64 h] w fun e w' => e = .returned (.int .u64 ((h / 128:Nat):Int)) ∧ w = w':=by
 go_enter Tryz.func89,Tryz.ntmps89
 go_wp2
 go_ret
 exact ⟨by simp,rfl⟩
theorem h2_any (h:Nat) (hh:h < 18446744073709551616) (w:World) :
  Calls Tryz.prog 137 #[.int .u64 h] w fun e w' => e = .returned (.int .u8 ((h % 128:Nat):Int)) ∧ w = w':=by
 go_enter Tryz.func137,Tryz.ntmps137
 have e:bits .and .u64 (h:Int) 127 % 256 = ((h % 128:Nat):Int):=by
  rw [show (127:Int) = ((127:Nat):Int) from rfl,u64_and_nat _ _ hh (by decide),show h &&& 127 = h % 128 from Nat.and_two_pow_sub_one_eq_mod h 7]
  omega
 go_wp2
 go_ret
 exact ⟨by rw [e]; rfl,rfl⟩
theorem bit_yes (h d:Nat) (hh:h < 18446744073709551616) (hd:d ≤ 16) (w:World) :
  Calls Tryz.prog 128 #[.int .u64 h,.int .i64 d] w fun e w' => e = .returned (.tuple #[.int .i64 ((bitN h d:Nat):Int),.nilIface]) ∧ w = w':=by
 go_enter Tryz.func128,Tryz.ntmps128
 go_wp2_with (go_at_call 166; refine (isDepth_yes d hd _).mono ?_; rintro e w' ⟨rfl,rfl⟩)
 go_ret2
 refine ⟨?_,rfl⟩
 have hlt:h / 2 ^ (63 - d) < 18446744073709551616:=Nat.lt_of_le_of_lt (Nat.div_le_self _ _) hh
 have e:wrap64 (bits .and .u64 ((h:Int) / 2 ^ (63 - d)) 1) = ((bitN h d:Nat):Int):=by
  rw [cast_div,show (1:Int) = ((1:Nat):Int) from rfl,u64_and_nat _ _ hlt (by decide),show (h / 2 ^ (63 - d)) &&& 1 = (h / 2 ^ (63 - d)) % 2 from Nat.and_two_pow_sub_one_eq_mod _ 1]
  exact i64_nat _ (by have:=bitN_lt h d; unfold bitN at this; omega)
 rw [e]; rfl
/-- there is no such prefix -/
def NoPrefix (p i:Int):Prop:=i < 0 ∨ 16 < i ∨ p < 0 ∨ (2:Int) ^ i.toNat ≤ p
/-- the least hash of a prefix -/
def lowN (p d:Nat):Nat:=p * 2 ^ (64 - d)
end Go.Proofs.YtapndkabgjeofaaGreatDoor.split
