/- Ctrl: several texts in one: plain facts and laws for the walks. No program is named. -/
import Derived.Test.YtdplhgpeggcmdaaGreatDoorSwarDoc
import Derived.Test.YtdplhgpeggcmdaaGreatDoorMath
import Derived.Test.YtdplhgpeggcmdaaGreatDoorErrors
import Derived.Deep.RegionWith
import Derived.Laws.IdiomStrings

/-! ### The contracts of package ctrl's functions. -/
namespace Go.Proofs.YtdplhgpeggcmdaaGreatDoor.ctrl
open Go.ChangeShapes Go.WideShapes Go.ChangeAt Go.RowKit swar

theorem isFull_any (b:Nat) (w:World) :
  Calls Tryz.prog 163 #[.int .u8 b] w fun e w' => e = .returned (.bool (decide ((b:Int) < 128))) ∧ w = w':=by
 go_enter Tryz.func163,Tryz.ntmps163
 go_wp2
 all_goals (go_ret; exact ⟨by simp_all,rfl⟩)
theorem new_any (w:World) :
  Calls Tryz.prog 155 #[] w fun e w' => e = .returned (.int .u64 9259542123273814144) ∧ w = w':=by
 have c:=fun w1 => repeat_any 128 (by decide) w1
 have e:pk8 128 128 128 128 128 128 128 128 = 9259542123273814144:=by decide
 rw [e] at c
 go_enter Tryz.func155,Tryz.ntmps155
 go_wp2_with (go_at_call 178; refine (c _).mono ?_; rintro e w' ⟨rfl,rfl⟩)
 go_ret
 exact ⟨rfl,rfl⟩
theorem empties_any (n:Nat) (hn:n < 18446744073709551616) (w:World) :
  Calls Tryz.prog 133 #[.int .u64 n] w fun e w' => e = .returned (.int .u64 (eqM n 128:Nat)) ∧ w = w':=by
 go_enter Tryz.func133,Tryz.ntmps133
 go_wp2_with (go_at_call 161; refine (equal_any n 128 hn (by decide) _).mono ?_; rintro e w' ⟨rfl,rfl⟩)
 go_ret
 exact ⟨rfl,rfl⟩
theorem frees_any (n:Nat) (hn:n < 18446744073709551616) (w:World) :
  Calls Tryz.prog 132 #[.int .u64 n] w fun e w' => e = .returned (.int .u64 (hiM n:Nat)) ∧ w = w':=by
 go_enter Tryz.func132,Tryz.ntmps132
 go_wp2_with (go_at_call 159; refine (high_any n hn _).mono ?_; rintro e w' ⟨rfl,rfl⟩)
 go_ret
 exact ⟨rfl,rfl⟩
theorem fulls_any (n:Nat) (hn:n < 18446744073709551616) (w:World) :
  Calls Tryz.prog 191 #[.int .u64 n] w fun e w' => e = .returned (.int .u64 (hiM (18446744073709551615 - n):Nat)) ∧ w = w':=by
 have c:=fun w1 => high_any (18446744073709551615 - n) (not_lt n) w1
 have HE:=Lib.hid (not_int n hn)
 go_enter Tryz.func191,Tryz.ntmps191
 go_wp2_with (go_at_call 159; rw [HE.out]; refine (c _).mono ?_; rintro e w' ⟨rfl,rfl⟩)
 go_ret
 exact ⟨rfl,rfl⟩
theorem match_full (n b:Nat) (hn:n < 18446744073709551616) (hb:b < 128) (w:World) :
  Calls Tryz.prog 135 #[.int .u64 n,.int .u8 b] w fun e w' => e = .returned (.int .u64 (eqM n b:Nat)) ∧ w = w':=by
 have d:decide ((b:Int) < 128) = true:=decide_eq_true (by omega)
 have c:=fun w1 => isFull_any b w1
 rw [d] at c
 go_enter Tryz.func135,Tryz.ntmps135
 go_wp2_with (first
  | (go_at_call 163; refine (c _).mono ?_; rintro e w' ⟨rfl,rfl⟩)
  | (go_at_call 161; refine (equal_any n b hn (by omega) _).mono ?_; rintro e w' ⟨rfl,rfl⟩))
 all_goals (go_ret; exact ⟨rfl,rfl⟩)
theorem get_yes (n k:Nat) (hn:n < 18446744073709551616) (hk:k < 8) (w:World) :
  Calls Tryz.prog 165 #[.int .u64 n,.int .i64 k] w fun e w' => e = .returned (.int .u8 (ln n k:Nat)) ∧ w = w':=by
 go_enter Tryz.func165,Tryz.ntmps165
 go_wp2_with (go_at_call 180; refine (lane_yes n k hn hk _).mono ?_; rintro e w' ⟨rfl,rfl⟩)
 all_goals (go_ret; exact ⟨rfl,rfl⟩)
end Go.Proofs.YtdplhgpeggcmdaaGreatDoor.ctrl

/-! ### Set and Text of package ctrl. -/
namespace Go.Proofs.YtdplhgpeggcmdaaGreatDoor.ctrl
open Go.ChangeShapes Go.WideShapes Go.ChangeAt Go.RowKit swar
theorem set_yes (n b k:Nat) (hn:n < 18446744073709551616) (hk:k < 8) (hb:okB b = true) (w:World) :
  Calls Tryz.prog 182 #[.int .u64 n,.int .i64 k,.int .u8 b] w fun e w' => e = .returned (.tuple #[.int .u64 (withL n k b:Nat),.nilIface]) ∧ ∃ q,w' = w.drewN q:=by
 have h3:b < 128 ∨ b = 128 ∨ b = 254:=by unfold okB at hb; simp at hb; omega
 have hb8:b < 256:=by omega
 have c:=fun w1 => isFull_any b w1
 rcases h3 with h3 | rfl | rfl
 ·rw [decide_eq_true (by omega)] at c
  go_enter Tryz.func182,Tryz.ntmps182
  go_wp2_with (first
   | (go_at_call 180; refine (lane_yes n k hn hk _).mono ?_; rintro e w' ⟨rfl,rfl⟩)
   | (go_at_call 163; refine (c _).mono ?_; rintro e w' ⟨rfl,rfl⟩)
   | (go_at_call 190; refine (with_yes n b k hn hb8 hk _).mono ?_; rintro e w' ⟨rfl,q,rfl⟩))
  go_ret2
  exact ⟨rfl,_,rfl⟩
 all_goals
  rw [decide_eq_false (by omega)] at c
  go_enter Tryz.func182,Tryz.ntmps182
  go_wp2_with (first
   | (go_at_call 180; refine (lane_yes n k hn hk _).mono ?_; rintro e w' ⟨rfl,rfl⟩)
   | (go_at_call 163; refine (c _).mono ?_; rintro e w' ⟨rfl,rfl⟩)
   | (go_at_call 190; refine (with_yes n _ k hn hb8 hk _).mono ?_; rintro e w' ⟨rfl,q,rfl⟩))
  go_ret2
  exact ⟨rfl,_,rfl⟩
def sgB (b:Nat):UInt8:=if b < 128 then 35 else if b = 128 then 46 else if b = 254 then 120 else 63
/-- a word's signs -/
def textN (n:Nat):ByteArray:=⟨#[sgB (ln n 0),sgB (ln n 1),sgB (ln n 2),sgB (ln n 3),sgB (ln n 4),sgB (ln n 5),sgB (ln n 6),sgB (ln n 7)]⟩
end Go.Proofs.YtdplhgpeggcmdaaGreatDoor.ctrl
