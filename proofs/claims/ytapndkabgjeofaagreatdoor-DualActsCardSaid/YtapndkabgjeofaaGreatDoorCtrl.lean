/- Ctrl: several texts in one: plain facts and laws for the walks. No program is named. -/
import Derived.Test.YtapndkabgjeofaaGreatDoorSwarDoc
import Derived.Test.YtapndkabgjeofaaGreatDoorMath
import Derived.Test.YtapndkabgjeofaaGreatDoorErrors
import Derived.Deep.RegionWith
import Derived.Laws.IdiomStrings

/-! ### The contracts of package ctrl's functions. -/
namespace Go.Proofs.YtapndkabgjeofaaGreatDoor.ctrl
open Go.ChangeShapes Go.WideShapes Go.ChangeAt Go.RowKit swar

theorem isFull_any (b:Nat) (w:World) :
  Calls Tryz.prog 171 #[.int .u8 b] w fun e w' => e = .returned (.bool (decide ((b:Int) < 128))) ∧ w = w':=by
 go_enter Tryz.func171,Tryz.ntmps171
 go_wp2
 all_goals (go_ret; exact ⟨by simp_all,rfl⟩)
theorem new_any (w:World) :
  Calls Tryz.prog 161 #[] w fun e w' => e = .returned (.int .u64 9259542123273814144) ∧ w = w':=by
 have c:=fun w1 => repeat_any 128 (by decide) w1
 have e:pk8 128 128 128 128 128 128 128 128 = 9259542123273814144:=by decide
 rw [e] at c
 go_enter Tryz.func161,Tryz.ntmps161
 go_wp2_with (go_at_call 178; refine (c _).mono ?_; rintro e w' ⟨rfl,rfl⟩)
 go_ret
 exact ⟨rfl,rfl⟩
theorem empties_any (n:Nat) (hn:n < 18446744073709551616) (w:World) :
  Calls Tryz.prog 134 #[.int .u64 n] w fun e w' => e = .returned (.int .u64 (eqM n 128:Nat)) ∧ w = w':=by
 go_enter Tryz.func134,Tryz.ntmps134
 go_wp2_with (go_at_call 169; refine (equal_any n 128 hn (by decide) _).mono ?_; rintro e w' ⟨rfl,rfl⟩)
 go_ret
 exact ⟨rfl,rfl⟩
theorem frees_any (n:Nat) (hn:n < 18446744073709551616) (w:World) :
  Calls Tryz.prog 133 #[.int .u64 n] w fun e w' => e = .returned (.int .u64 (hiM n:Nat)) ∧ w = w':=by
 go_enter Tryz.func133,Tryz.ntmps133
 go_wp2_with (go_at_call 167; refine (high_any n hn _).mono ?_; rintro e w' ⟨rfl,rfl⟩)
 go_ret
 exact ⟨rfl,rfl⟩
theorem fulls_any (n:Nat) (hn:n < 18446744073709551616) (w:World) :
  Calls Tryz.prog 145 #[.int .u64 n] w fun e w' => e = .returned (.int .u64 (hiM (18446744073709551615 - n):Nat)) ∧ w = w':=by
 have c:=fun w1 => high_any (18446744073709551615 - n) (not_lt n) w1
 have HE:=Lib.hid (not_int n hn)
 go_enter Tryz.func145,Tryz.ntmps145
 go_wp2_with (go_at_call 167; rw [HE.out]; refine (c _).mono ?_; rintro e w' ⟨rfl,rfl⟩)
 go_ret
 exact ⟨rfl,rfl⟩
theorem match_full (n b:Nat) (hn:n < 18446744073709551616) (hb:b < 128) (w:World) :
  Calls Tryz.prog 136 #[.int .u64 n,.int .u8 b] w fun e w' => e = .returned (.int .u64 (eqM n b:Nat)) ∧ w = w':=by
 have d:decide ((b:Int) < 128) = true:=decide_eq_true (by omega)
 have c:=fun w1 => isFull_any b w1
 rw [d] at c
 go_enter Tryz.func136,Tryz.ntmps136
 go_wp2_with (first
  | (go_at_call 171; refine (c _).mono ?_; rintro e w' ⟨rfl,rfl⟩)
  | (go_at_call 169; refine (equal_any n b hn (by omega) _).mono ?_; rintro e w' ⟨rfl,rfl⟩))
 all_goals (go_ret; exact ⟨rfl,rfl⟩)
theorem get_yes (n k:Nat) (hn:n < 18446744073709551616) (hk:k < 8) (w:World) :
  Calls Tryz.prog 173 #[.int .u64 n,.int .i64 k] w fun e w' => e = .returned (.int .u8 (ln n k:Nat)) ∧ w = w':=by
 go_enter Tryz.func173,Tryz.ntmps173
 go_wp2_with (go_at_call 183; refine (lane_yes n k hn hk _).mono ?_; rintro e w' ⟨rfl,rfl⟩)
 all_goals (go_ret; exact ⟨rfl,rfl⟩)
end Go.Proofs.YtapndkabgjeofaaGreatDoor.ctrl

/-! ### Set and Text of package ctrl. -/
namespace Go.Proofs.YtapndkabgjeofaaGreatDoor.ctrl
open Go.ChangeShapes Go.WideShapes Go.ChangeAt Go.RowKit swar
theorem set_yes (n b k:Nat) (hn:n < 18446744073709551616) (hk:k < 8) (hb:okB b = true) (w:World) :
  Calls Tryz.prog 185 #[.int .u64 n,.int .i64 k,.int .u8 b] w fun e w' => e = .returned (.tuple #[.int .u64 (withL n k b:Nat),.nilIface]) ∧ ∃ q,w' = w.drewN q:=by
 have h3:b < 128 ∨ b = 128 ∨ b = 254:=by unfold okB at hb; simp at hb; omega
 have hb8:b < 256:=by omega
 have c:=fun w1 => isFull_any b w1
 rcases h3 with h3 | rfl | rfl
 ·rw [decide_eq_true (by omega)] at c
  go_enter Tryz.func185,Tryz.ntmps185
  go_wp2_with (first
   | (go_at_call 183; refine (lane_yes n k hn hk _).mono ?_; rintro e w' ⟨rfl,rfl⟩)
   | (go_at_call 171; refine (c _).mono ?_; rintro e w' ⟨rfl,rfl⟩)
   | (go_at_call 189; refine (with_yes n b k hn hb8 hk _).mono ?_; rintro e w' ⟨rfl,q,rfl⟩))
  go_ret2
  exact ⟨rfl,_,rfl⟩
 all_goals
  rw [decide_eq_false (by omega)] at c
  go_enter Tryz.func185,Tryz.ntmps185
  go_wp2_with (first
   | (go_at_call 183; refine (lane_yes n k hn hk _).mono ?_; rintro e w' ⟨rfl,rfl⟩)
   | (go_at_call 171; refine (c _).mono ?_; rintro e w' ⟨rfl,rfl⟩)
   | (go_at_call 189; refine (with_yes n _ k hn hb8 hk _).mono ?_; rintro e w' ⟨rfl,q,rfl⟩))
  go_ret2
  exact ⟨rfl,_,rfl⟩
theorem sign_any (b:Nat) (w:World) :
  Calls Tryz.prog 147 #[.int .u8 b] w fun e w' => e = .returned (.int .u8 (sgn b:Nat)) ∧ w = w':=by
 have c:=fun w1 => isFull_any b w1
 unfold sgn
 by_cases h0:b < 128
 ·rw [decide_eq_true (by omega)] at c
  rw [if_pos h0]
  go_enter Tryz.func147,Tryz.ntmps147
  go_wp2_with (go_at_call 171; refine (c _).mono ?_; rintro e w' ⟨rfl,rfl⟩)
  all_goals (go_ret; exact ⟨rfl,rfl⟩)
 ·rw [decide_eq_false (by omega)] at c
  rw [if_neg h0]
  by_cases h1:b = 128
  ·rw [if_pos h1]
   subst h1
   go_enter Tryz.func147,Tryz.ntmps147
   go_wp2_with (go_at_call 171; refine (c _).mono ?_; rintro e w' ⟨rfl,rfl⟩)
   all_goals (go_ret; exact ⟨rfl,rfl⟩)
  ·rw [if_neg h1]
   have n1:(b:Int) ≠ 128:=by omega
   by_cases h2:b = 254
   ·rw [if_pos h2]
    subst h2
    go_enter Tryz.func147,Tryz.ntmps147
    go_wp2_with (go_at_call 171; refine (c _).mono ?_; rintro e w' ⟨rfl,rfl⟩)
    all_goals (go_ret; exact ⟨rfl,rfl⟩)
   ·rw [if_neg h2]
    have n2:(b:Int) ≠ 254:=by omega
    go_enter Tryz.func147,Tryz.ntmps147
    go_wp2_with (go_at_call 171; refine (c _).mono ?_; rintro e w' ⟨rfl,rfl⟩)
    all_goals (go_ret; exact ⟨rfl,rfl⟩)
theorem mk8 (w:World):(Instr.makeSlice 220 (.int .i64 8) (.int .i64 8)).run Tryz.prog w = .ok (.slice (some ⟨w.heap.size,0,none⟩) 8 8) (w.alloc (.cells #[.int .u8 0,.int .u8 0,.int .u8 0,.int .u8 0,.int .u8 0,.int .u8 0,.int .u8 0,.int .u8 0] 5)):=by kernel_rfl
def sgB (b:Nat):UInt8:=if b < 128 then 35 else if b = 128 then 46 else if b = 254 then 120 else 63
theorem sgB_nat (b:Nat):((sgB b).toNat:Int) = ((sgn b:Nat):Int):=by unfold sgB sgn; split <;> (try split) <;> (try split) <;> rfl
/-- a word's signs -/
def textN (n:Nat):ByteArray:=⟨#[sgB (ln n 0),sgB (ln n 1),sgB (ln n 2),sgB (ln n 3),sgB (ln n 4),sgB (ln n 5),sgB (ln n 6),sgB (ln n 7)]⟩
theorem cv8 (W:World) (B:Nat) (a0 a1 a2 a3 a4 a5 a6 a7:UInt8) (h0:W.cell? ⟨B,0,none⟩ = some (.int .u8 (a0.toNat:Int))) (h1:W.cell? ⟨B,1,none⟩ = some (.int .u8 (a1.toNat:Int))) (h2:W.cell? ⟨B,2,none⟩ = some (.int .u8 (a2.toNat:Int))) (h3:W.cell? ⟨B,3,none⟩ = some (.int .u8 (a3.toNat:Int)))
  (h4:W.cell? ⟨B,4,none⟩ = some (.int .u8 (a4.toNat:Int))) (h5:W.cell? ⟨B,5,none⟩ = some (.int .u8 (a5.toNat:Int))) (h6:W.cell? ⟨B,6,none⟩ = some (.int .u8 (a6.toNat:Int))) (h7:W.cell? ⟨B,7,none⟩ = some (.int .u8 (a7.toNat:Int))) :
  (convert 220 9 (.slice (some ⟨B,0,none⟩) 8 8)).run Tryz.prog W = .ok (.string ⟨#[a0,a1,a2,a3,a4,a5,a6,a7]⟩) W:=by
 refine run_convert_bytes_back W 220 9 5 ⟨B,0,none⟩ 8 [a0,a1,a2,a3,a4,a5,a6,a7] Tryz.underlying220 Tryz.underlying5 Tryz.underlying9 fun j hj => ?_
 have h:j = 0 ∨ j = 1 ∨ j = 2 ∨ j = 3 ∨ j = 4 ∨ j = 5 ∨ j = 6 ∨ j = 7:=by simp at hj; omega
 rcases h with rfl | rfl | rfl | rfl | rfl | rfl | rfl | rfl <;> simpa [Addr.add]
set_option maxRecDepth 20000 in
theorem text_any (n:Nat) (hn:n < 18446744073709551616) (w:World) :
  Calls Tryz.prog 106 #[.int .u64 n] w fun e w' => e = .returned (.string (textN n)) ∧ Below w.heap.size w w':=by
 have hmk:=mk8
 have i0:=fun wx => (idx8u (.int .u8 (ln n 0:Nat)) (.int .u8 (ln n 1:Nat)) (.int .u8 (ln n 2:Nat)) (.int .u8 (ln n 3:Nat)) (.int .u8 (ln n 4:Nat)) (.int .u8 (ln n 5:Nat)) (.int .u8 (ln n 6:Nat)) (.int .u8 (ln n 7:Nat)) wx).1
 have i1:=fun wx => (idx8u (.int .u8 (ln n 0:Nat)) (.int .u8 (ln n 1:Nat)) (.int .u8 (ln n 2:Nat)) (.int .u8 (ln n 3:Nat)) (.int .u8 (ln n 4:Nat)) (.int .u8 (ln n 5:Nat)) (.int .u8 (ln n 6:Nat)) (.int .u8 (ln n 7:Nat)) wx).2.1
 have i2:=fun wx => (idx8u (.int .u8 (ln n 0:Nat)) (.int .u8 (ln n 1:Nat)) (.int .u8 (ln n 2:Nat)) (.int .u8 (ln n 3:Nat)) (.int .u8 (ln n 4:Nat)) (.int .u8 (ln n 5:Nat)) (.int .u8 (ln n 6:Nat)) (.int .u8 (ln n 7:Nat)) wx).2.2.1
 have i3:=fun wx => (idx8u (.int .u8 (ln n 0:Nat)) (.int .u8 (ln n 1:Nat)) (.int .u8 (ln n 2:Nat)) (.int .u8 (ln n 3:Nat)) (.int .u8 (ln n 4:Nat)) (.int .u8 (ln n 5:Nat)) (.int .u8 (ln n 6:Nat)) (.int .u8 (ln n 7:Nat)) wx).2.2.2.1
 have i4:=fun wx => (idx8u (.int .u8 (ln n 0:Nat)) (.int .u8 (ln n 1:Nat)) (.int .u8 (ln n 2:Nat)) (.int .u8 (ln n 3:Nat)) (.int .u8 (ln n 4:Nat)) (.int .u8 (ln n 5:Nat)) (.int .u8 (ln n 6:Nat)) (.int .u8 (ln n 7:Nat)) wx).2.2.2.2.1
 have i5:=fun wx => (idx8u (.int .u8 (ln n 0:Nat)) (.int .u8 (ln n 1:Nat)) (.int .u8 (ln n 2:Nat)) (.int .u8 (ln n 3:Nat)) (.int .u8 (ln n 4:Nat)) (.int .u8 (ln n 5:Nat)) (.int .u8 (ln n 6:Nat)) (.int .u8 (ln n 7:Nat)) wx).2.2.2.2.2.1
 have i6:=fun wx => (idx8u (.int .u8 (ln n 0:Nat)) (.int .u8 (ln n 1:Nat)) (.int .u8 (ln n 2:Nat)) (.int .u8 (ln n 3:Nat)) (.int .u8 (ln n 4:Nat)) (.int .u8 (ln n 5:Nat)) (.int .u8 (ln n 6:Nat)) (.int .u8 (ln n 7:Nat)) wx).2.2.2.2.2.2.1
 have i7:=fun wx => (idx8u (.int .u8 (ln n 0:Nat)) (.int .u8 (ln n 1:Nat)) (.int .u8 (ln n 2:Nat)) (.int .u8 (ln n 3:Nat)) (.int .u8 (ln n 4:Nat)) (.int .u8 (ln n 5:Nat)) (.int .u8 (ln n 6:Nat)) (.int .u8 (ln n 7:Nat)) wx).2.2.2.2.2.2.2
 go_enter Tryz.func106,Tryz.ntmps106
 go_wp2_with (go_at_call 146; refine (unfold_any n hn _).mono ?_; rintro e w' ⟨rfl,hb1⟩)
 refine wp_loop_rounds 9 ?_
 iterate 9 (rw [rounds_succ]; go_wp2_with (go_at_call 147; refine (sign_any _ _).mono ?_; rintro e w' ⟨rfl,rfl⟩))
 rw [cv8 _ _ (sgB (ln n 0)) (sgB (ln n 1)) (sgB (ln n 2)) (sgB (ln n 3)) (sgB (ln n 4)) (sgB (ln n 5)) (sgB (ln n 6)) (sgB (ln n 7)) (by simp [sgB_nat]) (by simp [sgB_nat]) (by simp [sgB_nat]) (by simp [sgB_nat]) (by simp [sgB_nat]) (by simp [sgB_nat]) (by simp [sgB_nat]) (by simp [sgB_nat])]
 go_wp2
 go_ret
 refine ⟨rfl, ?_⟩
 exact below_step hb1 (((Below.refl _ _).alloc (Nat.le_refl _) _).alloc (by simp) _)
end Go.Proofs.YtapndkabgjeofaaGreatDoor.ctrl
