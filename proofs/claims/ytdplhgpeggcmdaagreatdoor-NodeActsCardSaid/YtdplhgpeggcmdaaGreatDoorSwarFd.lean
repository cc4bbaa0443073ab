/- SwarFd: facts and laws for the walks. -/
import Derived.Test.YtdplhgpeggcmdaaGreatDoorRows
import Derived.Test.YtdplhgpeggcmdaaGreatDoorMath
import Derived.BigQuiet
import Derived.WalkSpells
import Derived.WalkLawsBesides
import Derived.Lib.Hide
namespace Go.Proofs.YtdplhgpeggcmdaaGreatDoor
set_option linter.unusedSimpArgs false
set_option linter.unusedVariables false
open Go.ChangeShapes Go.WideShapes Go.ChangeAt Go.RowKit
namespace swar
theorem ret_int{k:IntKind}{a b:Int}(h:a=b):Ending.returned (.int k a)=.returned (.int k b):=by rw [h]
theorem hasLane_yes(i:Int)(h0:0≤i)(h8:i<8)(w:World) :
  Calls Tryz.prog 189 #[.int .i64 i] w fun e w'=>e=.returned (.bool true)∧w=w':=by
 go_enter Tryz.func189,Tryz.ntmps189
 go_wp2
 all_goals (go_ret;exact⟨by simp_all,rfl⟩)
theorem cases8{k:Nat}(h:k<8):k=0∨k=1∨k=2∨k=3∨k=4∨k=5∨k=6∨k=7:=by omega
theorem lane_yes(n k:Nat)(hn:n<18446744073709551616)(hk:k<8)(w:World) :
  Calls Tryz.prog 180 #[.int .u64 n,.int .i64 k] w fun e w'=>e=.returned (.tuple #[.int .u8 (ln n k:Nat),.bool true])∧w=w':=by
 rcases cases8 hk with rfl|rfl|rfl|rfl|rfl|rfl|rfl|rfl
 all_goals
  go_enter Tryz.func180,Tryz.ntmps180
  go_wp2_with (go_at_call 189;refine (hasLane_yes _ (by omega) (by omega) _).mono ?_;rintro e w' ⟨rfl,rfl⟩)
  go_ret2
  exact⟨by simp [ln] <;> omega,rfl⟩
theorem with_yes(n b k:Nat)(hn:n<18446744073709551616)(hb:b<256)(hk:k<8)(w:World) :
  Calls Tryz.prog 190 #[.int .u64 n,.int .i64 k,.int .u8 b] w fun e w'=>e=.returned (.int .u64 (withL n k b:Nat))∧∃q,w'=w.drewN q:=by
 rcases cases8 hk with rfl|rfl|rfl|rfl|rfl|rfl|rfl|rfl
 all_goals
  go_enter Tryz.func190,Tryz.ntmps190
  go_wp2_with (go_at_call 189;refine (hasLane_yes _ (by omega) (by omega) _).mono ?_;rintro e w' ⟨rfl,rfl⟩)
  go_quiet (fail)
  go_wp2
  go_ret
  exact⟨ret_int (by first|exact with0 n b hn hb|exact with1 n b hn hb|exact with2 n b hn hb|exact with3 n b hn hb|exact with4 n b hn hb|exact with5 n b hn hb|exact with6 n b hn hb|exact with7 n b hn hb),_,rfl⟩
theorem repeat_any(b:Nat)(hb:b<256)(w:World) :
  Calls Tryz.prog 178 #[.int .u8 b] w fun e w'=>e=.returned (.int .u64 (pk8 b b b b b b b b:Nat))∧w=w':=by
 go_enter Tryz.func178,Tryz.ntmps178
 go_wp2
 go_ret
 exact⟨ret_int (by rw [←rep8];simp),rfl⟩
theorem equal_any(n b:Nat)(hn:n<18446744073709551616)(hb:b<256)(w:World) :
  Calls Tryz.prog 161 #[.int .u64 n,.int .u8 b] w fun e w'=>e=.returned (.int .u64 (eqM n b:Nat))∧w=w':=by
 have HE:=Lib.hid (eq_bits n b hn hb)
 go_enter Tryz.func161,Tryz.ntmps161
 go_wp2_with (go_at_call 178;refine (repeat_any _ hb _).mono ?_;rintro e w' ⟨rfl,rfl⟩)
 all_goals (go_ret;exact⟨ret_int HE.out,rfl⟩)
theorem high_any(n:Nat)(hn:n<18446744073709551616)(w:World) :
  Calls Tryz.prog 159 #[.int .u64 n] w fun e w'=>e=.returned (.int .u64 (hiM n:Nat))∧w=w':=by
 have HE:=Lib.hid (hi_bits n hn)
 go_enter Tryz.func159,Tryz.ntmps159
 go_wp2
 go_ret
 exact⟨ret_int HE.out,rfl⟩
def TabOk(w:World):Prop:=w.cell? ⟨17,62,none⟩=some (.int .u8 7)∧w.cell? ⟨17,51,none⟩=some (.int .u8 15)∧w.cell? ⟨17,46,none⟩=some (.int .u8 23)∧w.cell? ⟨17,54,none⟩=some (.int .u8 31)∧w.cell? ⟨17,25,none⟩=some (.int .u8 39)∧w.cell? ⟨17,17,none⟩=some (.int .u8 47)∧w.cell? ⟨17,33,none⟩=some (.int .u8 55)∧w.cell? ⟨17,32,none⟩=some (.int .u8 63)
theorem TabOk.lt{w:World}(h:TabOk w):17<w.heap.size:=World.block_lt_of_cell? w _ h.1
theorem TabOk.below{w w':World}{B:Nat}(h:TabOk w)(hb:Below B w w')(hB:17<B):TabOk w':=by
 obtain⟨h0,h1,h2,h3,h4,h5,h6,h7⟩:=h;exact⟨(hb.cell (p:=⟨17,62,none⟩) hB).trans h0,(hb.cell (p:=⟨17,51,none⟩) hB).trans h1,(hb.cell (p:=⟨17,46,none⟩) hB).trans h2,(hb.cell (p:=⟨17,54,none⟩) hB).trans h3,(hb.cell (p:=⟨17,25,none⟩) hB).trans h4,(hb.cell (p:=⟨17,17,none⟩) hB).trans h5,(hb.cell (p:=⟨17,33,none⟩) hB).trans h6,(hb.cell (p:=⟨17,32,none⟩) hB).trans h7⟩
set_option maxHeartbeats 400000 in
theorem tz_at(n:Nat)(hn:n<18446744073709551616)(hp:0<n)(i:Nat)(hi:i<64)(t:Nat)(ht:t<64)
  (hI:IntKind.u64.wrap (bits .and .u64 (n:Int) (IntKind.u64.wrap (-(n:Int)))*285870213051353865)/288230376151711744=(i:Int))(w:World)(hc:w.cell? ⟨17,i,none⟩=some (.int .u8 t)) :
  Calls Tryz.prog 160 #[.int .u64 n] w fun e w'=>e=.returned (.int .i64 t)∧w=w':=by
 have h0:((n:Int)==0)=false:=by rw [beq_eq_false_iff_ne];omega
 go_enter Tryz.func160,Tryz.ntmps160
 go_wp2
 go_ret
 exact⟨rfl,rfl⟩
theorem first_at(n:Nat)(hn:n<18446744073709551616)(hp:0<hiM n)(i:Nat)(hi:i<64)(t:Nat)(ht:t<64)
  (hI:IntKind.u64.wrap (bits .and .u64 ((hiM n:Nat):Int) (IntKind.u64.wrap (-((hiM n:Nat):Int)))*285870213051353865)/288230376151711744=(i:Int))(w:World)(hc:w.cell? ⟨17,i,none⟩=some (.int .u8 t)) :
  Calls Tryz.prog 131 #[.int .u64 n] w fun e w'=>e=.returned (.int .i64 (t/8:Nat))∧w=w':=by
 have C:=Lib.hid (tz_at (hiM n) (hiM_lt n) hp i hi t ht hI w hc);have h0:(((hiM n:Nat):Int)==0)=false:=by rw [beq_eq_false_iff_ne];omega
 clear hI hc
 go_enter Tryz.func131,Tryz.ntmps131
 go_wp2_with (first|(go_at_call 159;refine (high_any _ hn _).mono ?_;rintro e w' ⟨rfl,rfl⟩)|(go_at_call 160;refine C.out.mono ?_;rintro e w' ⟨rfl,rfl⟩))
 go_ret
 exact⟨rfl,rfl⟩
theorem first_none(n:Nat)(hn:n<18446744073709551616)(hp:hiM n=0)(w:World) :
  Calls Tryz.prog 131 #[.int .u64 n] w fun e w'=>e=.returned (.int .i64 (-1))∧w=w':=by
 have h0:(((hiM n:Nat):Int)==0)=true:=by rw [beq_iff_eq];omega
 clear hp
 go_enter Tryz.func131,Tryz.ntmps131
 go_wp2_with (go_at_call 159;refine (high_any _ hn _).mono ?_;rintro e w' ⟨rfl,rfl⟩)
 go_ret
 exact⟨rfl,rfl⟩
theorem first_any(n:Nat)(hn:n<18446744073709551616)(w:World)(hT:TabOk w) :
  Calls Tryz.prog 131 #[.int .u64 n] w fun e w'=>e=.returned (.int .i64 (firstI n))∧w=w':=by
 obtain⟨t0,t1,t2,t3,t4,t5,t6,t7⟩:=hT
 by_cases h0:128≤ln n 0
 ·obtain⟨hp,hI⟩:=low0 n h0
  rw [show firstI n=((7/8:Nat):Int) from by simp [firstI,h0]];exact first_at n hn hp 62 (by decide) 7 (by decide) hI w t0
 by_cases h1:128≤ln n 1
 ·obtain⟨hp,hI⟩:=low1 n h0 h1
  rw [show firstI n=((15/8:Nat):Int) from by simp [firstI,h0,h1]];exact first_at n hn hp 51 (by decide) 15 (by decide) hI w t1
 by_cases h2:128≤ln n 2
 ·obtain⟨hp,hI⟩:=low2 n h0 h1 h2
  rw [show firstI n=((23/8:Nat):Int) from by simp [firstI,h0,h1,h2]];exact first_at n hn hp 46 (by decide) 23 (by decide) hI w t2
 by_cases h3:128≤ln n 3
 ·obtain⟨hp,hI⟩:=low3 n h0 h1 h2 h3
  rw [show firstI n=((31/8:Nat):Int) from by simp [firstI,h0,h1,h2,h3]];exact first_at n hn hp 54 (by decide) 31 (by decide) hI w t3
 by_cases h4:128≤ln n 4
 ·obtain⟨hp,hI⟩:=low4 n h0 h1 h2 h3 h4
  rw [show firstI n=((39/8:Nat):Int) from by simp [firstI,h0,h1,h2,h3,h4]];exact first_at n hn hp 25 (by decide) 39 (by decide) hI w t4
 by_cases h5:128≤ln n 5
 ·obtain⟨hp,hI⟩:=low5 n h0 h1 h2 h3 h4 h5
  rw [show firstI n=((47/8:Nat):Int) from by simp [firstI,h0,h1,h2,h3,h4,h5]];exact first_at n hn hp 17 (by decide) 47 (by decide) hI w t5
 by_cases h6:128≤ln n 6
 ·obtain⟨hp,hI⟩:=low6 n h0 h1 h2 h3 h4 h5 h6
  rw [show firstI n=((55/8:Nat):Int) from by simp [firstI,h0,h1,h2,h3,h4,h5,h6]];exact first_at n hn hp 33 (by decide) 55 (by decide) hI w t6
 by_cases h7:128≤ln n 7
 ·obtain⟨hp,hI⟩:=low7 n h0 h1 h2 h3 h4 h5 h6 h7
  rw [show firstI n=((63/8:Nat):Int) from by simp [firstI,h0,h1,h2,h3,h4,h5,h6,h7]];exact first_at n hn hp 32 (by decide) 63 (by decide) hI w t7
 have e:firstI n=-1:=by simp only [firstI,if_neg h0,if_neg h1,if_neg h2,if_neg h3,if_neg h4,if_neg h5,if_neg h6,if_neg h7]
 rw [e];exact first_none n hn ((hiM_zero n).2 e) w
end swar
end Go.Proofs.YtdplhgpeggcmdaaGreatDoor
