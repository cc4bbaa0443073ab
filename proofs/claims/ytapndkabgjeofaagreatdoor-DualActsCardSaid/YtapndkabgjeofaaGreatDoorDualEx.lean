/- DualEx: several texts in one: plain facts and laws for the walks. No program is named. -/
import Derived.Test.YtapndkabgjeofaaGreatDoorProbeDoc
import Derived.Test.YtapndkabgjeofaaGreatDoorTabEnt
import Derived.LoopTactic
import Derived.Test.YtapndkabgjeofaaGreatDoorDrawn
import Derived.Test.YtapndkabgjeofaaGreatDoorTableLeast
import Derived.Test.YtapndkabgjeofaaGreatDoorDualNk
import Derived.BigQuiet
import Derived.Test.YtapndkabgjeofaaGreatDoorEvacAlive

/-! ### dual: a case: its entries; whether more is in it than is asked. -/
namespace Go.Proofs.YtapndkabgjeofaaGreatDoor.dual
open Go.ChangeShapes Go.WideShapes Go.ChangeAt Go.RowKit Go.Shelf swar under trap meter group probe lens tail call table
attribute [local go_sem] Oper.semAt_some stage.pureUpon move.stepUpon
set_option linter.unusedSimpArgs false
set_option linter.unusedVariables false

/-- a case -/
structure Cas where
 old:Int
 new:Int
 depth:Int
 sh:Option Addr
 lh:Nat
 ch:Nat
 sk:Option Addr
 lk:Nat
 ck:Nat
/-- a case in a box -/
structure CBox (X:Nat) (c:Cas) (W:World):Prop where
 row:W.heap[X]? = some (.cells #[.int .i64 c.old,.int .i64 c.new,.int .i64 c.depth,.slice c.sh c.lh c.ch,.slice c.sk c.lk c.ck] 25 (0,0))
section
variable {X:Nat} {c:Cas} {W W':World}
theorem CBox.lt (h:CBox X c W):X < W.heap.size:=(Array.getElem?_eq_some_iff.1 h.row).1
theorem CBox.keep (h:CBox X c W) (hb:Below W.heap.size W W'):CBox X c W':=⟨(hb.block X h.lt).trans h.row⟩
theorem CBox.past {l:List Nat} (h:CBox X c W) (hp:Past l W W') (hX:X ∉ l):CBox X c W':=⟨(hp.block X h.lt hX).trans h.row⟩
theorem CBox.c0 (h:CBox X c W):W.cell? ⟨X,0,none⟩ = some (.int .i64 c.old):=by rw [cell_of_row _ _ _ _ _ _ h.row]; rfl
theorem CBox.c1 (h:CBox X c W):W.cell? ⟨X,1,none⟩ = some (.int .i64 c.new):=by rw [cell_of_row _ _ _ _ _ _ h.row]; rfl
theorem CBox.c2 (h:CBox X c W):W.cell? ⟨X,2,none⟩ = some (.int .i64 c.depth):=by rw [cell_of_row _ _ _ _ _ _ h.row]; rfl
theorem CBox.c3 (h:CBox X c W):W.cell? ⟨X,3,none⟩ = some (.slice c.sh c.lh c.ch):=by rw [cell_of_row _ _ _ _ _ _ h.row]; rfl
theorem CBox.c4 (h:CBox X c W):W.cell? ⟨X,4,none⟩ = some (.slice c.sk c.lk c.ck):=by rw [cell_of_row _ _ _ _ _ _ h.row]; rfl
end
theorem CBox.new (c:Cas) (W:World):CBox W.heap.size c (W.alloc (.cells #[.int .i64 c.old,.int .i64 c.new,.int .i64 c.depth,.slice c.sh c.lh c.ch,.slice c.sk c.lk c.ck] 25)):=⟨World.alloc_heap_new W _⟩
theorem CBox.all {X:Nat} {old new depth:Int} {sh:Option Addr} {lh ch:Nat} {sk:Option Addr} {lk ck:Nat} {W:World} (h:CBox X ⟨old,new,depth,sh,lh,ch,sk,lk,ck⟩ W) :
  W.cell? ⟨X,0,none⟩ = some (.int .i64 old) ∧ W.cell? ⟨X,1,none⟩ = some (.int .i64 new) ∧ W.cell? ⟨X,2,none⟩ = some (.int .i64 depth) ∧ W.cell? ⟨X,3,none⟩ = some (.slice sh lh ch) ∧ W.cell? ⟨X,4,none⟩ = some (.slice sk lk ck):=⟨h.c0,h.c1,h.c2,h.c3,h.c4⟩
set_option maxRecDepth 20000 in
theorem entry_any (c:Cas) (hz:Nat → Nat) (h1:1 ≤ c.lh) (h2:c.lh ≤ 60) (k:Int) (v:Nat) (w:World) (hH:HashAt c.sh c.lh w hz) :
  Calls Tryz.prog 9 #[.agg #[.int .i64 c.old,.int .i64 c.new,.int .i64 c.depth,.slice c.sh c.lh c.ch,.slice c.sk c.lk c.ck],.int .i64 k,.int .u64 (v:Nat)] w fun e w' => e = .returned (group.entV (kN k c.lh) v (hz (kN k c.lh))) ∧ Below w.heap.size w w':=by
 have hk:=kN_lt k h1
 obtain ⟨x,hx,hz1,hc⟩:=hH _ hk
 have hb:=new_block w (.cells #[.int .i64 c.old,.int .i64 c.new,.int .i64 c.depth,.slice c.sh c.lh c.ch,.slice c.sk c.lk c.ck] 25)
 have hb2:=under.below_step hb (new_block _ (.cells #[.int .u64 0,.int .u64 0,.int .u64 0] 43))
 have hcell:=hc _ hb2
 have e1:=uN_cast k
 obtain ⟨er,ew,eu,ei⟩:=ent_num k h1 (by omega)
 obtain ⟨old,new,depth,sh,lh,ch,sk,lk,ck⟩:=c
 simp only at *
 subst hx
 clear hH hc hz1 hk
 generalize uN k = uk at *
 generalize kN k lh = ki at *
 generalize hz ki = hh at *
 go_enter Tryz.func9,Tryz.ntmps9
 go_wp2
 refine bodyPost_ret (v:=group.entV ki v hh) (by simp [results,Tryz.results9,go_sem]) rfl ⟨rfl, ?_⟩
 exact under.below_step hb (new_block _ _)
/-- no more is in it than is asked -/
structure Short (c:Cas) (n0:Nat):Prop where
 h1:1 ≤ c.lh
 h2:c.lh ≤ 60
 k2:c.lk ≤ 60
 e0:c.old = n0
 o0:okN n0
 l0:n0 ≤ 16
 nw:∀ n1:Nat,c.new = n1 → okN n1 → n1 ≤ 32
set_option maxRecDepth 20000 in
theorem long_0 (old new depth:Int) (sh:Option Addr) (lh ch:Nat) (sk:Option Addr) (lk ck:Nat) (g0:lh < 1) (w:World) :
  Calls Tryz.prog 7 #[.agg #[.int .i64 old,.int .i64 new,.int .i64 depth,.slice sh lh ch,.slice sk lk ck]] w fun e w' => e = .returned (.bool true) ∧ Below w.heap.size w w':=by
 have hb:=new_block w (.cells #[.int .i64 old,.int .i64 new,.int .i64 depth,.slice sh lh ch,.slice sk lk ck] 25)
 have a0:decide (((lh:Nat):Int) < 1) = true:=decide_eq_true (by omega)
 have b0:decide (lh < 1) = true:=decide_eq_true (by omega)
 clear g0
 go_enter Tryz.func7,Tryz.ntmps7
 go_wp2
 go_ret
 exact ⟨rfl,hb⟩
set_option maxRecDepth 20000 in
theorem long_1 (old new depth:Int) (sh:Option Addr) (lh ch:Nat) (sk:Option Addr) (lk ck:Nat) (g0:¬ lh < 1) (g1:60 < lh) (w:World) :
  Calls Tryz.prog 7 #[.agg #[.int .i64 old,.int .i64 new,.int .i64 depth,.slice sh lh ch,.slice sk lk ck]] w fun e w' => e = .returned (.bool true) ∧ Below w.heap.size w w':=by
 have hb:=new_block w (.cells #[.int .i64 old,.int .i64 new,.int .i64 depth,.slice sh lh ch,.slice sk lk ck] 25)
 have a0:decide (((lh:Nat):Int) < 1) = false:=decide_eq_false (by omega)
 have b0:decide (lh < 1) = false:=decide_eq_false (by omega)
 have a1:decide ((60:Int) < ((lh:Nat):Int)) = true:=decide_eq_true (by omega)
 have b1:decide (60 < lh) = true:=decide_eq_true (by omega)
 clear g0 g1
 go_enter Tryz.func7,Tryz.ntmps7
 go_wp2
 go_ret
 exact ⟨rfl,hb⟩
set_option maxRecDepth 20000 in
theorem long_2 (old new depth:Int) (sh:Option Addr) (lh ch:Nat) (sk:Option Addr) (lk ck:Nat) (g0:¬ lh < 1) (g1:¬ 60 < lh) (g2:60 < lk) (w:World) :
  Calls Tryz.prog 7 #[.agg #[.int .i64 old,.int .i64 new,.int .i64 depth,.slice sh lh ch,.slice sk lk ck]] w fun e w' => e = .returned (.bool true) ∧ Below w.heap.size w w':=by
 have hb:=new_block w (.cells #[.int .i64 old,.int .i64 new,.int .i64 depth,.slice sh lh ch,.slice sk lk ck] 25)
 have a0:decide (((lh:Nat):Int) < 1) = false:=decide_eq_false (by omega)
 have b0:decide (lh < 1) = false:=decide_eq_false (by omega)
 have a1:decide ((60:Int) < ((lh:Nat):Int)) = false:=decide_eq_false (by omega)
 have b1:decide (60 < lh) = false:=decide_eq_false (by omega)
 have a2:decide ((60:Int) < ((lk:Nat):Int)) = true:=decide_eq_true (by omega)
 have b2:decide (60 < lk) = true:=decide_eq_true (by omega)
 clear g0 g1 g2
 go_enter Tryz.func7,Tryz.ntmps7
 go_wp2
 go_ret
 exact ⟨rfl,hb⟩
set_option maxRecDepth 20000 in
theorem long_3 (old new depth:Int) (sh:Option Addr) (lh ch:Nat) (sk:Option Addr) (lk ck:Nat) (g0:¬ lh < 1) (g1:¬ 60 < lh) (g2:¬ 60 < lk) (g3:¬ ∃ n:Nat,old = n ∧ okN n) (w:World) :
  Calls Tryz.prog 7 #[.agg #[.int .i64 old,.int .i64 new,.int .i64 depth,.slice sh lh ch,.slice sk lk ck]] w fun e w' => e = .returned (.bool true) ∧ Below w.heap.size w w':=by
 have hb:=new_block w (.cells #[.int .i64 old,.int .i64 new,.int .i64 depth,.slice sh lh ch,.slice sk lk ck] 25)
 have a0:decide (((lh:Nat):Int) < 1) = false:=decide_eq_false (by omega)
 have b0:decide (lh < 1) = false:=decide_eq_false (by omega)
 have a1:decide ((60:Int) < ((lh:Nat):Int)) = false:=decide_eq_false (by omega)
 have b1:decide (60 < lh) = false:=decide_eq_false (by omega)
 have a2:decide ((60:Int) < ((lk:Nat):Int)) = false:=decide_eq_false (by omega)
 have b2:decide (60 < lk) = false:=decide_eq_false (by omega)
 have R3:=Lib.hid (fun W => rright_no _ g3 W)
 clear g0 g1 g2 g3
 go_enter Tryz.func7,Tryz.ntmps7
 go_wp2_with (first
  | (go_at_call 45; refine (R3.out _).mono ?_; rintro e w4 ⟨rfl,rfl⟩; clear R3))
 go_ret
 exact ⟨rfl,hb⟩
set_option maxRecDepth 20000 in
theorem long_4 (old new depth:Int) (sh:Option Addr) (lh ch:Nat) (sk:Option Addr) (lk ck:Nat) (g0:¬ lh < 1) (g1:¬ 60 < lh) (g2:¬ 60 < lk) (g3:∃ n:Nat,old = n ∧ okN n) (g4:16 < old) (w:World) :
  Calls Tryz.prog 7 #[.agg #[.int .i64 old,.int .i64 new,.int .i64 depth,.slice sh lh ch,.slice sk lk ck]] w fun e w' => e = .returned (.bool true) ∧ Below w.heap.size w w':=by
 have hb:=new_block w (.cells #[.int .i64 old,.int .i64 new,.int .i64 depth,.slice sh lh ch,.slice sk lk ck] 25)
 have a0:decide (((lh:Nat):Int) < 1) = false:=decide_eq_false (by omega)
 have b0:decide (lh < 1) = false:=decide_eq_false (by omega)
 have a1:decide ((60:Int) < ((lh:Nat):Int)) = false:=decide_eq_false (by omega)
 have b1:decide (60 < lh) = false:=decide_eq_false (by omega)
 have a2:decide ((60:Int) < ((lk:Nat):Int)) = false:=decide_eq_false (by omega)
 have b2:decide (60 < lk) = false:=decide_eq_false (by omega)
 have a4:decide ((16:Int) < old) = true:=decide_eq_true (by omega)
 obtain ⟨n3,e3,o3⟩:=g3
 have R3:=Lib.hid (fun W => rright_yes n3 o3 W)
 rw [← e3] at R3
 clear g0 g1 g2 g4 e3 o3
 go_enter Tryz.func7,Tryz.ntmps7
 go_wp2_with (first
  | (go_at_call 45; refine (R3.out _).mono ?_; rintro e w4 ⟨rfl,rfl⟩; clear R3))
 go_ret
 exact ⟨rfl,hb⟩
set_option maxRecDepth 20000 in
theorem long_5 (old new depth:Int) (sh:Option Addr) (lh ch:Nat) (sk:Option Addr) (lk ck:Nat) (g0:¬ lh < 1) (g1:¬ 60 < lh) (g2:¬ 60 < lk) (g3:∃ n:Nat,old = n ∧ okN n) (g4:¬ 16 < old) (g5:∃ n:Nat,new = n ∧ okN n) (g6:32 < new) (w:World) :
  Calls Tryz.prog 7 #[.agg #[.int .i64 old,.int .i64 new,.int .i64 depth,.slice sh lh ch,.slice sk lk ck]] w fun e w' => e = .returned (.bool true) ∧ Below w.heap.size w w':=by
 have hb:=new_block w (.cells #[.int .i64 old,.int .i64 new,.int .i64 depth,.slice sh lh ch,.slice sk lk ck] 25)
 have a0:decide (((lh:Nat):Int) < 1) = false:=decide_eq_false (by omega)
 have b0:decide (lh < 1) = false:=decide_eq_false (by omega)
 have a1:decide ((60:Int) < ((lh:Nat):Int)) = false:=decide_eq_false (by omega)
 have b1:decide (60 < lh) = false:=decide_eq_false (by omega)
 have a2:decide ((60:Int) < ((lk:Nat):Int)) = false:=decide_eq_false (by omega)
 have b2:decide (60 < lk) = false:=decide_eq_false (by omega)
 have a4:decide ((16:Int) < old) = false:=decide_eq_false (by omega)
 have a5:decide ((32:Int) < new) = true:=decide_eq_true (by omega)
 obtain ⟨n3,e3,o3⟩:=g3
 have R3:=Lib.hid (fun W => rright_yes n3 o3 W)
 rw [← e3] at R3
 obtain ⟨n5,e5,o5⟩:=g5
 have R5:=Lib.hid (fun W => rright_yes n5 o5 W)
 rw [← e5] at R5
 clear g0 g1 g2 g4 g6 e3 o3 e5 o5
 go_enter Tryz.func7,Tryz.ntmps7
 go_wp2_with (first
  | (go_at_call 45; refine (R3.out _).mono ?_; rintro e w4 ⟨rfl,rfl⟩; clear R3)
  | (go_at_call 45; refine (R5.out _).mono ?_; rintro e w5 ⟨rfl,rfl⟩; clear R5))
 go_ret
 exact ⟨rfl,hb⟩
set_option maxRecDepth 20000 in
theorem long_6 (old new depth:Int) (sh:Option Addr) (lh ch:Nat) (sk:Option Addr) (lk ck:Nat) (g0:¬ lh < 1) (g1:¬ 60 < lh) (g2:¬ 60 < lk) (g3:∃ n:Nat,old = n ∧ okN n) (g4:¬ 16 < old) (g5:∃ n:Nat,new = n ∧ okN n) (g6:¬ 32 < new) (w:World) :
  Calls Tryz.prog 7 #[.agg #[.int .i64 old,.int .i64 new,.int .i64 depth,.slice sh lh ch,.slice sk lk ck]] w fun e w' => e = .returned (.bool false) ∧ Below w.heap.size w w':=by
 have hb:=new_block w (.cells #[.int .i64 old,.int .i64 new,.int .i64 depth,.slice sh lh ch,.slice sk lk ck] 25)
 have a0:decide (((lh:Nat):Int) < 1) = false:=decide_eq_false (by omega)
 have b0:decide (lh < 1) = false:=decide_eq_false (by omega)
 have a1:decide ((60:Int) < ((lh:Nat):Int)) = false:=decide_eq_false (by omega)
 have b1:decide (60 < lh) = false:=decide_eq_false (by omega)
 have a2:decide ((60:Int) < ((lk:Nat):Int)) = false:=decide_eq_false (by omega)
 have b2:decide (60 < lk) = false:=decide_eq_false (by omega)
 have a4:decide ((16:Int) < old) = false:=decide_eq_false (by omega)
 have a5:decide ((32:Int) < new) = false:=decide_eq_false (by omega)
 obtain ⟨n3,e3,o3⟩:=g3
 have R3:=Lib.hid (fun W => rright_yes n3 o3 W)
 rw [← e3] at R3
 obtain ⟨n5,e5,o5⟩:=g5
 have R5:=Lib.hid (fun W => rright_yes n5 o5 W)
 rw [← e5] at R5
 clear g0 g1 g2 g4 g6 e3 o3 e5 o5
 go_enter Tryz.func7,Tryz.ntmps7
 go_wp2_with (first
  | (go_at_call 45; refine (R3.out _).mono ?_; rintro e w4 ⟨rfl,rfl⟩; clear R3)
  | (go_at_call 45; refine (R5.out _).mono ?_; rintro e w5 ⟨rfl,rfl⟩; clear R5))
 go_ret
 exact ⟨rfl,hb⟩
set_option maxRecDepth 20000 in
theorem long_7 (old new depth:Int) (sh:Option Addr) (lh ch:Nat) (sk:Option Addr) (lk ck:Nat) (g0:¬ lh < 1) (g1:¬ 60 < lh) (g2:¬ 60 < lk) (g3:∃ n:Nat,old = n ∧ okN n) (g4:¬ 16 < old) (g5:¬ ∃ n:Nat,new = n ∧ okN n) (w:World) :
  Calls Tryz.prog 7 #[.agg #[.int .i64 old,.int .i64 new,.int .i64 depth,.slice sh lh ch,.slice sk lk ck]] w fun e w' => e = .returned (.bool false) ∧ Below w.heap.size w w':=by
 have hb:=new_block w (.cells #[.int .i64 old,.int .i64 new,.int .i64 depth,.slice sh lh ch,.slice sk lk ck] 25)
 have a0:decide (((lh:Nat):Int) < 1) = false:=decide_eq_false (by omega)
 have b0:decide (lh < 1) = false:=decide_eq_false (by omega)
 have a1:decide ((60:Int) < ((lh:Nat):Int)) = false:=decide_eq_false (by omega)
 have b1:decide (60 < lh) = false:=decide_eq_false (by omega)
 have a2:decide ((60:Int) < ((lk:Nat):Int)) = false:=decide_eq_false (by omega)
 have b2:decide (60 < lk) = false:=decide_eq_false (by omega)
 have a4:decide ((16:Int) < old) = false:=decide_eq_false (by omega)
 obtain ⟨n3,e3,o3⟩:=g3
 have R3:=Lib.hid (fun W => rright_yes n3 o3 W)
 rw [← e3] at R3
 have R5:=Lib.hid (fun W => rright_no _ g5 W)
 clear g0 g1 g2 g4 g5 e3 o3
 go_enter Tryz.func7,Tryz.ntmps7
 go_wp2_with (first
  | (go_at_call 45; refine (R3.out _).mono ?_; rintro e w4 ⟨rfl,rfl⟩; clear R3)
  | (go_at_call 45; refine (R5.out _).mono ?_; rintro e w5 ⟨rfl,rfl⟩; clear R5))
 go_ret
 exact ⟨rfl,hb⟩
theorem long_yes {c:Cas} (hl:¬ ∃ n0,Short c n0) (w:World):Calls Tryz.prog 7 #[.agg #[.int .i64 c.old,.int .i64 c.new,.int .i64 c.depth,.slice c.sh c.lh c.ch,.slice c.sk c.lk c.ck]] w fun e w' => e = .returned (.bool true) ∧ Below w.heap.size w w':=by
 obtain ⟨old,new,depth,sh,lh,ch,sk,lk,ck⟩:=c
 by_cases g0:lh < 1
 ·exact long_0 old new depth sh lh ch sk lk ck g0 w
 by_cases g1:60 < lh
 ·exact long_1 old new depth sh lh ch sk lk ck g0 g1 w
 by_cases g2:60 < lk
 ·exact long_2 old new depth sh lh ch sk lk ck g0 g1 g2 w
 by_cases g3:∃ n:Nat,old = n ∧ okN n
 ·by_cases g4:16 < old
  ·exact long_4 old new depth sh lh ch sk lk ck g0 g1 g2 g3 g4 w
  by_cases g5:∃ n:Nat,new = n ∧ okN n
  ·by_cases g6:32 < new
   ·exact long_5 old new depth sh lh ch sk lk ck g0 g1 g2 g3 g4 g5 g6 w
   ·obtain ⟨n0,e0,o0⟩:=g3
    exact absurd ⟨n0,⟨by show 1 ≤ lh; omega,by show lh ≤ 60; omega,by show lk ≤ 60; omega,e0,o0,by omega,fun n1 (e:new = n1) _ => by omega⟩⟩ hl
  ·obtain ⟨n0,e0,o0⟩:=g3
   exact absurd ⟨n0,⟨by show 1 ≤ lh; omega,by show lh ≤ 60; omega,by show lk ≤ 60; omega,e0,o0,by omega,fun n1 (e:new = n1) o1 => absurd ⟨n1,e,o1⟩ g5⟩⟩ hl
 ·exact long_3 old new depth sh lh ch sk lk ck g0 g1 g2 g3 w
theorem long_no {c:Cas} {n0:Nat} (h:Short c n0) (w:World):Calls Tryz.prog 7 #[.agg #[.int .i64 c.old,.int .i64 c.new,.int .i64 c.depth,.slice c.sh c.lh c.ch,.slice c.sk c.lk c.ck]] w fun e w' => e = .returned (.bool false) ∧ Below w.heap.size w w':=by
 obtain ⟨old,new,depth,sh,lh,ch,sk,lk,ck⟩:=c
 obtain ⟨h1,h2,k2,e0,o0,l0,nw⟩:=h
 simp only at *
 have g0:¬ lh < 1:=by omega
 have g1:¬ 60 < lh:=by omega
 have g2:¬ 60 < lk:=by omega
 have g4:¬ 16 < old:=by omega
 by_cases g5:∃ n:Nat,new = n ∧ okN n
 ·have g6:¬ 32 < new:=by
   obtain ⟨n1,e1,o1⟩:=g5
   have:=nw n1 e1 o1
   omega
  exact long_6 old new depth sh lh ch sk lk ck g0 g1 g2 ⟨n0,e0,o0⟩ g4 g5 g6 w
 ·exact long_7 old new depth sh lh ch sk lk ck g0 g1 g2 ⟨n0,e0,o0⟩ g4 g5 w
end Go.Proofs.YtapndkabgjeofaaGreatDoor.dual

/-! ### dual: 'x, is := f(..)' in a drawn region, where f writes old memory and x lies in a box: stages. -/
namespace Go.Proofs.YtapndkabgjeofaaGreatDoor.dual
open Go.ChangeShapes Go.WideShapes Go.ChangeAt Go.RowKit Go.Shelf swar under trap meter group probe lens tail call table
set_option linter.unusedSimpArgs false
set_option linter.unusedVariables false

/-- how often f was called, where the box lies, whether it was stored -/
structure XS where
 n:Nat
 al:Option Nat
 st:Bool
/-- a world of a stage: G tells what holds behind so many calls -/
structure XD (w:World) (d:List Nat) (G:Nat → World → Prop) (k v h:Nat) (s:XS) (W:World):Prop where
 past:Past d w W
 g:G s.n W
 box:∀ b,s.al = some b → w.heap.size ≤ b ∧ ∃ x y z,EBox b x y z W ∧ (s.st = true → x = k ∧ y = v ∧ z = h)
/-- what G bears -/
structure XG (w:World) (d:List Nat) (G:Nat → World → Prop):Prop where
 lt:∀ b ∈ d,b < w.heap.size
 read:∀ n W W',G n W → Below W.heap.size W W' → G n W'
 set:∀ n W b i u,G n W → w.heap.size ≤ b → G n (W.setCell ⟨b,i,none⟩ u)
section
variable {w:World} {d:List Nat} {G:Nat → World → Prop} {k v h:Nat} {s:XS} {W W':World}
theorem XD.start (hg:G 0 W) (hp:Past d w W):XD w d G k v h ⟨0,none,false⟩ W:=⟨hp,hg,fun b e => by cases e⟩
theorem XD.read (hG:XG w d G) (hd:XD w d G k v h s W) (hb:Below W.heap.size W W'):XD w d G k v h s W':=
 ⟨hd.past.trans (Past.of hb),hG.read _ _ _ hd.g hb,fun b e => by obtain ⟨h1,x,y,z,h2,h3⟩:=hd.box b e; exact ⟨h1,x,y,z,h2.keep hb,h3⟩⟩
/-- behind one more call -/
theorem XD.next (hG:XG w d G) (hd:XD w d G k v h s W) (hg:G (s.n + 1) W') (hp:Past d W W'):XD w d G k v h ⟨s.n + 1,s.al,s.st⟩ W':=
 ⟨hd.past.trans hp,hg,fun b e => by
  obtain ⟨h1,x,y,z,h2,h3⟩:=hd.box b e
  exact ⟨h1,x,y,z,h2.past hp (fun e => by have:=hG.lt b e; omega),h3⟩⟩
theorem XD.put (hG:XG w d G) (hd:XD w d G k v h s W):XD w d G k v h ⟨s.n,some W.heap.size,false⟩ (W.alloc (.cells #[.int .u64 0,.int .u64 0,.int .u64 0] 43)):=
 ⟨hd.past.trans (Past.of (new_block W _)),hG.read _ _ _ hd.g (new_block W _),fun b e => by cases e; exact ⟨hd.past.size,0,0,0,EBox.new 0 0 0 W,fun e => by cases e⟩⟩
theorem XD.set {b:Nat} (hG:XG w d G) (hd:XD w d G k v h s W) (ha:s.al = some b):XD w d G k v h ⟨s.n,some b,true⟩ (set3 b k v h W):=by
 obtain ⟨h1,x,y,z,h2,h3⟩:=hd.box b ha
 have past_new:∀ {W1:World} (i:Nat) (u:Value),Past d w W1 → Past d w (W1.setCell ⟨b,i,none⟩ u):=fun {W1} i u hp =>
  ⟨hp.os,hp.tape,hp.output,by simpa [World.setCell] using hp.size,fun k hk hn => (Below.heap_setCell _ _ _ _ (by show k ≠ b; omega)).trans (hp.block k hk hn)⟩
 exact ⟨past_new 2 _ (past_new 1 _ (past_new 0 _ hd.past)),hG.set _ _ _ _ _ (hG.set _ _ _ _ _ (hG.set _ _ _ _ _ hd.g h1) h1) h1,fun b' e => by cases e; exact ⟨h1,k,v,h,h2.set _ _ _,fun _ => ⟨rfl,rfl,rfl⟩⟩⟩
end
/-- the marked operations: number ic calls f, which yields val at first; number ia makes the box, number ib stores; the others yield u -/
def XM (u val:Value) (ic ia ib k:Nat) (s:XS) (v:Value) (s':XS):Prop:=
 if k = ia then ∃ b,v = .pointer (some ⟨b,0,none⟩) ∧ s' = ⟨s.n,some b,false⟩ else if k = ib then v = undef ∧ s' = ⟨s.n,s.al,true⟩ else if k = ic then (s.n = 0 → v = val) ∧ s' = ⟨s.n + 1,s.al,s.st⟩ else v = u ∧ s' = s
theorem XM.some (u val:Value) (ic ia ib k:Nat) (s:XS):∃ v s',XM u val ic ia ib k s v s':=by
 unfold XM
 split
 ·exact ⟨_,_,0,rfl,rfl⟩
 ·split
  ·exact ⟨_,_,rfl,rfl⟩
  ·split
   ·exact ⟨val,_,fun _ => rfl,rfl⟩
   ·exact ⟨_,_,rfl,rfl⟩
theorem XM.free (u val:Value) (ic ia ib i:Nat) (h1:i ≠ ia) (h2:i ≠ ib) (s:XS) (x:Value) (sj:XS) (v:Value) (s2:XS) (ha:XM u val ic ia ib ia s x sj) (hb:XM u val ic ia ib i sj v s2):∃ s',XM u val ic ia ib i s v s' ∧ XM u val ic ia ib ia s' x s2:=by
 unfold XM at *
 rw [if_pos rfl] at ha
 rw [if_neg h1,if_neg h2] at hb
 obtain ⟨b,rfl,rfl⟩:=ha
 by_cases h3:i = ic
 ·rw [if_pos h3] at hb
  obtain ⟨hv,rfl⟩:=hb
  refine ⟨⟨s.n + 1,s.al,s.st⟩, ?_, ?_⟩
  ·rw [if_neg h1,if_neg h2,if_pos h3]; exact ⟨hv,rfl⟩
  ·rw [if_pos rfl]; exact ⟨b,rfl,rfl⟩
 ·rw [if_neg h3] at hb
  obtain ⟨rfl,rfl⟩:=hb
  refine ⟨s, ?_, ?_⟩
  ·rw [if_neg h1,if_neg h2,if_neg h3]; exact ⟨rfl,rfl⟩
  ·rw [if_pos rfl]; exact ⟨b,rfl,rfl⟩
end Go.Proofs.YtapndkabgjeofaaGreatDoor.dual

/-! ### dual: Take. -/
namespace Go.Proofs.YtapndkabgjeofaaGreatDoor.dual
open Go.ChangeShapes Go.WideShapes Go.ChangeAt Go.RowKit Go.Shelf swar under trap meter group probe lens tail call table evac
attribute [local go_sem] Oper.semAt_some stage.pureUpon move.stepUpon
set_option linter.unusedSimpArgs false
set_option linter.unusedVariables false

theorem sl_some (x:Addr) (n c:Nat) (w:World):(binOp BinOp.eql 70 (.slice (some x) n c) (.slice none 0 0)).run Tryz.prog w = .ok (.bool false) w:=by
 have h:∀ d:Nat,(Op.equalIn (d + 1) 70 (.slice (some x) n c) (.slice none 0 0)).run Tryz.prog w = .ok false w:=fun d => by
  simp [Op.equalIn,run_underlying Tryz.underlying70]
 simp [binOp,go_sem,Op.equal]
 rw [show Op.maxDepth = 9999 + 1 from rfl,h 9999]; rfl
section
variable {a:String → Addr} {w0:World} {Y:Lay} {D n1 d:Nat} {dp:Int} {q:Nat} {tk:Bool} {t:Nat → Tb} {fp:List Nat} {w W W':World}
theorem DAt.state (h : DAt a w0 Y D n1 d dp q tk t fp w) : ∀ W, Below w.heap.size w W → W.cell? ⟨1, 0, none⟩ = some (errs.errV (a "ambler/api.ErrState")) := fun W hb => (h.re.base.six.below (under.below_step h.re.bel hb)).two.state
set_option maxRecDepth 20000 in
theorem DAt.take_early (h:DAt a w0 Y D n1 d dp q tk t fp w) (hq:q < Y.n 0 + (Y.N - 1) * n1) :
  Calls Tryz.prog 24 #[.pointer (some ⟨D, 0, none⟩)] w fun e w' => e = .returned (.tuple #[.slice none 0 0, errs.errV (a "ambler/api.ErrState")]) ∧ Below w.heap.size w w' := by
 have cL:=h.left
 have d1:decide (0 < ((Y.n 0 + (Y.N - 1) * n1 - q:Nat):Int)) = true:=decide_eq_true (by omega)
 have d2:decide (0 < (Y.n 0 + (Y.N - 1) * n1 - q:Nat)) = true:=decide_eq_true (by omega)
 have HS:=Lib.hid h.state
 clear h hq
 generalize Y.n 0 + (Y.N - 1) * n1 - q = lf at *
 go_enter Tryz.func24,Tryz.ntmps24
 go_wp2_with (go_at_call 36; refine cL.mono ?_; rintro e w1 ⟨rfl,hb1⟩; have y:=HS.out _ hb1)
 go_quiet (fail)
 go_wp2
 go_ret2
 exact ⟨rfl,under.below_step hb1 (below_drewN' _ _)⟩
set_option maxRecDepth 20000 in
theorem DAt.take_yes (h:DAt a w0 Y D n1 d dp q false t fp w) (hq:q = Y.n 0 + (Y.N - 1) * n1) :
  Calls Tryz.prog 24 #[.pointer (some ⟨D,0,none⟩)] w fun e w' => ∃ GU cU,e = .returned (.tuple #[.slice (some ⟨GU,0,none⟩) (Y.N - 1) cU,.nilIface]) ∧ (∀ j,1 ≤ j → j < Y.N → w'.cell? ⟨GU,j - 1,none⟩ = some (.pointer (some ⟨Y.T j,0,none⟩))) ∧ GU ∈ fp ∧ GU ∉ Y.tall ∧ DAt a w0 Y D n1 d dp q true t fp w' ∧ Past fp w w':=by
 have cL:=h.left
 rw [hq,Nat.sub_self] at cL
 have hs:=h.small
 rcases h with ⟨h1,_⟩ | ⟨h1,h2,Q,GT,cT,GU,cU,V,h,rfl⟩
 ·omega
 ·have H:=Lib.hid h
  have h6:∀ W,Below w.heap.size w W → W.cell? ⟨D,6,none⟩ = some (.slice (some ⟨GU,0,none⟩) (Y.N - 1) cU) ∧ ∀ i,W.frozen? ⟨D,i,none⟩ = false:=fun W hb => by
   obtain ⟨sB,hr⟩:=(h.read hb).row
   exact ⟨hr.c6,hr.fz⟩
  have H6:=Lib.hid h6
  clear h hq h6
  obtain ⟨nb,hnb⟩:∃ nb,Y.N - 1 = nb:=⟨_,rfl⟩
  rw [hnb] at H6
  have HN:=Lib.hid hnb
  have hss:=sl_some
  clear hnb
  go_enter Tryz.func24,Tryz.ntmps24
  go_wp2_with (go_at_call 36; refine cL.mono ?_; rintro e w1 ⟨rfl,hb1⟩; have y6:=(H6.out _ hb1).1; have yf:=(H6.out _ hb1).2)
  go_ret2
  have hM:=H.out.read hb1
  have hp:Past [D] w1 (w1.setCell ⟨D,6,none⟩ (.slice none 0 0)):=(Past.refl _ _).store (.inl (by simp)) _
  obtain ⟨sB,hr⟩:=hM.row
  refine ⟨GU,cU,by rw [HN.out]; rfl,fun j h3 hj => hp.cell (hM.gu j h3 hj) (by simpa using hM.nGU.2.1),by simp [fpM],hM.nGU.1,.inr ⟨h1,h2,Q,GT,cT,GU,cU,V,⟨hM.pl,⟨sB,hr.set6 _⟩,fun j hj => hp.cell (hM.gt j hj) (by simpa using hM.nGT.2.1),fun j h3 hj => hp.cell (hM.gu j h3 hj) (by simpa using hM.nGU.2.1),hM.re.past hp (fun b hb => ?_),hM.ev.past hp (by simpa using hM.nV.2),hM.hV,hM.nV,hM.nGT,hM.nGU⟩,rfl⟩,(Past.of hb1).trans (hp.mono (by simp [fpM]))⟩
  obtain rfl:b = D:=by simpa using hb
  exact ⟨hM.pl.hD,hM.pl.nD⟩
end
end Go.Proofs.YtapndkabgjeofaaGreatDoor.dual

/-! ### dual: the chapter's example. -/
namespace Go.Proofs.YtapndkabgjeofaaGreatDoor.dual
open Go.ChangeShapes Go.WideShapes Go.ChangeAt Go.RowKit Go.Shelf swar under trap meter group probe lens tail call table evac
attribute [local go_sem] Oper.semAt_some stage.pureUpon move.stepUpon
set_option linter.unusedSimpArgs false
set_option linter.unusedVariables false

theorem szDual:(Tryz.prog.info? 124).map (·.size) = some 7:=by kernel_rfl
theorem dual_some (x:Addr) (w:World):(Op.equalIn 10000 28 (.pointer (some x)) (.pointer none)).run Tryz.prog w = .ok false w:=by
 obtain ⟨j,hj,_⟩:=Option.map_eq_some_iff.1 szDual
 have h:∀ d:Nat,(Op.equalIn (d + 1) 28 (.pointer (some x)) (.pointer none)).run Tryz.prog w = .ok false w:=fun d => by
  simp [Op.equalIn,run_underlying Tryz.underlying28,sizeOf,typeInfo,hj,sameAddr]
 exact h 9999
theorem dual_none (w:World):(Op.equalIn 10000 28 (.pointer none) (.pointer none)).run Tryz.prog w = .ok true w:=by
 obtain ⟨j,hj,_⟩:=Option.map_eq_some_iff.1 szDual
 have h:∀ d:Nat,(Op.equalIn (d + 1) 28 (.pointer none) (.pointer none)).run Tryz.prog w = .ok true w:=fun d => by
  simp [Op.equalIn,run_underlying Tryz.underlying28,sizeOf,typeInfo,hj,sameAddr]
 exact h 9999
/-! ### the example's tables -/
def aL (k:Nat):Nat → Tb:=fun i => if i = 0 then aE k else Tb.new 2
theorem aL_next (k:Nat):up (aL k) 0 ((aL k 0).puts k k 0) = aL (k + 1):=by
 funext i; unfold up aL
 by_cases h:i = 0
 ·rw [if_pos h,if_pos h]; rfl
 ·rw [if_neg h,if_neg h,if_neg h]
theorem aL_put:∀ k:Fin 3,putB' (aE k.val) k.val k.val = true ∧ putE' (aE k.val) k.val k.val = 0 ∧ looks (aE k.val) k.val k.val = 1:=by decide +kernel
theorem aL_goods:goods 2 0 (aL 3) (lst (aL 3) 0) = true ∧ lkc 2 0 (aL 3) (lst (aL 3) 0) ≤ 100 ∧ lenS (tak (mvs 2 0 (aL 3) (lst (aL 3) 0)) 0) 2 = 3:=by decide +kernel
theorem lay1_start {a:String → Addr} {w w1:World} (hw:Bq a w) {T B n:Nat} {t:Nat → Tb} (hn:(t 0).n = n) (ok:(t 0).Ok) (h1:TAt T B (t 0) w1) (hb1:Below w.heap.size w w1) (k1:w.heap.size ≤ T) (k2:w.heap.size ≤ B):Real a w (lay1 T B n) t w1:=by
 refine ⟨fun i hi => ?_,fun i hi => ?_,fun i hi => ?_,fun i j hi hj hne => ?_,fun b hb => ?_,hb1,hw⟩
 ·obtain rfl:i = 0:=by have : i < 1:=hi; omega
  exact h1
 ·obtain rfl:i = 0:=by have : i < 1:=hi; omega
  exact ok
 ·obtain rfl:i = 0:=by have : i < 1:=hi; omega
  exact hn
 ·have : i < 1:=hi
  have : j < 1:=hj
  omega
 ·obtain ⟨i,hi,hb⟩:=List.mem_flatMap.1 hb
  have hb':b = T ∨ b = B:=by simpa [lay1] using hb
  rcases hb' with rfl | rfl
  ·exact k1
  ·exact k2
theorem lay1_tall {T B n b:Nat} (h:b ∈ (lay1 T B n).tall):b = T ∨ b = B:=by
 obtain ⟨i,hi,hb⟩:=List.mem_flatMap.1 h
 simpa [lay1] using hb
/-- a step of the example -/
theorem step_ex {a:String → Addr} {w0:World} {Y:Lay} {D q:Nat} {t tf:Nat → Tb} {fp:List Nat} {W:World} {Bm p v k:Nat} (h:DAt a w0 Y D 2 0 (-1) q false t fp W) (hN:Y.N = 2) (h0:Y.n 0 = 1) (hq:q < 3) (hm:MAt Bm 0 (Mk p v k) W) (hB0:w0.heap.size ≤ Bm) (hB:Bm ∉ fp) (hp:p ≤ 100) (hv:v ≤ 101 * k) (hk:k ≤ 10) (g1:goods 2 0 t (lst t 0) = true) (g2:lkc 2 0 t (lst t 0) ≤ 100) (htf:tak (mvs 2 0 t (lst t 0)) 0 = tf) :
  Calls Tryz.prog 31 #[.pointer (some ⟨D,0,none⟩),.pointer (some ⟨Bm,0,none⟩)] W fun e w' => e = .returned (.bool true) ∧ ∃ v' fp',v' ≤ v + 101 ∧ MAt Bm 0 (Mk p v' (k + 1)) w' ∧ Bm ∉ fp' ∧ DAt a w0 Y D 2 0 (-1) (q + 1) false (if q < 2 then t else tf) fp' w':=by
 subst htf
 have hl:=hm.lt
 have eG:sG (rdy Y 2 q) Y.N 0 (q - (Y.N - 1) * 2) t = true ∧ sT (rdy Y 2 q) Y.N 0 (q - (Y.N - 1) * 2) t = (if q < 2 then t else tak (mvs 2 0 t (lst t 0)) 0) ∧ sK (rdy Y 2 q) Y.N 0 (q - (Y.N - 1) * 2) t ≤ 100:=by
  rw [hN]
  unfold rdy
  rw [hN]
  by_cases h2:q < 2
  ·rw [show decide ((2 - 1) * 2 ≤ q) = false from decide_eq_false (by omega),if_pos h2,sG_no,sT_no,sK_no]
   exact ⟨rfl,rfl,by omega⟩
  ·obtain rfl:q = 2:=by omega
   rw [if_neg h2,show decide ((2 - 1) * 2 ≤ 2) = true from rfl,show 2 - (2 - 1) * 2 = 0 from rfl,sG_yes,sT_yes,sK_yes]
   exact ⟨g1,rfl,g2⟩
 refine (h.step_on (by rw [hN,h0]; omega) hm (Mk_ok (by omega) (by omega) (by omega)) (Mk_E _ _ _) hB0 hB).mono fun e w' r => ?_
 rcases r with ⟨_,he,fp',hD,hm',hp',hf⟩ | ⟨hg,_⟩
 ·rw [Mk_unit (by omega),Mk_visit (by omega),Mk_see _ (by omega)] at hm'
  rw [eG.2.1] at hD
  exact ⟨he,_,fp',by omega,hm',fun e => by rcases hf _ e with h | h; exact hB h; omega,hD⟩
 ·rw [eG.1] at hg; cases hg
set_option maxRecDepth 100000 in
set_option maxHeartbeats 1000000 in
theorem alive_any (a:String → Addr) (w:World) (hw:Bq a w):Calls Tryz.prog 6 #[] w fun e w' => e = .returned (.bool true) ∧ Below w.heap.size w w':=by
 have HW:=Lib.hid hw
 have hts:=tab_some
 have hds:=dual_some
 have c1:Calls Tryz.prog 40 #[.int .i64 1] w _:=new_ex 1 (by decide) w
 clear hw
 go_enter Tryz.func6,Tryz.ntmps6
 go_wp2_with (go_at_call 40; (with_reducible refine c1.mono ?_); rintro e w1 ⟨T0,B0,rfl,hT1,k1,k2,hb1⟩)
 have hR0:Real a w (lay1 T0 B0 1) (aL 0) w1:=lay1_start HW.out rfl (Tb.Ok.new (by decide)) hT1 hb1 k1 k2
 have l1:=hT1.lt
 have l2:=hT1.lb
 have nB:w1.heap.size ∉ (lay1 T0 B0 1).tall:=fun e => by rcases lay1_tall e with e | e <;> omega
 have hB0:w.heap.size ≤ w1.heap.size:=hR0.bel.size
 have hb3:=new_block w1 (.cells #[.int .i64 0,.int .i64 0,.int .i64 0,.int .i64 0,.int .i64 0,.int .i64 0,.int .i64 0,.bool false] 36)
 have HS0:=Lib.hid (And.intro (hR0.read hb3) (MAt.zero_new w1))
 have nBT:w1.heap.size ≠ T0 ∧ w1.heap.size ≠ B0:=by omega
 clear hR0 hT1 hb1 k1 k2 hb3 c1 l1 l2
 generalize w1.alloc (.cells #[.int .i64 0,.int .i64 0,.int .i64 0,.int .i64 0,.int .i64 0,.int .i64 0,.int .i64 0,.bool false] 36) = W0 at HS0 ⊢
 generalize w1.heap.size = Bm at *
 go_loopw [20] (fun i wr => ∃ k:Nat,k ≤ 3 ∧ i = .int .u64 k ∧ Hid (Real a w (lay1 T0 B0 1) (aL k) wr ∧ MAt Bm 0 (Mk k 0 0) wr)) (fun i _ => 3 - (intOf i).toNat)
 case atStart => exact ⟨0,by omega,rfl,HS0⟩
 case round =>
  obtain ⟨k,hk,rfl,HR⟩:=hrel
  rcases Nat.lt_or_ge k 3 with hk2 | hk2
  ·have hki:(k:Int) < 3:=by omega
   obtain ⟨e1,e2,e3⟩:=aL_put ⟨k,hk2⟩
   simp only at e1 e2 e3
   have cP:=fun W (h:Real a w (lay1 T0 B0 1) (aL k) W ∧ MAt Bm 0 (Mk k 0 0) W) => pput_any h.1 (i:=0) (show 0 < 1 by decide) h.2 hB0 nB k k 0 (by omega) (by omega) (by decide)
   rw [aL_next,show aL k 0 = aE k from rfl,e1,e2,e3,show errAt a 0 = .nilIface from rfl,Ln.see_one,show (Ln.pr Bm 0).one (Mk k 0 0) = (Mk k 0 0).probes 1 from rfl,Mk_probe (by omega)] at cP
   simp only [show (lay1 T0 B0 1).T 0 = T0 from rfl] at cP
   have HC:=HR.out
   clear e1 e2 e3
   have rd:∀ (W W':World),Real a w (lay1 T0 B0 1) (aL k) W ∧ MAt Bm 0 (Mk k 0 0) W → Below W.heap.size W W' → Real a w (lay1 T0 B0 1) (aL k) W' ∧ MAt Bm 0 (Mk k 0 0) W':=fun _ _ h hb => ⟨h.1.read hb,h.2.below hb⟩
   have RD:=Lib.hid rd
   have HC':=Lib.hid HC
   clear HC rd HR
   go_wp2_with (first
    | (go_at_call 13; refine (probing_any Bm 0 _).mono ?_; rintro e w4 ⟨rfl,hb4⟩)
    | (go_at_call 41; refine (cP _ (RD.out _ _ HC'.out hb4)).mono ?_; rintro e w5 ⟨rfl,hr5,hm5⟩))
   go_roundw
   case rel => exact ⟨k + 1,by omega,by simp,Lib.hid ⟨hr5,hm5⟩⟩
   case measure => simp [intOf]; omega
  ·obtain rfl:k = 3:=by omega
   clear HS0
   have cN:=dual.new_yes a w wr T0 B0 1 2 0 1 (-1) (aL 3) HR.out.1 (by decide) (by decide) (by decide) (by decide) (.inl ⟨by decide,rfl⟩) (fun j hj => if_neg (by omega))
   have hlm:=HR.out.2.lt
   have HM:=Lib.hid HR.out.2
   clear HR
   go_wp2_with (fail)
   refine cN.mono ?_
   clear cN
   rintro e w4 ⟨Y,D,fp,rfl,hN,hT,hB,hn0,hD,hb4,hfp,hDe⟩
   clear hDe
   have nF:Bm ∉ fp:=fun e => by rcases hfp _ e with h | h | h <;> omega
   have hm4:=HM.out.below hb4
   have cL:=hD.left
   rw [hN,hn0,show 1 + (1 + 1 - 1) * 2 - 0 = 3 from rfl] at cL
   have HX:=Lib.hid (And.intro hD (And.intro hm4 nF))
   have HN:=Lib.hid (And.intro hN hn0)
   clear hD hm4 nF hfp hN hn0 hT hB hlm HM hb4
   obtain ⟨g1,g2,g3⟩:=aL_goods
   obtain ⟨t3,ht3⟩:∃ t3,aL 3 = t3:=⟨_,rfl⟩
   rw [ht3] at HX g1 g2 g3
   obtain ⟨tf,htf⟩:∃ tf,tak (mvs 2 0 t3 (lst t3 0)) 0 = tf:=⟨_,rfl⟩
   rw [htf] at g3
   have HG:=Lib.hid (And.intro g1 (And.intro g2 (And.intro htf g3)))
   clear ht3 g1 g2 htf g3
   have key:∀ (q:Nat) (t:Nat → Tb) (fp:List Nat) (W:World) (v k:Nat),DAt a w Y D 2 0 (-1) q false t fp W → t = t3 → q < 3 → MAt Bm 0 (Mk 3 v k) W → Bm ∉ fp → v ≤ 101 * k → k ≤ 10 → Calls Tryz.prog 31 #[.pointer (some ⟨D,0,none⟩),.pointer (some ⟨Bm,0,none⟩)] W fun e w' => e = .returned (.bool true) ∧ ∃ v' fp',v' ≤ v + 101 ∧ MAt Bm 0 (Mk 3 v' (k + 1)) w' ∧ Bm ∉ fp' ∧ DAt a w Y D 2 0 (-1) (q + 1) false (if q < 2 then t3 else tf) fp' w':=fun q t fp W v k h ht hq hm hB hv hk => by
    subst ht
    exact step_ex h HN.out.1 HN.out.2 hq hm hB0 hB (by decide) hv hk HG.out.1 HG.out.2.1 HG.out.2.2.1
   have KEY:=Lib.hid key
   have cS0:=fun W (hb:Below w4.heap.size w4 W) => KEY.out 0 _ _ W 0 0 (HX.out.1.read hb) rfl (by omega) (HX.out.2.1.below hb) HX.out.2.2 (by omega) (by omega)
   clear key
   go_wp2_with (first
    | (go_at_call 36; refine cL.mono ?_; clear cL; rintro e w5 ⟨rfl,hb5⟩; have c5:=cS0 _ hb5; clear cS0 hb5 HX)
    | (go_at_call 31; refine c5.mono ?_; clear c5; rintro e w6 ⟨rfl,v6,fp6,q6,hm6,nf6,hD6⟩; have c6:=KEY.out _ _ _ _ _ _ hD6 (if_pos (by omega)) (by omega) hm6 nf6 (by omega) (by omega); clear hm6 nf6 hD6)
    | (go_at_call 31; refine c6.mono ?_; clear c6; rintro e w7 ⟨rfl,v7,fp7,q7,hm7,nf7,hD7⟩; have c7:=KEY.out _ _ _ _ _ _ hD7 (if_pos (by omega)) (by omega) hm7 nf7 (by omega) (by omega); have cR:=hD7.ready; rw [show rdy Y 2 (0 + 1 + 1) = true from decide_eq_true (by have:=HN.out.1; omega)] at cR; clear hm7 nf7 hD7)
    | (go_at_call 37; refine cR.mono ?_; clear cR; rintro e w8 ⟨rfl,rfl⟩)
    | (go_at_call 31; refine c7.mono ?_; clear c7; rintro e w9 ⟨rfl,v9,fp9,q9,hm9,nf9,hD9⟩; have c9:=hD9.step_off (by have:=HN.out; omega) (some ⟨Bm,0,none⟩); rw [if_neg (by omega)] at hD9; have HD9:=Lib.hid hD9; clear hm9 nf9 hD9)
    | (go_at_call 31; refine c9.mono ?_; clear c9; rintro e w10 ⟨rfl,hb10⟩; have hD10:=HD9.out.read hb10; have cE:=hD10.len; have hbE:=hD10.re.bel; rw [show rdy Y 2 (0 + 1 + 1 + 1) = true from decide_eq_true (by have:=HN.out.1; omega),show (cut Y true).N = 2 from HN.out.1,HG.out.2.2.2] at cE; clear hD10 HD9 hb10)
    | (go_at_call 38; refine cE.mono ?_; clear cE; rintro e w11 ⟨rfl,rfl⟩))
   go_ret
   exact ⟨rfl,hbE⟩
end Go.Proofs.YtapndkabgjeofaaGreatDoor.dual
