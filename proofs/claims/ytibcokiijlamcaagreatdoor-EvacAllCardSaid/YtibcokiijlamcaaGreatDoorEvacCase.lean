/- evac: a case: its entries; whether more is in it than is asked. -/
import Derived.Test.YtibcokiijlamcaaGreatDoorProbeDoc
import Derived.Test.YtibcokiijlamcaaGreatDoorTableEntry
import Derived.LoopTactic
namespace Go.Proofs.YtibcokiijlamcaaGreatDoor.evac
open Go.ChangeShapes Go.WideShapes Go.ChangeAt Go.RowKit Go.Shelf swar under trap meter group probe lens tail call table
attribute [local go_sem] Oper.semAt_some stage.pureUpon move.stepUpon
set_option linter.unusedSimpArgs false
set_option linter.unusedVariables false

/-- a case -/
structure Cas where
  old : Int
  new : Int
  depth : Int
  two : Bool
  sh : Option Addr
  lh : Nat
  ch : Nat
  sk : Option Addr
  lk : Nat
  ck : Nat
  sm : Option Addr
  lm : Nat
  cm : Nat
def Cas.cs (c : Cas) : Array Value := #[.int .i64 c.old, .int .i64 c.new, .int .i64 c.depth, .bool c.two, .slice c.sh c.lh c.ch, .slice c.sk c.lk c.ck, .slice c.sm c.lm c.cm]
/-- a case in a box -/
structure CBox (X : Nat) (c : Cas) (W : World) : Prop where
  row : W.heap[X]? = some (.cells #[.int .i64 c.old, .int .i64 c.new, .int .i64 c.depth, .bool c.two, .slice c.sh c.lh c.ch, .slice c.sk c.lk c.ck, .slice c.sm c.lm c.cm] 25 (0, 0))
section
variable {X : Nat} {c : Cas} {W W' : World}
theorem CBox.lt (h : CBox X c W) : X < W.heap.size := (Array.getElem?_eq_some_iff.1 h.row).1
theorem CBox.keep (h : CBox X c W) (hb : Below W.heap.size W W') : CBox X c W' := ⟨(hb.block X h.lt).trans h.row⟩
theorem CBox.past {l : List Nat} (h : CBox X c W) (hp : Past l W W') (hX : X ∉ l) : CBox X c W' := ⟨(hp.block X h.lt hX).trans h.row⟩
theorem CBox.c0 (h : CBox X c W) : W.cell? ⟨X, 0, none⟩ = some (.int .i64 c.old) := by rw [cell_of_row _ _ _ _ _ _ h.row]; rfl
theorem CBox.c1 (h : CBox X c W) : W.cell? ⟨X, 1, none⟩ = some (.int .i64 c.new) := by rw [cell_of_row _ _ _ _ _ _ h.row]; rfl
theorem CBox.c2 (h : CBox X c W) : W.cell? ⟨X, 2, none⟩ = some (.int .i64 c.depth) := by rw [cell_of_row _ _ _ _ _ _ h.row]; rfl
theorem CBox.c3 (h : CBox X c W) : W.cell? ⟨X, 3, none⟩ = some (.bool c.two) := by rw [cell_of_row _ _ _ _ _ _ h.row]; rfl
theorem CBox.c4 (h : CBox X c W) : W.cell? ⟨X, 4, none⟩ = some (.slice c.sh c.lh c.ch) := by rw [cell_of_row _ _ _ _ _ _ h.row]; rfl
theorem CBox.c5 (h : CBox X c W) : W.cell? ⟨X, 5, none⟩ = some (.slice c.sk c.lk c.ck) := by rw [cell_of_row _ _ _ _ _ _ h.row]; rfl
theorem CBox.c6 (h : CBox X c W) : W.cell? ⟨X, 6, none⟩ = some (.slice c.sm c.lm c.cm) := by rw [cell_of_row _ _ _ _ _ _ h.row]; rfl
end
theorem CBox.new (c : Cas) (W : World) : CBox W.heap.size c (W.alloc (.cells #[.int .i64 c.old, .int .i64 c.new, .int .i64 c.depth, .bool c.two, .slice c.sh c.lh c.ch, .slice c.sk c.lk c.ck, .slice c.sm c.lm c.cm] 25)) := ⟨World.alloc_heap_new W _⟩
theorem kN5 (k : Int) {la : Nat} (h1 : 1 ≤ la) (h2 : la ≤ 100) : IntKind.u64.wrap (((kN k la : Nat) : Int) + 5) = ((kN k la + 5 : Nat) : Int) := by
  have := kN_lt k h1
  rw [IntKind.wrap_u64]; omega
set_option maxRecDepth 20000 in
theorem entry_any (c : Cas) (hz : Nat → Nat) (h1 : 1 ≤ c.lh) (h2 : c.lh ≤ 60) (k : Int) (w : World) (hH : HashAt c.sh c.lh w hz) :
    Calls Tryz.prog 21 #[.agg #[.int .i64 c.old, .int .i64 c.new, .int .i64 c.depth, .bool c.two, .slice c.sh c.lh c.ch, .slice c.sk c.lk c.ck, .slice c.sm c.lm c.cm], .int .i64 k] w fun e w' => e = .returned (group.entV (kN k c.lh) (kN k c.lh + 5) (hz (kN k c.lh))) ∧ Below w.heap.size w w' := by
  have hk := kN_lt k h1
  obtain ⟨x, hx, hz1, hc⟩ := hH _ hk
  have hb := new_block w (.cells #[.int .i64 c.old, .int .i64 c.new, .int .i64 c.depth, .bool c.two, .slice c.sh c.lh c.ch, .slice c.sk c.lk c.ck, .slice c.sm c.lm c.cm] 25)
  have hb2 := under.below_step hb (new_block _ (.cells #[.int .u64 0, .int .u64 0, .int .u64 0] 60))
  have hcell := hc _ hb2
  have e1 := uN_cast k
  obtain ⟨er, ew, eu, ei⟩ := ent_num k h1 (by omega)
  have e5 := kN5 k h1 (by omega)
  obtain ⟨old, new, depth, two, sh, lh, ch, sk, lk, ck, sm, lm, cm⟩ := c
  simp only at *
  subst hx
  clear hH hc hz1 hk
  generalize uN k = uk at *
  generalize kN k lh + 5 = k5 at *
  generalize kN k lh = ki at *
  generalize hz ki = hh at *
  go_enter Tryz.func21, Tryz.ntmps21
  go_wp2
  refine bodyPost_ret (v := group.entV ki k5 hh) (by simp [results, Tryz.results21, go_sem]) rfl ⟨rfl, ?_⟩
  exact under.below_step hb (new_block _ _)
/-- no more is in it than is asked -/
structure Short (c : Cas) (n0 n1 d : Nat) : Prop where
  h1 : 1 ≤ c.lh
  h2 : c.lh ≤ 60
  k2 : c.lk ≤ 60
  m2 : c.lm ≤ 60
  e0 : c.old = n0
  e1 : c.new = n1
  ed : c.depth = d
  o0 : okN n0
  o1 : okN n1
  l0 : n0 ≤ 16
  l1 : n1 ≤ 32
  ld : d ≤ 15
set_option maxRecDepth 20000 in
theorem long_0 (old new depth : Int) (two : Bool) (sh : Option Addr) (lh ch : Nat) (sk : Option Addr) (lk ck : Nat) (sm : Option Addr) (lm cm : Nat) (g0 : lh < 1) (w : World) :
    Calls Tryz.prog 8 #[.agg #[.int .i64 old, .int .i64 new, .int .i64 depth, .bool two, .slice sh lh ch, .slice sk lk ck, .slice sm lm cm]] w fun e w' => e = .returned (.bool true) ∧ Below w.heap.size w w' := by
  have hb := new_block w (.cells #[.int .i64 old, .int .i64 new, .int .i64 depth, .bool two, .slice sh lh ch, .slice sk lk ck, .slice sm lm cm] 25)
  have a0 : decide (((lh : Nat) : Int) < 1) = true := decide_eq_true (by omega)
  have b0 : decide (lh < 1) = true := decide_eq_true (by omega)
  clear g0
  go_enter Tryz.func8, Tryz.ntmps8
  go_wp2
  go_ret
  exact ⟨rfl, hb⟩
set_option maxRecDepth 20000 in
theorem long_1 (old new depth : Int) (two : Bool) (sh : Option Addr) (lh ch : Nat) (sk : Option Addr) (lk ck : Nat) (sm : Option Addr) (lm cm : Nat) (g0 : ¬ lh < 1) (g1 : 60 < lh) (w : World) :
    Calls Tryz.prog 8 #[.agg #[.int .i64 old, .int .i64 new, .int .i64 depth, .bool two, .slice sh lh ch, .slice sk lk ck, .slice sm lm cm]] w fun e w' => e = .returned (.bool true) ∧ Below w.heap.size w w' := by
  have hb := new_block w (.cells #[.int .i64 old, .int .i64 new, .int .i64 depth, .bool two, .slice sh lh ch, .slice sk lk ck, .slice sm lm cm] 25)
  have a0 : decide (((lh : Nat) : Int) < 1) = false := decide_eq_false (by omega)
  have b0 : decide (lh < 1) = false := decide_eq_false (by omega)
  have a1 : decide ((60 : Int) < ((lh : Nat) : Int)) = true := decide_eq_true (by omega)
  have b1 : decide (60 < lh) = true := decide_eq_true (by omega)
  clear g0 g1
  go_enter Tryz.func8, Tryz.ntmps8
  go_wp2
  go_ret
  exact ⟨rfl, hb⟩
set_option maxRecDepth 20000 in
theorem long_2 (old new depth : Int) (two : Bool) (sh : Option Addr) (lh ch : Nat) (sk : Option Addr) (lk ck : Nat) (sm : Option Addr) (lm cm : Nat) (g0 : ¬ lh < 1) (g1 : ¬ 60 < lh) (g2 : 60 < lk) (w : World) :
    Calls Tryz.prog 8 #[.agg #[.int .i64 old, .int .i64 new, .int .i64 depth, .bool two, .slice sh lh ch, .slice sk lk ck, .slice sm lm cm]] w fun e w' => e = .returned (.bool true) ∧ Below w.heap.size w w' := by
  have hb := new_block w (.cells #[.int .i64 old, .int .i64 new, .int .i64 depth, .bool two, .slice sh lh ch, .slice sk lk ck, .slice sm lm cm] 25)
  have a0 : decide (((lh : Nat) : Int) < 1) = false := decide_eq_false (by omega)
  have b0 : decide (lh < 1) = false := decide_eq_false (by omega)
  have a1 : decide ((60 : Int) < ((lh : Nat) : Int)) = false := decide_eq_false (by omega)
  have b1 : decide (60 < lh) = false := decide_eq_false (by omega)
  have a2 : decide ((60 : Int) < ((lk : Nat) : Int)) = true := decide_eq_true (by omega)
  have b2 : decide (60 < lk) = true := decide_eq_true (by omega)
  clear g0 g1 g2
  go_enter Tryz.func8, Tryz.ntmps8
  go_wp2
  go_ret
  exact ⟨rfl, hb⟩
set_option maxRecDepth 20000 in
theorem long_3 (old new depth : Int) (two : Bool) (sh : Option Addr) (lh ch : Nat) (sk : Option Addr) (lk ck : Nat) (sm : Option Addr) (lm cm : Nat) (g0 : ¬ lh < 1) (g1 : ¬ 60 < lh) (g2 : ¬ 60 < lk) (g3 : 60 < lm) (w : World) :
    Calls Tryz.prog 8 #[.agg #[.int .i64 old, .int .i64 new, .int .i64 depth, .bool two, .slice sh lh ch, .slice sk lk ck, .slice sm lm cm]] w fun e w' => e = .returned (.bool true) ∧ Below w.heap.size w w' := by
  have hb := new_block w (.cells #[.int .i64 old, .int .i64 new, .int .i64 depth, .bool two, .slice sh lh ch, .slice sk lk ck, .slice sm lm cm] 25)
  have a0 : decide (((lh : Nat) : Int) < 1) = false := decide_eq_false (by omega)
  have b0 : decide (lh < 1) = false := decide_eq_false (by omega)
  have a1 : decide ((60 : Int) < ((lh : Nat) : Int)) = false := decide_eq_false (by omega)
  have b1 : decide (60 < lh) = false := decide_eq_false (by omega)
  have a2 : decide ((60 : Int) < ((lk : Nat) : Int)) = false := decide_eq_false (by omega)
  have b2 : decide (60 < lk) = false := decide_eq_false (by omega)
  have a3 : decide ((60 : Int) < ((lm : Nat) : Int)) = true := decide_eq_true (by omega)
  have b3 : decide (60 < lm) = true := decide_eq_true (by omega)
  clear g0 g1 g2 g3
  go_enter Tryz.func8, Tryz.ntmps8
  go_wp2
  go_ret
  exact ⟨rfl, hb⟩
set_option maxRecDepth 20000 in
theorem long_4 (old new depth : Int) (two : Bool) (sh : Option Addr) (lh ch : Nat) (sk : Option Addr) (lk ck : Nat) (sm : Option Addr) (lm cm : Nat) (g0 : ¬ lh < 1) (g1 : ¬ 60 < lh) (g2 : ¬ 60 < lk) (g3 : ¬ 60 < lm) (g4 : ¬ ∃ n : Nat, old = n ∧ okN n) (w : World) :
    Calls Tryz.prog 8 #[.agg #[.int .i64 old, .int .i64 new, .int .i64 depth, .bool two, .slice sh lh ch, .slice sk lk ck, .slice sm lm cm]] w fun e w' => e = .returned (.bool true) ∧ Below w.heap.size w w' := by
  have hb := new_block w (.cells #[.int .i64 old, .int .i64 new, .int .i64 depth, .bool two, .slice sh lh ch, .slice sk lk ck, .slice sm lm cm] 25)
  have a0 : decide (((lh : Nat) : Int) < 1) = false := decide_eq_false (by omega)
  have b0 : decide (lh < 1) = false := decide_eq_false (by omega)
  have a1 : decide ((60 : Int) < ((lh : Nat) : Int)) = false := decide_eq_false (by omega)
  have b1 : decide (60 < lh) = false := decide_eq_false (by omega)
  have a2 : decide ((60 : Int) < ((lk : Nat) : Int)) = false := decide_eq_false (by omega)
  have b2 : decide (60 < lk) = false := decide_eq_false (by omega)
  have a3 : decide ((60 : Int) < ((lm : Nat) : Int)) = false := decide_eq_false (by omega)
  have b3 : decide (60 < lm) = false := decide_eq_false (by omega)
  have R4 := Lib.hid (fun W => rright_no _ g4 W)
  clear g0 g1 g2 g3 g4
  go_enter Tryz.func8, Tryz.ntmps8
  go_wp2_with (first
    | (go_at_call 33; refine (R4.out _).mono ?_; rintro e w4 ⟨rfl, rfl⟩; clear R4))
  go_ret
  exact ⟨rfl, hb⟩
set_option maxRecDepth 20000 in
theorem long_5 (old new depth : Int) (two : Bool) (sh : Option Addr) (lh ch : Nat) (sk : Option Addr) (lk ck : Nat) (sm : Option Addr) (lm cm : Nat) (g0 : ¬ lh < 1) (g1 : ¬ 60 < lh) (g2 : ¬ 60 < lk) (g3 : ¬ 60 < lm) (g4 : ∃ n : Nat, old = n ∧ okN n) (g5 : ¬ ∃ n : Nat, new = n ∧ okN n) (w : World) :
    Calls Tryz.prog 8 #[.agg #[.int .i64 old, .int .i64 new, .int .i64 depth, .bool two, .slice sh lh ch, .slice sk lk ck, .slice sm lm cm]] w fun e w' => e = .returned (.bool true) ∧ Below w.heap.size w w' := by
  have hb := new_block w (.cells #[.int .i64 old, .int .i64 new, .int .i64 depth, .bool two, .slice sh lh ch, .slice sk lk ck, .slice sm lm cm] 25)
  have a0 : decide (((lh : Nat) : Int) < 1) = false := decide_eq_false (by omega)
  have b0 : decide (lh < 1) = false := decide_eq_false (by omega)
  have a1 : decide ((60 : Int) < ((lh : Nat) : Int)) = false := decide_eq_false (by omega)
  have b1 : decide (60 < lh) = false := decide_eq_false (by omega)
  have a2 : decide ((60 : Int) < ((lk : Nat) : Int)) = false := decide_eq_false (by omega)
  have b2 : decide (60 < lk) = false := decide_eq_false (by omega)
  have a3 : decide ((60 : Int) < ((lm : Nat) : Int)) = false := decide_eq_false (by omega)
  have b3 : decide (60 < lm) = false := decide_eq_false (by omega)
  obtain ⟨n4, e4, o4⟩ := g4
  have R4 := Lib.hid (fun W => rright_yes n4 o4 W)
  rw [← e4] at R4
  have R5 := Lib.hid (fun W => rright_no _ g5 W)
  clear g0 g1 g2 g3 g5
  clear e4 o4
  go_enter Tryz.func8, Tryz.ntmps8
  go_wp2_with (first
    | (go_at_call 33; refine (R4.out _).mono ?_; rintro e w4 ⟨rfl, rfl⟩; clear R4)
    | (go_at_call 33; refine (R5.out _).mono ?_; rintro e w5 ⟨rfl, rfl⟩; clear R5))
  go_ret
  exact ⟨rfl, hb⟩
set_option maxRecDepth 20000 in
theorem long_6 (old new depth : Int) (two : Bool) (sh : Option Addr) (lh ch : Nat) (sk : Option Addr) (lk ck : Nat) (sm : Option Addr) (lm cm : Nat) (g0 : ¬ lh < 1) (g1 : ¬ 60 < lh) (g2 : ¬ 60 < lk) (g3 : ¬ 60 < lm) (g4 : ∃ n : Nat, old = n ∧ okN n) (g5 : ∃ n : Nat, new = n ∧ okN n) (g6 : 16 < old) (w : World) :
    Calls Tryz.prog 8 #[.agg #[.int .i64 old, .int .i64 new, .int .i64 depth, .bool two, .slice sh lh ch, .slice sk lk ck, .slice sm lm cm]] w fun e w' => e = .returned (.bool true) ∧ Below w.heap.size w w' := by
  have hb := new_block w (.cells #[.int .i64 old, .int .i64 new, .int .i64 depth, .bool two, .slice sh lh ch, .slice sk lk ck, .slice sm lm cm] 25)
  have a0 : decide (((lh : Nat) : Int) < 1) = false := decide_eq_false (by omega)
  have b0 : decide (lh < 1) = false := decide_eq_false (by omega)
  have a1 : decide ((60 : Int) < ((lh : Nat) : Int)) = false := decide_eq_false (by omega)
  have b1 : decide (60 < lh) = false := decide_eq_false (by omega)
  have a2 : decide ((60 : Int) < ((lk : Nat) : Int)) = false := decide_eq_false (by omega)
  have b2 : decide (60 < lk) = false := decide_eq_false (by omega)
  have a3 : decide ((60 : Int) < ((lm : Nat) : Int)) = false := decide_eq_false (by omega)
  have b3 : decide (60 < lm) = false := decide_eq_false (by omega)
  have a6 : decide (16 < old) = true := decide_eq_true (by omega)
  obtain ⟨n4, e4, o4⟩ := g4
  have R4 := Lib.hid (fun W => rright_yes n4 o4 W)
  rw [← e4] at R4
  obtain ⟨n5, e5, o5⟩ := g5
  have R5 := Lib.hid (fun W => rright_yes n5 o5 W)
  rw [← e5] at R5
  clear g0 g1 g2 g3 g6
  clear e4 o4
  clear e5 o5
  go_enter Tryz.func8, Tryz.ntmps8
  go_wp2_with (first
    | (go_at_call 33; refine (R4.out _).mono ?_; rintro e w4 ⟨rfl, rfl⟩; clear R4)
    | (go_at_call 33; refine (R5.out _).mono ?_; rintro e w5 ⟨rfl, rfl⟩; clear R5))
  go_ret
  exact ⟨rfl, hb⟩
set_option maxRecDepth 20000 in
theorem long_7 (old new depth : Int) (two : Bool) (sh : Option Addr) (lh ch : Nat) (sk : Option Addr) (lk ck : Nat) (sm : Option Addr) (lm cm : Nat) (g0 : ¬ lh < 1) (g1 : ¬ 60 < lh) (g2 : ¬ 60 < lk) (g3 : ¬ 60 < lm) (g4 : ∃ n : Nat, old = n ∧ okN n) (g5 : ∃ n : Nat, new = n ∧ okN n) (g6 : ¬ 16 < old) (g7 : 32 < new) (w : World) :
    Calls Tryz.prog 8 #[.agg #[.int .i64 old, .int .i64 new, .int .i64 depth, .bool two, .slice sh lh ch, .slice sk lk ck, .slice sm lm cm]] w fun e w' => e = .returned (.bool true) ∧ Below w.heap.size w w' := by
  have hb := new_block w (.cells #[.int .i64 old, .int .i64 new, .int .i64 depth, .bool two, .slice sh lh ch, .slice sk lk ck, .slice sm lm cm] 25)
  have a0 : decide (((lh : Nat) : Int) < 1) = false := decide_eq_false (by omega)
  have b0 : decide (lh < 1) = false := decide_eq_false (by omega)
  have a1 : decide ((60 : Int) < ((lh : Nat) : Int)) = false := decide_eq_false (by omega)
  have b1 : decide (60 < lh) = false := decide_eq_false (by omega)
  have a2 : decide ((60 : Int) < ((lk : Nat) : Int)) = false := decide_eq_false (by omega)
  have b2 : decide (60 < lk) = false := decide_eq_false (by omega)
  have a3 : decide ((60 : Int) < ((lm : Nat) : Int)) = false := decide_eq_false (by omega)
  have b3 : decide (60 < lm) = false := decide_eq_false (by omega)
  have a6 : decide (16 < old) = false := decide_eq_false (by omega)
  have a7 : decide (32 < new) = true := decide_eq_true (by omega)
  obtain ⟨n4, e4, o4⟩ := g4
  have R4 := Lib.hid (fun W => rright_yes n4 o4 W)
  rw [← e4] at R4
  obtain ⟨n5, e5, o5⟩ := g5
  have R5 := Lib.hid (fun W => rright_yes n5 o5 W)
  rw [← e5] at R5
  clear g0 g1 g2 g3 g6 g7
  clear e4 o4
  clear e5 o5
  go_enter Tryz.func8, Tryz.ntmps8
  go_wp2_with (first
    | (go_at_call 33; refine (R4.out _).mono ?_; rintro e w4 ⟨rfl, rfl⟩; clear R4)
    | (go_at_call 33; refine (R5.out _).mono ?_; rintro e w5 ⟨rfl, rfl⟩; clear R5))
  go_ret
  exact ⟨rfl, hb⟩
set_option maxRecDepth 20000 in
theorem long_8 (old new depth : Int) (two : Bool) (sh : Option Addr) (lh ch : Nat) (sk : Option Addr) (lk ck : Nat) (sm : Option Addr) (lm cm : Nat) (g0 : ¬ lh < 1) (g1 : ¬ 60 < lh) (g2 : ¬ 60 < lk) (g3 : ¬ 60 < lm) (g4 : ∃ n : Nat, old = n ∧ okN n) (g5 : ∃ n : Nat, new = n ∧ okN n) (g6 : ¬ 16 < old) (g7 : ¬ 32 < new) (g8 : depth < 0) (w : World) :
    Calls Tryz.prog 8 #[.agg #[.int .i64 old, .int .i64 new, .int .i64 depth, .bool two, .slice sh lh ch, .slice sk lk ck, .slice sm lm cm]] w fun e w' => e = .returned (.bool true) ∧ Below w.heap.size w w' := by
  have hb := new_block w (.cells #[.int .i64 old, .int .i64 new, .int .i64 depth, .bool two, .slice sh lh ch, .slice sk lk ck, .slice sm lm cm] 25)
  have a0 : decide (((lh : Nat) : Int) < 1) = false := decide_eq_false (by omega)
  have b0 : decide (lh < 1) = false := decide_eq_false (by omega)
  have a1 : decide ((60 : Int) < ((lh : Nat) : Int)) = false := decide_eq_false (by omega)
  have b1 : decide (60 < lh) = false := decide_eq_false (by omega)
  have a2 : decide ((60 : Int) < ((lk : Nat) : Int)) = false := decide_eq_false (by omega)
  have b2 : decide (60 < lk) = false := decide_eq_false (by omega)
  have a3 : decide ((60 : Int) < ((lm : Nat) : Int)) = false := decide_eq_false (by omega)
  have b3 : decide (60 < lm) = false := decide_eq_false (by omega)
  have a6 : decide (16 < old) = false := decide_eq_false (by omega)
  have a7 : decide (32 < new) = false := decide_eq_false (by omega)
  have a8 : decide (depth < 0) = true := decide_eq_true (by omega)
  obtain ⟨n4, e4, o4⟩ := g4
  have R4 := Lib.hid (fun W => rright_yes n4 o4 W)
  rw [← e4] at R4
  obtain ⟨n5, e5, o5⟩ := g5
  have R5 := Lib.hid (fun W => rright_yes n5 o5 W)
  rw [← e5] at R5
  clear g0 g1 g2 g3 g6 g7 g8
  clear e4 o4
  clear e5 o5
  go_enter Tryz.func8, Tryz.ntmps8
  go_wp2_with (first
    | (go_at_call 33; refine (R4.out _).mono ?_; rintro e w4 ⟨rfl, rfl⟩; clear R4)
    | (go_at_call 33; refine (R5.out _).mono ?_; rintro e w5 ⟨rfl, rfl⟩; clear R5))
  go_ret
  exact ⟨rfl, hb⟩
set_option maxRecDepth 20000 in
theorem long_9 (old new depth : Int) (two : Bool) (sh : Option Addr) (lh ch : Nat) (sk : Option Addr) (lk ck : Nat) (sm : Option Addr) (lm cm : Nat) (g0 : ¬ lh < 1) (g1 : ¬ 60 < lh) (g2 : ¬ 60 < lk) (g3 : ¬ 60 < lm) (g4 : ∃ n : Nat, old = n ∧ okN n) (g5 : ∃ n : Nat, new = n ∧ okN n) (g6 : ¬ 16 < old) (g7 : ¬ 32 < new) (g8 : ¬ depth < 0) (g9 : 15 < depth) (w : World) :
    Calls Tryz.prog 8 #[.agg #[.int .i64 old, .int .i64 new, .int .i64 depth, .bool two, .slice sh lh ch, .slice sk lk ck, .slice sm lm cm]] w fun e w' => e = .returned (.bool true) ∧ Below w.heap.size w w' := by
  have hb := new_block w (.cells #[.int .i64 old, .int .i64 new, .int .i64 depth, .bool two, .slice sh lh ch, .slice sk lk ck, .slice sm lm cm] 25)
  have a0 : decide (((lh : Nat) : Int) < 1) = false := decide_eq_false (by omega)
  have b0 : decide (lh < 1) = false := decide_eq_false (by omega)
  have a1 : decide ((60 : Int) < ((lh : Nat) : Int)) = false := decide_eq_false (by omega)
  have b1 : decide (60 < lh) = false := decide_eq_false (by omega)
  have a2 : decide ((60 : Int) < ((lk : Nat) : Int)) = false := decide_eq_false (by omega)
  have b2 : decide (60 < lk) = false := decide_eq_false (by omega)
  have a3 : decide ((60 : Int) < ((lm : Nat) : Int)) = false := decide_eq_false (by omega)
  have b3 : decide (60 < lm) = false := decide_eq_false (by omega)
  have a6 : decide (16 < old) = false := decide_eq_false (by omega)
  have a7 : decide (32 < new) = false := decide_eq_false (by omega)
  have a8 : decide (depth < 0) = false := decide_eq_false (by omega)
  have a9 : decide (15 < depth) = true := decide_eq_true (by omega)
  obtain ⟨n4, e4, o4⟩ := g4
  have R4 := Lib.hid (fun W => rright_yes n4 o4 W)
  rw [← e4] at R4
  obtain ⟨n5, e5, o5⟩ := g5
  have R5 := Lib.hid (fun W => rright_yes n5 o5 W)
  rw [← e5] at R5
  clear g0 g1 g2 g3 g6 g7 g8 g9
  clear e4 o4
  clear e5 o5
  go_enter Tryz.func8, Tryz.ntmps8
  go_wp2_with (first
    | (go_at_call 33; refine (R4.out _).mono ?_; rintro e w4 ⟨rfl, rfl⟩; clear R4)
    | (go_at_call 33; refine (R5.out _).mono ?_; rintro e w5 ⟨rfl, rfl⟩; clear R5))
  go_ret
  exact ⟨rfl, hb⟩
set_option maxRecDepth 20000 in
theorem long_10 (old new depth : Int) (two : Bool) (sh : Option Addr) (lh ch : Nat) (sk : Option Addr) (lk ck : Nat) (sm : Option Addr) (lm cm : Nat) (g0 : ¬ lh < 1) (g1 : ¬ 60 < lh) (g2 : ¬ 60 < lk) (g3 : ¬ 60 < lm) (g4 : ∃ n : Nat, old = n ∧ okN n) (g5 : ∃ n : Nat, new = n ∧ okN n) (g6 : ¬ 16 < old) (g7 : ¬ 32 < new) (g8 : ¬ depth < 0) (g9 : ¬ 15 < depth) (w : World) :
    Calls Tryz.prog 8 #[.agg #[.int .i64 old, .int .i64 new, .int .i64 depth, .bool two, .slice sh lh ch, .slice sk lk ck, .slice sm lm cm]] w fun e w' => e = .returned (.bool false) ∧ Below w.heap.size w w' := by
  have hb := new_block w (.cells #[.int .i64 old, .int .i64 new, .int .i64 depth, .bool two, .slice sh lh ch, .slice sk lk ck, .slice sm lm cm] 25)
  have a0 : decide (((lh : Nat) : Int) < 1) = false := decide_eq_false (by omega)
  have b0 : decide (lh < 1) = false := decide_eq_false (by omega)
  have a1 : decide ((60 : Int) < ((lh : Nat) : Int)) = false := decide_eq_false (by omega)
  have b1 : decide (60 < lh) = false := decide_eq_false (by omega)
  have a2 : decide ((60 : Int) < ((lk : Nat) : Int)) = false := decide_eq_false (by omega)
  have b2 : decide (60 < lk) = false := decide_eq_false (by omega)
  have a3 : decide ((60 : Int) < ((lm : Nat) : Int)) = false := decide_eq_false (by omega)
  have b3 : decide (60 < lm) = false := decide_eq_false (by omega)
  have a6 : decide (16 < old) = false := decide_eq_false (by omega)
  have a7 : decide (32 < new) = false := decide_eq_false (by omega)
  have a8 : decide (depth < 0) = false := decide_eq_false (by omega)
  have a9 : decide (15 < depth) = false := decide_eq_false (by omega)
  obtain ⟨n4, e4, o4⟩ := g4
  have R4 := Lib.hid (fun W => rright_yes n4 o4 W)
  rw [← e4] at R4
  obtain ⟨n5, e5, o5⟩ := g5
  have R5 := Lib.hid (fun W => rright_yes n5 o5 W)
  rw [← e5] at R5
  clear g0 g1 g2 g3 g6 g7 g8 g9
  clear e4 o4
  clear e5 o5
  go_enter Tryz.func8, Tryz.ntmps8
  go_wp2_with (first
    | (go_at_call 33; refine (R4.out _).mono ?_; rintro e w4 ⟨rfl, rfl⟩; clear R4)
    | (go_at_call 33; refine (R5.out _).mono ?_; rintro e w5 ⟨rfl, rfl⟩; clear R5))
  go_ret
  exact ⟨rfl, hb⟩
theorem long_no {c : Cas} {n0 n1 d : Nat} (h : Short c n0 n1 d) (w : World) :
    Calls Tryz.prog 8 #[.agg #[.int .i64 c.old, .int .i64 c.new, .int .i64 c.depth, .bool c.two, .slice c.sh c.lh c.ch, .slice c.sk c.lk c.ck, .slice c.sm c.lm c.cm]] w fun e w' => e = .returned (.bool false) ∧ Below w.heap.size w w' := by
  have h1 := h.h1
  have h2 := h.h2
  have h3 := h.k2
  have h4 := h.m2
  have h5 := h.l0
  have h6 := h.l1
  have h7 := h.ld
  exact long_10 _ _ _ _ _ _ _ _ _ _ _ _ _ (by omega) (by omega) (by omega) (by omega) ⟨n0, h.e0, h.o0⟩ ⟨n1, h.e1, h.o1⟩ (by rw [h.e0]; omega) (by rw [h.e1]; omega) (by rw [h.ed]; omega) (by rw [h.ed]; omega) w
theorem long_yes {c : Cas} (h : ¬ ∃ n0 n1 d, Short c n0 n1 d) (w : World) :
    Calls Tryz.prog 8 #[.agg #[.int .i64 c.old, .int .i64 c.new, .int .i64 c.depth, .bool c.two, .slice c.sh c.lh c.ch, .slice c.sk c.lk c.ck, .slice c.sm c.lm c.cm]] w fun e w' => e = .returned (.bool true) ∧ Below w.heap.size w w' := by
  by_cases g0 : c.lh < 1
  · exact long_0 _ _ _ _ _ _ _ _ _ _ _ _ _ g0 w
  by_cases g1 : 60 < c.lh
  · exact long_1 _ _ _ _ _ _ _ _ _ _ _ _ _ g0 g1 w
  by_cases g2 : 60 < c.lk
  · exact long_2 _ _ _ _ _ _ _ _ _ _ _ _ _ g0 g1 g2 w
  by_cases g3 : 60 < c.lm
  · exact long_3 _ _ _ _ _ _ _ _ _ _ _ _ _ g0 g1 g2 g3 w
  by_cases g4 : ¬ ∃ n : Nat, c.old = n ∧ okN n
  · exact long_4 _ _ _ _ _ _ _ _ _ _ _ _ _ g0 g1 g2 g3 g4 w
  have g4 := Classical.not_not.1 g4
  by_cases g5 : ¬ ∃ n : Nat, c.new = n ∧ okN n
  · exact long_5 _ _ _ _ _ _ _ _ _ _ _ _ _ g0 g1 g2 g3 g4 g5 w
  have g5 := Classical.not_not.1 g5
  by_cases g6 : 16 < c.old
  · exact long_6 _ _ _ _ _ _ _ _ _ _ _ _ _ g0 g1 g2 g3 g4 g5 g6 w
  by_cases g7 : 32 < c.new
  · exact long_7 _ _ _ _ _ _ _ _ _ _ _ _ _ g0 g1 g2 g3 g4 g5 g6 g7 w
  by_cases g8 : c.depth < 0
  · exact long_8 _ _ _ _ _ _ _ _ _ _ _ _ _ g0 g1 g2 g3 g4 g5 g6 g7 g8 w
  by_cases g9 : 15 < c.depth
  · exact long_9 _ _ _ _ _ _ _ _ _ _ _ _ _ g0 g1 g2 g3 g4 g5 g6 g7 g8 g9 w
  obtain ⟨n0, e0, o0⟩ := g4
  obtain ⟨n1, e1, o1⟩ := g5
  exact absurd ⟨n0, n1, c.depth.toNat, by omega, by omega, by omega, by omega, e0, e1, by omega, o0, o1, by omega, by omega, by omega⟩ h
end Go.Proofs.YtibcokiijlamcaaGreatDoor.evac
