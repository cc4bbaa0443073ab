/- credit: where a ledger lies, and its methods' contracts. -/
import Derived.Test.YtbldjegeaphocaaCreditWhole
import Derived.Test.YtbldjegeaphocaaPast
import Derived.Deep.RegionWith
import Derived.IntWalk
import Derived.Lib.Hide
namespace Go.Proofs.Ytbldjegeaphocaa.credit
open Go.RowKit under trap flt
set_option linter.unusedSimpArgs false
set_option linter.unusedVariables false
@[local go_sem] theorem run_store_f (P : Program) (w : World) (a : Addr) (m : Mode) (k : FloatKind) (b : Nat) : (store a (.float k b) m).run P w = stored P w a (.float k b) m := run_store P w a _ m rfl

/-- a ledger at a place, from cell o of block B on -/
structure LAt (B o : Nat) (l : Lg) (w : World) : Prop where
  b : w.cell? ⟨B, o, none⟩ = some (.int .i64 l.b)
  r : w.cell? ⟨B, o + 1, none⟩ = some (.float .f64 l.r)
  fz : ∀ i, w.frozen? ⟨B, i, none⟩ = false
theorem LAt.lt {B o : Nat} {l : Lg} {w : World} (h : LAt B o l w) : B < w.heap.size := World.block_lt_of_cell? w _ h.b
theorem LAt.of_block {B o : Nat} {l : Lg} {w w' : World} (h : LAt B o l w) (he : w'.heap[B]? = w.heap[B]?) : LAt B o l w' :=
  ⟨(World.cell?_of_block (w := w) he).trans h.b, (World.cell?_of_block (w := w) he).trans h.r, fun i => (World.frozen?_of_block (w := w) he).trans (h.fz i)⟩
theorem LAt.below {B o : Nat} {l : Lg} {w w' : World} (h : LAt B o l w) (hb : Below w.heap.size w w') : LAt B o l w' := h.of_block (hb.block B h.lt)
theorem LAt.past {B o : Nat} {l : Lg} {w w' : World} {d : List Nat} (h : LAt B o l w) (hb : Past d w w') (hd : B ∉ d) : LAt B o l w' := h.of_block (hb.block B h.lt hd)
theorem LAt.drew {B o : Nat} {l : Lg} {w : World} (h : LAt B o l w) : LAt B o l w.drew := h.of_block rfl
theorem LAt.drewN {B o : Nat} {l : Lg} {w : World} (h : LAt B o l w) (q : Nat) : LAt B o l (w.drewN q) := h.of_block rfl
theorem LAt.new (w : World) (t : TypeId) : LAt w.heap.size 0 Lg.zero (w.alloc (.cells #[.int .i64 0, .float .f64 0] t)) := by
  constructor <;> simp [Lg.zero, go_sem]
theorem LAt.setB {B o : Nat} {l : Lg} {w : World} (h : LAt B o l w) (x : Int) : LAt B o ⟨x, l.r⟩ (w.setCell ⟨B, o, none⟩ (.int .i64 x)) := by
  obtain ⟨h0, h1, hf⟩ := h
  constructor <;> simp [World.cell?_setCell_same', World.cell?_setCell_other, h0, h1, hf]
theorem LAt.setR {B o : Nat} {l : Lg} {w : World} (h : LAt B o l w) (x : Nat) : LAt B o ⟨l.b, x⟩ (w.setCell ⟨B, o + 1, none⟩ (.float .f64 x)) := by
  obtain ⟨h0, h1, hf⟩ := h
  constructor <;> simp [World.cell?_setCell_same', World.cell?_setCell_other, h0, h1, hf]
/-- a step of a ledger: what it holds behind it; all else is as it was -/
structure LStep (B o : Nat) (l : Lg) (w w' : World) : Prop where
  past : Past [B] w w'
  side : Beside B o 2 w w'
  at' : LAt B o l w'
theorem LStep.of {B o : Nat} {l : Lg} {w w' : World} (h : LAt B o l w) (hb : Below w.heap.size w w') : LStep B o l w w' := ⟨Past.of hb, Beside.of_block (hb.block B h.lt), h.below hb⟩
theorem LStep.trans {B o : Nat} {l l' : Lg} {x y z : World} (h : LStep B o l x y) (k : LStep B o l' y z) : LStep B o l' x z := ⟨h.past.trans k.past, h.side.trans k.side, k.at'⟩
theorem LStep.below {B o : Nat} {l : Lg} {x y z : World} (h : LStep B o l x y) (k : Below y.heap.size y z) : LStep B o l x z := h.trans (.of h.at' k)
theorem LStep.drew {B o : Nat} {l : Lg} {x y : World} (h : LStep B o l x y) : LStep B o l x y.drew := ⟨h.past.drew, ⟨h.side.cells, h.side.frozen⟩, h.at'.drew⟩
theorem LStep.drewN {B o : Nat} {l : Lg} {x y : World} (h : LStep B o l x y) (q : Nat) : LStep B o l x (y.drewN q) := ⟨h.past.drewN q, ⟨h.side.cells, h.side.frozen⟩, h.at'.drewN q⟩
/-- a step of a ledger in a block that is new -/
theorem LStep.fresh {B o : Nat} {l : Lg} {w x y : World} (h : Below w.heap.size w x) (s : LStep B o l x y) (hB : w.heap.size ≤ B) : Below w.heap.size w y := h.trans (s.past.below h.size (by simpa using hB))
theorem LStep.setB {B o : Nat} {l : Lg} {x w : World} (h : LStep B o l x w) (n : Int) : LStep B o ⟨n, l.r⟩ x (w.setCell ⟨B, o, none⟩ (.int .i64 n)) :=
  ⟨h.past.store (p := ⟨B, o, none⟩) (.inl (by simp)) _, h.side.store o (by omega) (by omega) _, h.at'.setB n⟩
theorem LStep.setR {B o : Nat} {l : Lg} {x w : World} (h : LStep B o l x w) (n : Nat) : LStep B o ⟨l.b, n⟩ x (w.setCell ⟨B, o + 1, none⟩ (.float .f64 n)) :=
  ⟨h.past.store (p := ⟨B, o + 1, none⟩) (.inl (by simp)) _, h.side.store (o + 1) (by omega) (by omega) _, h.at'.setR n⟩

/-! ### contracts -/
theorem balance_any (B o : Nat) (l : Lg) (w : World) (h : LAt B o l w) : Calls Try.prog 16 #[.pointer (some ⟨B, o, none⟩)] w fun e w' => e = .returned (.int .i64 l.b) ∧ w' = w := by
  obtain ⟨h0, h1, hf⟩ := h
  go_enter Try.func16, Try.ntmps16
  go_wp2
  go_ret
  exact ⟨rfl, rfl⟩
theorem rest_any (B o : Nat) (l : Lg) (w : World) (h : LAt B o l w) : Calls Try.prog 17 #[.pointer (some ⟨B, o, none⟩)] w fun e w' => e = .returned (.float .f64 l.r) ∧ w' = w := by
  obtain ⟨h0, h1, hf⟩ := h
  go_enter Try.func17, Try.ntmps17
  go_wp2
  go_ret
  exact ⟨rfl, rfl⟩
theorem deposit_any (B o : Nat) (l : Lg) (hl : l.Ok) (n : Int) (w : World) (h : LAt B o l w) : Calls Try.prog 8 #[.pointer (some ⟨B, o, none⟩), .int .i64 n] w fun e w' => e = .returned (.int .i64 (dep l.b n)) ∧ LStep B o (l.dep n) w w' := by
  have hs := LStep.setB (LStep.of h (Below.refl _ w)) (l.b + dep l.b n)
  have b0 := hl.b0
  have b1 := hl.b1
  have hd := dep_at n b1
  have HX := Lib.hid (show dep l.b n = max 0 (min n (1099511627776 - l.b)) from rfl)
  have h0 := h.b
  have hf := h.fz o
  show Calls _ _ _ _ fun e w' => _ ∧ LStep B o ⟨l.b + dep l.b n, l.r⟩ w w'
  generalize l.b = x at *
  generalize dep x n = d at *
  clear h hl
  go_enter Try.func8, Try.ntmps8
  go_wp2
  all_goals
    go_ret
    have hx := HX.out
    first
      | (obtain rfl : d = 1099511627776 - x := by omega
         exact ⟨rfl, hs⟩)
      | (obtain rfl : d = n := by omega
         exact ⟨rfl, hs⟩)
      | (obtain rfl : d = 0 := by omega
         rw [Int.add_zero] at hs ⊢
         exact ⟨rfl, hs⟩)
theorem take_any (B o : Nat) (l : Lg) (hl : l.Ok) (n : Int) (w : World) (h : LAt B o l w) : Calls Try.prog 13 #[.pointer (some ⟨B, o, none⟩), .int .i64 n] w fun e w' => e = .returned (.int .i64 (takes l.b n)) ∧ LStep B o (l.take n) w w' := by
  have hs := LStep.setB (LStep.of h (Below.refl _ w)) (l.b - takes l.b n)
  have b0 := hl.b0
  have b1 := hl.b1
  have hd := takes_at n b0
  have HX := Lib.hid (show takes l.b n = max 0 (min n l.b) from rfl)
  have h0 := h.b
  have hf := h.fz o
  show Calls _ _ _ _ fun e w' => _ ∧ LStep B o ⟨l.b - takes l.b n, l.r⟩ w w'
  generalize l.b = x at *
  generalize takes x n = d at *
  clear h hl
  go_enter Try.func13, Try.ntmps13
  go_wp2
  all_goals
    go_ret
    have hx := HX.out
    first
      | (obtain rfl : d = x := by omega
         first | exact ⟨rfl, hs⟩ | (rw [Int.sub_self] at hs ⊢; exact ⟨rfl, hs⟩))
      | (obtain rfl : d = n := by omega
         exact ⟨rfl, hs⟩)
      | (obtain rfl : d = 0 := by omega
         rw [Int.sub_zero] at hs ⊢
         exact ⟨rfl, hs⟩)
theorem spend_any (B o : Nat) (l : Lg) (hl : l.Ok) (n : Int) (w : World) (h : LAt B o l w) : Calls Try.prog 12 #[.pointer (some ⟨B, o, none⟩), .int .i64 n] w fun e w' => e = .returned (.bool (decide (0 ≤ n ∧ n ≤ l.b))) ∧ LStep B o (l.spend n) w w' := by
  have hs := LStep.setB (LStep.of h (Below.refl _ w)) (l.b - n)
  have hs0 := LStep.of h (Below.refl _ w)
  have b0 := hl.b0
  have b1 := hl.b1
  have h0 := h.b
  have hf := h.fz o
  unfold Lg.spend
  by_cases hn : 0 ≤ n
  · by_cases hx : n ≤ l.b
    · rw [if_pos ⟨hn, hx⟩, decide_eq_true ⟨hn, hx⟩]
      have d1 : decide (n < 0) = false := decide_eq_false (by omega)
      have d2 : decide (l.b < n) = false := decide_eq_false (by omega)
      generalize l.b = x at *
      clear h hl
      go_enter Try.func12, Try.ntmps12
      go_wp2
      go_ret
      exact ⟨rfl, hs⟩
    · rw [if_neg (by omega), decide_eq_false (by omega)]
      have d1 : decide (n < 0) = false := decide_eq_false (by omega)
      have d2 : decide (l.b < n) = true := decide_eq_true (by omega)
      clear h hl hx hs
      go_enter Try.func12, Try.ntmps12
      go_wp2
      go_ret
      exact ⟨rfl, hs0⟩
  · rw [if_neg (by omega), decide_eq_false (by omega)]
    have d1 : decide (n < 0) = true := decide_eq_true (by omega)
    clear h hl hn hs
    go_enter Try.func12, Try.ntmps12
    go_wp2
    go_ret
    exact ⟨rfl, hs0⟩
theorem drop_any (B o : Nat) (l : Lg) (w : World) (h : LAt B o l w) : Calls Try.prog 15 #[.pointer (some ⟨B, o, none⟩)] w fun e w' => e = .returned (.int .i64 l.b) ∧ LStep B o Lg.zero w w' := by
  have hs : LStep B o ⟨0, 0⟩ w _ := LStep.setR (LStep.setB (LStep.of h (Below.refl _ w)) 0) 0
  obtain ⟨h0, h1, hf⟩ := h
  go_enter Try.func15, Try.ntmps15
  go_wp2
  go_ret
  exact ⟨rfl, hs⟩
theorem earn_any (B o : Nat) (l : Lg) (hl : l.Ok) (f : Nat) (hf6 : f < 18446744073709551616) (w : World) (h : LAt B o l w) : Calls Try.prog 10 #[.pointer (some ⟨B, o, none⟩), .float .f64 f] w fun e w' => e = .returned (.int .i64 (l.earnN f)) ∧ LStep B o (l.earn f) w w' := by
  have c1 := whole_any f hf6 w
  have c2 := deposit_any B o l hl (wn f) w h
  have hd := hl.dep (wn f)
  obtain ⟨ha, hs2⟩ := rest_add hl.r1 (wp_lt f)
  have f1 := fun (t : TypeId) (w : World) => run_float_arith (P := Try.prog) w .add t .f64 _ _ _ ha
  have g1 := ge_one (s := l.sum f) (by have := hs2; unfold w2 at this; unfold inf; exact Nat.lt_trans this (by decide))
  unfold Lg.earn Lg.earnN
  by_cases hge : w1 ≤ l.sum f
  · rw [if_pos hge, if_pos hge]
    rw [decide_eq_true hge] at g1
    obtain ⟨hb, hs3⟩ := rest_sub hge hs2
    have f2 := fun (t : TypeId) (w : World) => run_float_arith (P := Try.prog) w .sub t .f64 _ _ _ hb
    have c3 := fun w' (h' : LAt B o ⟨(l.dep (wn f)).b, fsub (l.sum f) w1⟩ w') => deposit_any B o ⟨(l.dep (wn f)).b, fsub (l.sum f) w1⟩ ⟨hd.b0, hd.b1, hs3⟩ 1 w' h'
    have k1 := (dep_at (wn f) hl.b1)
    have k2 := (dep_at 1 hd.b1)
    have k3 := hl.b0
    have k4 := hl.b1
    have k5 := hd.b0
    clear h hl hd ha hb hge hs2 hs3
    change Calls _ _ _ _ fun e w' => _ ∧ LStep B o (Lg.dep ⟨(l.dep (wn f)).b, fsub (l.sum f) w1⟩ 1) w w'
    unfold Lg.sum at *
    generalize wn f = n at *
    generalize wp f = p at *
    go_enter Try.func10, Try.ntmps10
    go_wp2_with (first
      | (go_at_call 18; refine c1.mono ?_; rintro e w' ⟨rfl, rfl⟩)
      | (go_at_call 8; (with_reducible refine c4.mono ?_); rintro e w5 ⟨rfl, s5⟩)
      | (go_at_call 8; (with_reducible refine c2.mono ?_); rintro e w2 ⟨rfl, s2⟩; have a2 := s2.at'; have y0 := a2.b; have y1 : w2.cell? ⟨B, o + 1, none⟩ = some (.float .f64 l.r) := a2.r; have y2 := a2.fz; have s3 := s2.setR (fadd l.r p); have s4 := s3.setR (fsub (fadd l.r p) w1); have c4 := c3 _ s4.at'))
    go_ret
    exact ⟨rfl, s4.trans s5⟩
  · rw [if_neg hge, if_neg hge]
    rw [decide_eq_false hge] at g1
    clear h hl hd ha hge hs2
    unfold Lg.sum at *
    generalize wn f = n at *
    generalize wp f = p at *
    go_enter Try.func10, Try.ntmps10
    go_wp2_with (first
      | (go_at_call 18; refine c1.mono ?_; rintro e w' ⟨rfl, rfl⟩)
      | (go_at_call 8; (with_reducible refine c2.mono ?_); rintro e w2 ⟨rfl, s2⟩; have a2 := s2.at'; have y0 := a2.b; have y1 : w2.cell? ⟨B, o + 1, none⟩ = some (.float .f64 l.r) := a2.r; have y2 := a2.fz; have s3 := s2.setR (fadd l.r p)))
    go_ret
    exact ⟨rfl, s3⟩
end Go.Proofs.Ytbldjegeaphocaa.credit
