/- trap: Must, the document's Of, kinds, Num of what was caught; the functions that the laws make. -/
import Derived.Test.YtpjnilefbbjcgaaDoorTrapCatch
namespace Go.Proofs.YtpjnilefbbjcgaaDoor.trap
open Go.RowKit errs under
set_option linter.unusedSimpArgs false
set_option linter.unusedVariables false

/-! ### Num of what was caught -/
theorem num_err (a : String → Addr) (b : Nat) (hb : b ≤ 16) (w : World) (h : ErrsOk names a w) :
    Calls Tryd.prog 11 #[errAt a b] w fun e w' => e = .returned (.int .i64 (b : Nat)) ∧ Below w.heap.size w w' := by
  cases b with
  | zero => exact (num_nil w).mono fun e w' ⟨he, hw⟩ => ⟨he, by subst hw; exact Below.refl _ _⟩
  | succ k => exact num_at a k (by omega) w h
theorem actN_le (k : Nat) (n : Int) : actN k n ≤ 16 := by
  unfold actN
  split
  · omega
  · split
    · split <;> omega
    · omega
/-! ### the number of what is done -/
def kindN (x : Int) : Nat := (x % 18446744073709551616).toNat % 11
theorem kindN_lt (x : Int) : kindN x < 11 := Nat.mod_lt _ (by decide)
theorem kinds_any (x : Int) (w : World) :
    Calls Tryd.prog 7 #[.int .i64 x] w fun e w' => e = .returned (.int .i64 (kindN x : Nat)) ∧ w = w' := by
  go_enter Tryd.func7, Tryd.ntmps7
  go_wp2
  go_ret
  refine ⟨congrArg Ending.returned (congrArg (Value.int .i64) ?_), rfl⟩
  rw [IntKind.wrap_u64]
  unfold kindN wrap64
  have h0 : 0 ≤ x % 18446744073709551616 := Int.emod_nonneg _ (by decide)
  rw [Int.tmod_eq_emod_of_nonneg h0]
  omega
theorem of_any (k : Nat) (hk : k < 11) (n : Int) (w : World) :
    Calls Tryd.prog 12 #[.int .i64 (k : Nat), .int .i64 n] w fun e w' => e = .returned (.int .i64 (actN k n : Nat)) ∧ w = w' := by
  go_enter Tryd.func12, Tryd.ntmps12
  by_cases h0 : k = 0
  · subst h0
    go_wp2
    go_ret
    exact ⟨rfl, rfl⟩
  by_cases h2 : k = 2
  · subst h2
    go_wp2
    go_ret
    exact ⟨rfl, rfl⟩
  have d0 : ((k : Int) == 0) = false := by simp; omega
  have d2 : ((k : Int) == 2) = false := by simp; omega
  by_cases h1 : k = 1
  · subst h1
    by_cases hn : n < 1
    · have e1 : decide (n < 1) = true := decide_eq_true hn
      have e : actN 1 n = 0 := by simp [actN, hn]
      rw [e]
      go_wp2
      go_ret
      exact ⟨rfl, rfl⟩
    · have e1 : decide (n < 1) = false := decide_eq_false hn
      by_cases hm : 16 < n
      · have e2 : decide (16 < n) = true := decide_eq_true hm
        have e : actN 1 n = 0 := by simp [actN, hm]
        rw [e]
        go_wp2
        go_ret
        exact ⟨rfl, rfl⟩
      · have e2 : decide (16 < n) = false := decide_eq_false hm
        have e : ((actN 1 n : Nat) : Int) = n := by unfold actN; rw [if_neg (by decide), if_pos rfl, if_neg (by omega)]; omega
        rw [e]
        go_wp2
        go_ret
        exact ⟨rfl, rfl⟩
  · have d1 : ((k : Int) == 1) = false := by simp; omega
    have e : actN k n = 10 := by unfold actN; rw [if_neg (by omega), if_neg h1]
    rw [e]
    go_wp2
    go_ret
    exact ⟨rfl, rfl⟩
/-! ### Must -/
theorem must_nil (v : Int) (w : World) : Calls Tryd.prog 17 #[.int .i64 v, .nilIface] w fun e w' => e = .returned (.int .i64 v) ∧ w = w' := by
  go_enter Tryd.func17, Tryd.ntmps17
  go_wp2_with (go_at_call 23; refine (raise_nil _).mono ?_; rintro e w' ⟨rfl, rfl⟩)
  go_ret
  exact ⟨rfl, rfl⟩
theorem must_err (v : Int) (x : Addr) (w : World) : Calls Tryd.prog 17 #[.int .i64 v, errV x] w fun e w' => e = .panicked (thrown (raisedV x)) ∧ w = w' := by
  go_enter Tryd.func17, Tryd.ntmps17
  go_wp2_with (go_at_call 23; refine (raise_err _ _).mono ?_; rintro e w' ⟨rfl, rfl⟩)
  exact ⟨rfl, rfl, rfl⟩
/-! ### what the laws hand to Catch -/
/-- a captured variable of an integer -/
structure Var (b : Nat) (v : Value) (w : World) : Prop where
  cell : w.cell? ⟨b, 0, none⟩ = some v
  frozen : w.frozen? ⟨b, 0, none⟩ = false
theorem Var.past {b : Nat} {v : Value} {w w' : World} {d : List Nat} (h : Var b v w) (hp : Past d w w') (hd : b ∉ d) : Var b v w' :=
  ⟨hp.cell h.cell hd, (hp.frozen (World.block_lt_of_cell? w _ h.cell) hd).trans h.frozen⟩
theorem Var.lt {b : Nat} {v : Value} {w : World} (h : Var b v w) : b < w.heap.size := World.block_lt_of_cell? w _ h.cell
theorem act_in (w : World) : ActIn w.heap.size (w.alloc (.cells #[.int .i64 1] 3)) := ⟨by simp, by simp [go_sem]⟩
theorem alive_1 (a : String → Addr) (w : World) (h : ErrsOk names a w) : Calls Tryd.prog 22 #[] w fun e w' => Ends a 11 e ∧ Below w.heap.size w w' := by
  have c1 := err_at a 10 (by decide) w h
  go_enter Tryd.func22, Tryd.ntmps22
  go_wp2_with (first
    | (go_at_call 15; refine c1.mono ?_; rintro e w' ⟨rfl, hb⟩)
    | (go_at_call 23; refine (raise_err _ _).mono ?_; rintro e w' ⟨rfl, rfl⟩))
  exact ⟨rfl, .raised 10 (by decide), hb⟩
theorem alive_2 (a : String → Addr) (b : Nat) (w : World) (hv : Var b (.int .i64 0) w) : Calls Tryd.prog 24 #[.pointer (some ⟨b, 0, none⟩)] w fun e w' => Ends a 10 e ∧ Below w.heap.size w w' := by
  obtain ⟨h1, h2⟩ := hv
  go_enter Tryd.func24, Tryd.ntmps24
  go_wp2
  exact ⟨rfl, .other _ _ (by decide), Below.refl _ _⟩
theorem Var.of_block {b : Nat} {v : Value} {w w' : World} (h : Var b v w) (he : w'.heap[b]? = w.heap[b]?) : Var b v w' :=
  ⟨(World.cell?_of_block (w := w) he).trans h.cell, (World.frozen?_of_block (w := w) he).trans h.frozen⟩
theorem Var.below {b : Nat} {v : Value} {w w' : World} (h : Var b v w) (hb : Below w.heap.size w w') : Var b v w' := h.of_block (hb.block b h.lt)
theorem Var.alloc {b : Nat} {v : Value} {w : World} (h : Var b v w) (o : Obj) : Var b v (w.alloc o) := h.below ((Below.refl _ w).alloc (Nat.le_refl _) o)
theorem Var.new (w : World) (v : Value) (t : TypeId) : Var w.heap.size v (w.alloc (.cells #[v] t)) := ⟨by simp, by simp [go_sem]⟩
theorem Var.set {b : Nat} {v : Value} {w : World} (h : Var b v w) (u : Value) : Var b u (w.setCell ⟨b, 0, none⟩ u) := ⟨by simp [go_sem, h.cell], by simp [go_sem, h.frozen]⟩
theorem Var.store {b c : Nat} {v u : Value} {w : World} (h : Var b v w) (hc : b ≠ c) : Var b v (w.setCell ⟨c, 0, none⟩ u) := h.of_block (Below.heap_setCell _ _ _ _ hc)
theorem below_new {w w' : World} {o : Obj} (h : Below (w.alloc o).heap.size (w.alloc o) w') : Below w.heap.size w w' := below_step ((Below.refl _ w).alloc (Nat.le_refl _) o) h
theorem nests_11 (a : String → Addr) (bk bn k : Nat) (hk : k < 11) (n : Int) (w : World) (h : ErrsOk names a w) (h1 : Var bk (.int .i64 (k : Nat)) w) (h2 : Var bn (.int .i64 n) w) :
    Calls Tryd.prog 19 #[.pointer (some ⟨bk, 0, none⟩), .pointer (some ⟨bn, 0, none⟩)] w fun e w' => Ends a (actN k n) e ∧ Below w.heap.size w w' := by
  have c1 := h1.cell
  have c2 := h2.cell
  have hA := act_any a k hk n w.heap.size (w.alloc (.cells #[.int .i64 1] 3)) (act_in w) (h.below ((Below.refl _ w).alloc (Nat.le_refl _) _))
  generalize actN k n = N at hA ⊢
  go_enter Tryd.func19, Tryd.ntmps19
  go_wp2_with (go_at_call 10; refine hA.mono ?_; rintro e w' ⟨he, hb⟩; rcases he with ⟨rfl, rfl⟩ | ⟨j, hj, rfl, rfl⟩ | ⟨rfl, T, u, hT, rfl⟩)
  · go_end0
    exact ⟨.back, below_new hb⟩
  · exact ⟨rfl, .raised _ (by assumption), below_new hb⟩
  · exact ⟨rfl, .other _ _ (by assumption), below_new hb⟩
theorem nests_2 (a : String → Addr) (bk bn k : Nat) (hk : k < 11) (n : Int) (w : World) (h : ErrsOk names a w) (h1 : Var bk (.int .i64 (k : Nat)) w) (h2 : Var bn (.int .i64 n) w) :
    Calls Tryd.prog 20 #[.pointer (some ⟨bk, 0, none⟩), .pointer (some ⟨bn, 0, none⟩)] w fun e w' => Ends a (actN k n) e ∧ Below w.heap.size w w' := by
  have c1 := h1.cell
  have c2 := h2.cell
  have hA := act_any a k hk n w.heap.size (w.alloc (.cells #[.int .i64 1] 3)) (act_in w) (h.below ((Below.refl _ w).alloc (Nat.le_refl _) _))
  generalize actN k n = N at hA ⊢
  go_enter Tryd.func20, Tryd.ntmps20
  go_wp2_with (go_at_call 10; refine hA.mono ?_; rintro e w' ⟨he, hb⟩; rcases he with ⟨rfl, rfl⟩ | ⟨j, hj, rfl, rfl⟩ | ⟨rfl, T, u, hT, rfl⟩)
  · go_end0
    exact ⟨.back, below_new hb⟩
  · exact ⟨rfl, .raised _ (by assumption), below_new hb⟩
  · exact ⟨rfl, .other _ _ (by assumption), below_new hb⟩
theorem nests_3 (a : String → Addr) (bk bn k : Nat) (hk : k < 11) (n : Int) (w : World) (h : ErrsOk names a w) (h1 : Var bk (.int .i64 (k : Nat)) w) (h2 : Var bn (.int .i64 n) w) :
    Calls Tryd.prog 21 #[.pointer (some ⟨bk, 0, none⟩), .pointer (some ⟨bn, 0, none⟩)] w fun e w' => Ends a (actN k n) e ∧ Below w.heap.size w w' := by
  have c1 := h1.cell
  have c2 := h2.cell
  have hA := act_any a k hk n w.heap.size (w.alloc (.cells #[.int .i64 1] 3)) (act_in w) (h.below ((Below.refl _ w).alloc (Nat.le_refl _) _))
  generalize actN k n = N at hA ⊢
  go_enter Tryd.func21, Tryd.ntmps21
  go_wp2_with (go_at_call 10; refine hA.mono ?_; rintro e w' ⟨he, hb⟩; rcases he with ⟨rfl, rfl⟩ | ⟨j, hj, rfl, rfl⟩ | ⟨rfl, T, u, hT, rfl⟩)
  · go_end0
    exact ⟨.back, below_new hb⟩
  · exact ⟨rfl, .raised _ (by assumption), below_new hb⟩
  · exact ⟨rfl, .other _ _ (by assumption), below_new hb⟩
theorem catches_1 (a : String → Addr) (bd bk bn k : Nat) (hk : k < 11) (n : Int) (w : World) (B : Nat) (h : ErrsOk names a w) (hd : Var bd (.int .i64 0) w) (h1 : Var bk (.int .i64 (k : Nat)) w) (h2 : Var bn (.int .i64 n) w) (n1 : bd ≠ bk) (n2 : bd ≠ bn)
    (hE : ∀ wx, Past [bd] w wx → ErrsOk names a wx) :
    Calls Tryd.prog 9 #[.pointer (some ⟨bd, 0, none⟩), .pointer (some ⟨bk, 0, none⟩), .pointer (some ⟨bn, 0, none⟩)] w fun e w' => Ends a (actN k n) e ∧ Past [bd] w w' ∧ Var bd (.int .i64 7) w' := by
  have hp1 : Past [bd] w (w.setCell ⟨bd, 0, none⟩ (.int .i64 7)) := (Past.refl _ w).store (.inl (by simp)) _
  have g1 := (h1.past hp1 (by simpa using n1.symm)).cell
  have g2 := (h2.past hp1 (by simpa using n2.symm)).cell
  have gd := hd.set (.int .i64 7)
  have c0 := hd.cell
  have f0 := hd.frozen
  have hE1 := hE _ hp1
  have hz : (w.setCell ⟨bd, 0, none⟩ (.int .i64 7)).heap.size = w.heap.size := by simp [World.setCell]
  have hA := act_any a k hk n _ _ (act_in (w.setCell ⟨bd, 0, none⟩ (.int .i64 7))) (hE1.below ((Below.refl _ _).alloc (Nat.le_refl _) _))
  rw [hz] at hA
  generalize actN k n = N at hA ⊢
  have HA := Lib.hid hA
  clear hA
  go_enter Tryd.func9, Tryd.ntmps9
  go_wp2_with (go_at_call 10; refine HA.out.mono ?_; rintro e w' ⟨he, hb⟩; have hb2 := below_new hb; have hp2 := hp1.trans (Past.of hb2); have gd2 := gd.below hb2; rcases he with ⟨rfl, rfl⟩ | ⟨j, hj, rfl, rfl⟩ | ⟨rfl, T, u, hT, rfl⟩)
  · go_end0
    exact ⟨.back, hp2, gd2⟩
  · exact ⟨rfl, .raised _ (by assumption), hp2, gd2⟩
  · exact ⟨rfl, .other _ _ (by assumption), hp2, gd2⟩
end Go.Proofs.YtpjnilefbbjcgaaDoor.trap
