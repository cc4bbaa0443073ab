/- trap: Raise, Need; amblernum.Err; the document's Of; what act does, number by number. -/
import Derived.Test.YtpjnilefbbjcgaaDoorNum
import Derived.WalkLawsBesides
import Derived.WalkArith
import Derived.Laws.PanicsMore
import Derived.Deep.DeepMakeLenPanics
namespace Go.Proofs.YtpjnilefbbjcgaaDoor.trap
open Go.RowKit errs
set_option linter.unusedVariables false

/-- the error of a number (0: none) -/
def errAt (a : String → Addr) : Nat → Value
  | 0 => .nilIface
  | k + 1 => errV (a (nm k))
/-- the chain of a panic by Raise, and of another one -/
abbrev thrown (v : Value) : List PanicEntry := [{ v := v, recovered := false }]
abbrev raisedV (x : Addr) : Value := .iface 41 (.agg #[errV x])
theorem raise_nil (w : World) : Calls Tryd.prog 23 #[.nilIface] w fun e w' => e = .returned (.tuple #[]) ∧ w = w' := by
  go_enter Tryd.func23, Tryd.ntmps23
  go_wp2
  go_end0
  exact ⟨rfl, rfl⟩
theorem raise_err (x : Addr) (w : World) : Calls Tryd.prog 23 #[errV x] w fun e w' => e = .panicked (thrown (raisedV x)) ∧ w = w' := by
  go_enter Tryd.func23, Tryd.ntmps23
  go_wp2
  exact ⟨rfl, rfl, rfl⟩
theorem need_yes (w : World) : Calls Tryd.prog 26 #[.bool true] w fun e w' => e = .returned (.tuple #[]) ∧ w = w' := by
  go_enter Tryd.func26, Tryd.ntmps26
  go_wp2
  go_end0
  exact ⟨rfl, rfl⟩
theorem need_no (a : String → Addr) (w : World) (h : ErrsOk names a w) : Calls Tryd.prog 26 #[.bool false] w fun e w' => e = .panicked (thrown (raisedV (a "ambler/api.ErrBroken"))) ∧ w = w' := by
  have c := h.at gErrBroken (nm_mem (i := 9) (by decide))
  go_enter Tryd.func26, Tryd.ntmps26
  go_wp2_with (go_at_call 23; refine (raise_err _ _).mono ?_; rintro e w' ⟨rfl, rfl⟩)
  exact ⟨rfl, rfl, rfl⟩
theorem err_none (n : Int) (hn : n < 1 ∨ 16 < n) (w : World) : Calls Tryd.prog 15 #[.int .i64 n] w fun e w' => e = .returned .nilIface ∧ w = w' := by
  go_enter Tryd.func15, Tryd.ntmps15
  rcases hn with h | h
  · have h1 : decide (n < 1) = true := decide_eq_true h
    go_wp2
    go_ret
    exact ⟨rfl, rfl⟩
  · have h1 : decide (n < 1) = false := decide_eq_false (by omega)
    have h2 : decide (16 < n) = true := decide_eq_true h
    go_wp2
    go_ret
    exact ⟨rfl, rfl⟩
theorem err_at (a : String → Addr) (k : Nat) (hk : k < 16) (w : World) (h : ErrsOk names a w) : Calls Tryd.prog 15 #[.int .i64 ((k + 1 : Nat) : Int)] w fun e w' => e = .returned (errV (a (nm k))) ∧ Below w.heap.size w w' := by
  have hall := all_any a w h
  have h1 : decide (((k + 1 : Nat) : Int) < 1) = false := decide_eq_false (by omega)
  have h2 : decide (16 < ((k + 1 : Nat) : Int)) = false := decide_eq_false (by omega)
  go_enter Tryd.func15, Tryd.ntmps15
  go_wp2_with (go_at_call 27; refine hall.mono ?_; rintro e w1 ⟨B, rfl, hb, hc⟩; have hck := hc k hk)
  go_ret
  exact ⟨rfl, hb⟩
theorem panic_bounds (w : World) : ∃ s, (boundsPanic .i64 1 1 .index : Sem Value).run Tryd.prog w = .halt (.panic (boundsValue Tryd.prog 1 1 s 0)) w.drew := by
  simp [boundsPanic, boundsValue, runtimePanic, goPanic, go_sem]
  decide
theorem panic_make (w : World) : (Instr.makeSlice 28 (.int .i64 (-1)) (.int .i64 (-1))).run Tryd.prog w = .halt (.panic (lenPanic Tryd.prog)) w := by
  obtain ⟨i, hi, -⟩ := Option.map_eq_some_iff.1 (show (Tryd.prog.info? 3).map (·.size) = some 1 by kernel_rfl)
  exact run_make_len_refused (e := 3) (i := i) (ht := Tryd.underlying28) (hi := hi) (kl := .i64) (kc := .i64) (n := -1) (hlo := by decide) (h63 := by decide) (hbad := .inl (by decide)) w
theorem panic_array (x : Addr) (w : World) : (Instr.arrayAt 44 (.slice (some x) 1 1)).run Tryd.prog w = .halt (.panic (boundsValue Tryd.prog 4 1 false BoundsCode.convert.toNat)) w := by
  simp [Instr.arrayAt, run_underlying Tryd.underlying44, boundsValue, runtimePanic, goPanic, go_sem]
theorem panic_map (n : Int) (w : World) : (Instr.mapUpdate 45 (.map none) (.int .i64 n) (.int .i64 1)).run Tryd.prog w = .halt (.panic (nilMapPanic Tryd.prog)) w := run_mapUpdate_nil _ _ _ Tryd.underlying45 _ _
theorem panic_type (n : Int) (w : World) : ∃ r o, (Instr.typeAssert (.iface 3 (.int .i64 n)) 20 9 false).run Tryd.prog w = .halt (.panic (.iface Tryd.prog.rt.typeAssertionError (.pointer (some r)))) (w.alloc o) := by
  have he : (elemOf 15).run Tryd.prog w = .ok 65 w := by kernel_rfl
  simp [Instr.typeAssert, run_underlying Tryd.underlying9, runtimePanic, goPanic, go_sem, he]
  exact ⟨_, rfl⟩

/-! ### act, number by number -/
/-- a function that came to the number b of the document: it came back; it raised the error b; it panicked in another way -/
def Ends (a : String → Addr) (b : Nat) (e : Ending) : Prop :=
  (b = 0 ∧ e = .returned (.tuple #[])) ∨ (∃ k, k < 16 ∧ b = k + 1 ∧ e = .panicked (thrown (raisedV (a (nm k))))) ∨ (b = 10 ∧ ∃ T v, T ≠ 41 ∧ e = .panicked (thrown (.iface T v)))
theorem Ends.back {a : String → Addr} : Ends a 0 (.returned (.tuple #[])) := .inl ⟨rfl, rfl⟩
theorem Ends.raised {a : String → Addr} (k : Nat) (h : k < 16) : Ends a (k + 1) (.panicked (thrown (raisedV (a (nm k))))) := .inr (.inl ⟨k, h, rfl, rfl⟩)
theorem Ends.other {a : String → Addr} (T : TypeId) (v : Value) (h : T ≠ 41) : Ends a 10 (.panicked (thrown (.iface T v))) := .inr (.inr ⟨rfl, T, v, h, rfl⟩)
theorem drew_below (w : World) : Below w.heap.size w w.drew := ⟨rfl, rfl, rfl, Nat.le_refl _, fun _ _ => rfl⟩
theorem rt_bounds : Tryd.prog.rt.boundsError = 8 := by kernel_rfl
theorem rt_plain : Tryd.prog.rt.plainError = 11 := by kernel_rfl
theorem rt_error : Tryd.prog.rt.errorString = 10 := by kernel_rfl
theorem rt_assert : Tryd.prog.rt.typeAssertionError = 15 := by kernel_rfl
/-- what act is given -/
structure ActIn (b : Nat) (w : World) : Prop where
  cell : w.cell? ⟨b, 0, none⟩ = some (.int .i64 1)
  frozen : w.frozen? ⟨b, 0, none⟩ = false
theorem act_0 (a : String → Addr) (n : Int) (b : Nat) (w : World) (h : ActIn b w) (hE : ErrsOk names a w) : Calls Tryd.prog 10 #[.int .i64 0, .int .i64 n, .slice (some ⟨b, 0, none⟩) 1 1] w fun e w' => Ends a 0 e ∧ Below w.heap.size w w' := by
  obtain ⟨hc, hf⟩ := h
  go_enter Tryd.func10, Tryd.ntmps10
  go_wp2
  go_end0
  exact ⟨.back, Below.refl _ _⟩
theorem act_1_none (a : String → Addr) (n : Int) (b : Nat) (w : World) (h : ActIn b w) (hE : ErrsOk names a w) (hn : n < 1 ∨ 16 < n) : Calls Tryd.prog 10 #[.int .i64 1, .int .i64 n, .slice (some ⟨b, 0, none⟩) 1 1] w fun e w' => Ends a 0 e ∧ Below w.heap.size w w' := by
  obtain ⟨hc, hf⟩ := h
  go_enter Tryd.func10, Tryd.ntmps10
  go_wp2_with (first
    | (go_at_call 15; refine (err_none n hn _).mono ?_; rintro e w' ⟨rfl, rfl⟩)
    | (go_at_call 23; refine (raise_nil _).mono ?_; rintro e w' ⟨rfl, rfl⟩))
  go_end0
  exact ⟨.back, Below.refl _ _⟩
theorem act_2 (a : String → Addr) (n : Int) (b : Nat) (w : World) (h : ActIn b w) (hE : ErrsOk names a w) : Calls Tryd.prog 10 #[.int .i64 2, .int .i64 n, .slice (some ⟨b, 0, none⟩) 1 1] w fun e w' => Ends a 0 e ∧ Below w.heap.size w w' := by
  obtain ⟨hc, hf⟩ := h
  go_enter Tryd.func10, Tryd.ntmps10
  go_wp2_with (go_at_call 26; refine (need_yes _).mono ?_; rintro e w' ⟨rfl, rfl⟩)
  go_end0
  exact ⟨.back, Below.refl _ _⟩
theorem act_3 (a : String → Addr) (n : Int) (b : Nat) (w : World) (h : ActIn b w) (hE : ErrsOk names a w) : Calls Tryd.prog 10 #[.int .i64 3, .int .i64 n, .slice (some ⟨b, 0, none⟩) 1 1] w fun e w' => Ends a 10 e ∧ Below w.heap.size w w' := by
  obtain ⟨hc, hf⟩ := h
  go_enter Tryd.func10, Tryd.ntmps10
  go_wp2_with (go_at_call 26; refine (need_no a _ hE).mono ?_; rintro e w' ⟨rfl, rfl⟩)
  exact ⟨rfl, .raised 9 (by decide), Below.refl _ _⟩
theorem act_4 (a : String → Addr) (n : Int) (b : Nat) (w : World) (h : ActIn b w) (hE : ErrsOk names a w) : Calls Tryd.prog 10 #[.int .i64 4, .int .i64 n, .slice (some ⟨b, 0, none⟩) 1 1] w fun e w' => Ends a 10 e ∧ Below w.heap.size w w' := by
  obtain ⟨hc, hf⟩ := h
  obtain ⟨s, hp⟩ := panic_bounds w
  unfold boundsValue at hp
  rw [rt_bounds] at hp
  go_enter Tryd.func10, Tryd.ntmps10
  go_wp2
  exact ⟨rfl, .other _ _ (by decide), drew_below _⟩
theorem act_5 (a : String → Addr) (n : Int) (b : Nat) (w : World) (h : ActIn b w) (hE : ErrsOk names a w) : Calls Tryd.prog 10 #[.int .i64 5, .int .i64 n, .slice (some ⟨b, 0, none⟩) 1 1] w fun e w' => Ends a 10 e ∧ Below w.heap.size w w' := by
  obtain ⟨hc, hf⟩ := h
  go_enter Tryd.func10, Tryd.ntmps10
  go_wp2
  exact ⟨rfl, .other _ _ (by decide), Below.refl _ _⟩
theorem act_6 (a : String → Addr) (n : Int) (b : Nat) (w : World) (h : ActIn b w) (hE : ErrsOk names a w) : Calls Tryd.prog 10 #[.int .i64 6, .int .i64 n, .slice (some ⟨b, 0, none⟩) 1 1] w fun e w' => Ends a 10 e ∧ Below w.heap.size w w' := by
  obtain ⟨hc, hf⟩ := h
  have hp := panic_make w
  unfold lenPanic at hp
  rw [rt_error] at hp
  go_enter Tryd.func10, Tryd.ntmps10
  go_wp2
  exact ⟨rfl, .other _ _ (by decide), Below.refl _ _⟩
theorem act_7 (a : String → Addr) (n : Int) (b : Nat) (w : World) (h : ActIn b w) (hE : ErrsOk names a w) : Calls Tryd.prog 10 #[.int .i64 7, .int .i64 n, .slice (some ⟨b, 0, none⟩) 1 1] w fun e w' => Ends a 10 e ∧ Below w.heap.size w w' := by
  obtain ⟨hc, hf⟩ := h
  have hp := panic_array ⟨b, 0, none⟩ w
  unfold boundsValue at hp
  rw [rt_bounds] at hp
  go_enter Tryd.func10, Tryd.ntmps10
  go_wp2
  exact ⟨rfl, .other _ _ (by decide), Below.refl _ _⟩
theorem act_8 (a : String → Addr) (n : Int) (b : Nat) (w : World) (h : ActIn b w) (hE : ErrsOk names a w) : Calls Tryd.prog 10 #[.int .i64 8, .int .i64 n, .slice (some ⟨b, 0, none⟩) 1 1] w fun e w' => Ends a 10 e ∧ Below w.heap.size w w' := by
  obtain ⟨hc, hf⟩ := h
  have hp := panic_map n w
  unfold nilMapPanic at hp
  rw [rt_plain] at hp
  go_enter Tryd.func10, Tryd.ntmps10
  go_wp2
  exact ⟨rfl, .other _ _ (by decide), Below.refl _ _⟩
theorem act_9 (a : String → Addr) (n : Int) (b : Nat) (w : World) (h : ActIn b w) (hE : ErrsOk names a w) : Calls Tryd.prog 10 #[.int .i64 9, .int .i64 n, .slice (some ⟨b, 0, none⟩) 1 1] w fun e w' => Ends a 10 e ∧ Below w.heap.size w w' := by
  obtain ⟨hc, hf⟩ := h
  obtain ⟨r, o, hp⟩ := panic_type n w
  rw [rt_assert] at hp
  go_enter Tryd.func10, Tryd.ntmps10
  go_wp2
  exact ⟨rfl, .other _ _ (by decide), (Below.refl _ _).alloc (Nat.le_refl _) _⟩
theorem act_10 (a : String → Addr) (n : Int) (b : Nat) (w : World) (h : ActIn b w) (hE : ErrsOk names a w) : Calls Tryd.prog 10 #[.int .i64 10, .int .i64 n, .slice (some ⟨b, 0, none⟩) 1 1] w fun e w' => Ends a 10 e ∧ Below w.heap.size w w' := by
  obtain ⟨hc, hf⟩ := h
  go_enter Tryd.func10, Tryd.ntmps10
  go_wp2
  exact ⟨rfl, .other _ _ (by decide), Below.refl _ _⟩
theorem act_1_at (a : String → Addr) (k : Nat) (hk : k < 16) (b : Nat) (w : World) (h : ActIn b w) (hE : ErrsOk names a w) : Calls Tryd.prog 10 #[.int .i64 1, .int .i64 ((k + 1 : Nat) : Int), .slice (some ⟨b, 0, none⟩) 1 1] w fun e w' => Ends a (k + 1) e ∧ Below w.heap.size w w' := by
  have c1 := err_at a k hk w hE
  generalize ((k + 1 : Nat) : Int) = n at c1
  go_enter Tryd.func10, Tryd.ntmps10
  go_wp2_with (first
    | (go_at_call 15; refine c1.mono ?_; rintro e w' ⟨rfl, hb⟩)
    | (go_at_call 23; refine (raise_err _ _).mono ?_; rintro e w' ⟨rfl, rfl⟩))
  exact ⟨rfl, .raised k hk, hb⟩
/-- the document's number of what act does -/
def actN (k : Nat) (n : Int) : Nat := if k = 0 ∨ k = 2 then 0 else if k = 1 then (if n < 1 ∨ 16 < n then 0 else n.toNat) else 10
theorem act_any (a : String → Addr) (k : Nat) (hk : k < 11) (n : Int) (b : Nat) (w : World) (h : ActIn b w) (hE : ErrsOk names a w) : Calls Tryd.prog 10 #[.int .i64 (k : Nat), .int .i64 n, .slice (some ⟨b, 0, none⟩) 1 1] w fun e w' => Ends a (actN k n) e ∧ Below w.heap.size w w' := by
  obtain rfl | rfl | rfl | rfl | rfl | rfl | rfl | rfl | rfl | rfl | rfl : k = 0 ∨ k = 1 ∨ k = 2 ∨ k = 3 ∨ k = 4 ∨ k = 5 ∨ k = 6 ∨ k = 7 ∨ k = 8 ∨ k = 9 ∨ k = 10 := by omega
  · exact act_0 a n b w h hE
  · by_cases hn : n < 1 ∨ 16 < n
    · have e : actN 1 n = 0 := by simp [actN, hn]
      rw [e]; exact act_1_none a n b w h hE hn
    · obtain ⟨j, hj, rfl⟩ : ∃ j : Nat, j < 16 ∧ n = ((j + 1 : Nat) : Int) := ⟨(n - 1).toNat, by omega, by omega⟩
      have e : actN 1 ((j + 1 : Nat) : Int) = j + 1 := by unfold actN; rw [if_neg (by decide), if_pos rfl, if_neg hn]; omega
      rw [e]; exact act_1_at a j hj b w h hE
  · exact act_2 a n b w h hE
  · exact act_3 a n b w h hE
  · exact act_4 a n b w h hE
  · exact act_5 a n b w h hE
  · exact act_6 a n b w h hE
  · exact act_7 a n b w h hE
  · exact act_8 a n b w h hE
  · exact act_9 a n b w h hE
  · exact act_10 a n b w h hE
end Go.Proofs.YtpjnilefbbjcgaaDoor.trap
