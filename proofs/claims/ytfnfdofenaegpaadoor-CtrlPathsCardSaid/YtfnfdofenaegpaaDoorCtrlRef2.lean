/- The document's Set and Text for layer 2 (amblerref02). -/
import Derived.Test.YtfnfdofenaegpaaDoorCtrlRef
namespace Go.Proofs.YtfnfdofenaegpaaDoor.ctrl
open Go.ChangeShapes Go.WideShapes Go.ChangeAt Go.RowKit swar
theorem rset_range (n b : Nat) (i : Int) (h : i < 0 ∨ 8 ≤ i) (w : World) :
    Calls Tryd.prog 24 #[.int .u64 n, .int .i64 i, .int .u8 b] w fun e w' => e = .returned (.tuple #[.int .u64 0, .int .i64 1]) ∧ w = w' := by
  rcases h with h | h
  · go_enter Tryd.func24, Tryd.ntmps24
    go_wp2
    all_goals (go_ret2; exact ⟨rfl, rfl⟩)
  · have h1 : ¬ i < 0 := by omega
    have h2 : 7 < i := by omega
    go_enter Tryd.func24, Tryd.ntmps24
    go_wp2
    all_goals (go_ret2; exact ⟨rfl, rfl⟩)
theorem rset_form (n b k : Nat) (hk : k < 8) (hb : okB b = false) (w : World) :
    Calls Tryd.prog 24 #[.int .u64 n, .int .i64 k, .int .u8 b] w fun e w' => e = .returned (.tuple #[.int .u64 0, .int .i64 3]) ∧ w = w' := by
  have c := fun wx => kind_any b wx
  rw [(kind_0 b).2 hb] at c
  have h1 : ¬ (k : Int) < 0 := by omega
  have h2 : ¬ 7 < (k : Int) := by omega
  go_enter Tryd.func24, Tryd.ntmps24
  go_wp2_with (go_at_call 31; refine (c _).mono ?_; rintro e w' ⟨rfl, rfl⟩)
  all_goals (go_ret2; exact ⟨rfl, rfl⟩)
set_option maxRecDepth 20000 in
theorem rset_0 (n b : Nat) (hn : n < 18446744073709551616) (hb8 : b < 256) (hb : okB b = true) (w : World) :
    Calls Tryd.prog 24 #[.int .u64 n, .int .i64 0, .int .u8 b] w fun e w' => e = .returned (.tuple #[.int .u64 (withL n 0 b : Nat), .int .i64 0]) ∧ Below w.heap.size w w' := by
  have z : (((kindN b : Nat) : Int) == 0) = false := by
    have h2 := kind_0 b
    rw [hb] at h2
    simp at h2 ⊢; omega
  have hw := fun wx => word_at (withL n 0 b) b (ln n 1) (ln n 2) (ln n 3) (ln n 4) (ln n 5) (ln n 6) (ln n 7) (by rfl) hb8 (ln_lt _ _) (ln_lt _ _) (ln_lt _ _) (ln_lt _ _) (ln_lt _ _) (ln_lt _ _) (ln_lt _ _) wx
  go_enter Tryd.func24, Tryd.ntmps24
  go_wp2_with (first
    | (go_at_call 31; refine (kind_any _ _).mono ?_; rintro e w' ⟨rfl, rfl⟩)
    | (go_at_call 10; refine (ref_lanes_at n hn _).mono ?_; rintro e w' ⟨rfl, rfl⟩)
    | (go_at_call 28; refine (hw _).mono ?_; rintro e w' ⟨rfl, hb2⟩))
  go_ret2
  refine ⟨rfl, ?_⟩
  refine below_step ?_ hb2
  repeat (first | exact Below.refl _ _ | refine Below.alloc ?_ (by simp; try omega) _)
set_option maxRecDepth 20000 in
theorem rset_1 (n b : Nat) (hn : n < 18446744073709551616) (hb8 : b < 256) (hb : okB b = true) (w : World) :
    Calls Tryd.prog 24 #[.int .u64 n, .int .i64 1, .int .u8 b] w fun e w' => e = .returned (.tuple #[.int .u64 (withL n 1 b : Nat), .int .i64 0]) ∧ Below w.heap.size w w' := by
  have z : (((kindN b : Nat) : Int) == 0) = false := by
    have h2 := kind_0 b
    rw [hb] at h2
    simp at h2 ⊢; omega
  have hw := fun wx => word_at (withL n 1 b) (ln n 0) b (ln n 2) (ln n 3) (ln n 4) (ln n 5) (ln n 6) (ln n 7) (by rfl) (ln_lt _ _) hb8 (ln_lt _ _) (ln_lt _ _) (ln_lt _ _) (ln_lt _ _) (ln_lt _ _) (ln_lt _ _) wx
  go_enter Tryd.func24, Tryd.ntmps24
  go_wp2_with (first
    | (go_at_call 31; refine (kind_any _ _).mono ?_; rintro e w' ⟨rfl, rfl⟩)
    | (go_at_call 10; refine (ref_lanes_at n hn _).mono ?_; rintro e w' ⟨rfl, rfl⟩)
    | (go_at_call 28; refine (hw _).mono ?_; rintro e w' ⟨rfl, hb2⟩))
  go_ret2
  refine ⟨rfl, ?_⟩
  refine below_step ?_ hb2
  repeat (first | exact Below.refl _ _ | refine Below.alloc ?_ (by simp; try omega) _)
set_option maxRecDepth 20000 in
theorem rset_2 (n b : Nat) (hn : n < 18446744073709551616) (hb8 : b < 256) (hb : okB b = true) (w : World) :
    Calls Tryd.prog 24 #[.int .u64 n, .int .i64 2, .int .u8 b] w fun e w' => e = .returned (.tuple #[.int .u64 (withL n 2 b : Nat), .int .i64 0]) ∧ Below w.heap.size w w' := by
  have z : (((kindN b : Nat) : Int) == 0) = false := by
    have h2 := kind_0 b
    rw [hb] at h2
    simp at h2 ⊢; omega
  have hw := fun wx => word_at (withL n 2 b) (ln n 0) (ln n 1) b (ln n 3) (ln n 4) (ln n 5) (ln n 6) (ln n 7) (by rfl) (ln_lt _ _) (ln_lt _ _) hb8 (ln_lt _ _) (ln_lt _ _) (ln_lt _ _) (ln_lt _ _) (ln_lt _ _) wx
  go_enter Tryd.func24, Tryd.ntmps24
  go_wp2_with (first
    | (go_at_call 31; refine (kind_any _ _).mono ?_; rintro e w' ⟨rfl, rfl⟩)
    | (go_at_call 10; refine (ref_lanes_at n hn _).mono ?_; rintro e w' ⟨rfl, rfl⟩)
    | (go_at_call 28; refine (hw _).mono ?_; rintro e w' ⟨rfl, hb2⟩))
  go_ret2
  refine ⟨rfl, ?_⟩
  refine below_step ?_ hb2
  repeat (first | exact Below.refl _ _ | refine Below.alloc ?_ (by simp; try omega) _)
set_option maxRecDepth 20000 in
theorem rset_3 (n b : Nat) (hn : n < 18446744073709551616) (hb8 : b < 256) (hb : okB b = true) (w : World) :
    Calls Tryd.prog 24 #[.int .u64 n, .int .i64 3, .int .u8 b] w fun e w' => e = .returned (.tuple #[.int .u64 (withL n 3 b : Nat), .int .i64 0]) ∧ Below w.heap.size w w' := by
  have z : (((kindN b : Nat) : Int) == 0) = false := by
    have h2 := kind_0 b
    rw [hb] at h2
    simp at h2 ⊢; omega
  have hw := fun wx => word_at (withL n 3 b) (ln n 0) (ln n 1) (ln n 2) b (ln n 4) (ln n 5) (ln n 6) (ln n 7) (by rfl) (ln_lt _ _) (ln_lt _ _) (ln_lt _ _) hb8 (ln_lt _ _) (ln_lt _ _) (ln_lt _ _) (ln_lt _ _) wx
  go_enter Tryd.func24, Tryd.ntmps24
  go_wp2_with (first
    | (go_at_call 31; refine (kind_any _ _).mono ?_; rintro e w' ⟨rfl, rfl⟩)
    | (go_at_call 10; refine (ref_lanes_at n hn _).mono ?_; rintro e w' ⟨rfl, rfl⟩)
    | (go_at_call 28; refine (hw _).mono ?_; rintro e w' ⟨rfl, hb2⟩))
  go_ret2
  refine ⟨rfl, ?_⟩
  refine below_step ?_ hb2
  repeat (first | exact Below.refl _ _ | refine Below.alloc ?_ (by simp; try omega) _)
set_option maxRecDepth 20000 in
theorem rset_4 (n b : Nat) (hn : n < 18446744073709551616) (hb8 : b < 256) (hb : okB b = true) (w : World) :
    Calls Tryd.prog 24 #[.int .u64 n, .int .i64 4, .int .u8 b] w fun e w' => e = .returned (.tuple #[.int .u64 (withL n 4 b : Nat), .int .i64 0]) ∧ Below w.heap.size w w' := by
  have z : (((kindN b : Nat) : Int) == 0) = false := by
    have h2 := kind_0 b
    rw [hb] at h2
    simp at h2 ⊢; omega
  have hw := fun wx => word_at (withL n 4 b) (ln n 0) (ln n 1) (ln n 2) (ln n 3) b (ln n 5) (ln n 6) (ln n 7) (by rfl) (ln_lt _ _) (ln_lt _ _) (ln_lt _ _) (ln_lt _ _) hb8 (ln_lt _ _) (ln_lt _ _) (ln_lt _ _) wx
  go_enter Tryd.func24, Tryd.ntmps24
  go_wp2_with (first
    | (go_at_call 31; refine (kind_any _ _).mono ?_; rintro e w' ⟨rfl, rfl⟩)
    | (go_at_call 10; refine (ref_lanes_at n hn _).mono ?_; rintro e w' ⟨rfl, rfl⟩)
    | (go_at_call 28; refine (hw _).mono ?_; rintro e w' ⟨rfl, hb2⟩))
  go_ret2
  refine ⟨rfl, ?_⟩
  refine below_step ?_ hb2
  repeat (first | exact Below.refl _ _ | refine Below.alloc ?_ (by simp; try omega) _)
set_option maxRecDepth 20000 in
theorem rset_5 (n b : Nat) (hn : n < 18446744073709551616) (hb8 : b < 256) (hb : okB b = true) (w : World) :
    Calls Tryd.prog 24 #[.int .u64 n, .int .i64 5, .int .u8 b] w fun e w' => e = .returned (.tuple #[.int .u64 (withL n 5 b : Nat), .int .i64 0]) ∧ Below w.heap.size w w' := by
  have z : (((kindN b : Nat) : Int) == 0) = false := by
    have h2 := kind_0 b
    rw [hb] at h2
    simp at h2 ⊢; omega
  have hw := fun wx => word_at (withL n 5 b) (ln n 0) (ln n 1) (ln n 2) (ln n 3) (ln n 4) b (ln n 6) (ln n 7) (by rfl) (ln_lt _ _) (ln_lt _ _) (ln_lt _ _) (ln_lt _ _) (ln_lt _ _) hb8 (ln_lt _ _) (ln_lt _ _) wx
  go_enter Tryd.func24, Tryd.ntmps24
  go_wp2_with (first
    | (go_at_call 31; refine (kind_any _ _).mono ?_; rintro e w' ⟨rfl, rfl⟩)
    | (go_at_call 10; refine (ref_lanes_at n hn _).mono ?_; rintro e w' ⟨rfl, rfl⟩)
    | (go_at_call 28; refine (hw _).mono ?_; rintro e w' ⟨rfl, hb2⟩))
  go_ret2
  refine ⟨rfl, ?_⟩
  refine below_step ?_ hb2
  repeat (first | exact Below.refl _ _ | refine Below.alloc ?_ (by simp; try omega) _)
set_option maxRecDepth 20000 in
theorem rset_6 (n b : Nat) (hn : n < 18446744073709551616) (hb8 : b < 256) (hb : okB b = true) (w : World) :
    Calls Tryd.prog 24 #[.int .u64 n, .int .i64 6, .int .u8 b] w fun e w' => e = .returned (.tuple #[.int .u64 (withL n 6 b : Nat), .int .i64 0]) ∧ Below w.heap.size w w' := by
  have z : (((kindN b : Nat) : Int) == 0) = false := by
    have h2 := kind_0 b
    rw [hb] at h2
    simp at h2 ⊢; omega
  have hw := fun wx => word_at (withL n 6 b) (ln n 0) (ln n 1) (ln n 2) (ln n 3) (ln n 4) (ln n 5) b (ln n 7) (by rfl) (ln_lt _ _) (ln_lt _ _) (ln_lt _ _) (ln_lt _ _) (ln_lt _ _) (ln_lt _ _) hb8 (ln_lt _ _) wx
  go_enter Tryd.func24, Tryd.ntmps24
  go_wp2_with (first
    | (go_at_call 31; refine (kind_any _ _).mono ?_; rintro e w' ⟨rfl, rfl⟩)
    | (go_at_call 10; refine (ref_lanes_at n hn _).mono ?_; rintro e w' ⟨rfl, rfl⟩)
    | (go_at_call 28; refine (hw _).mono ?_; rintro e w' ⟨rfl, hb2⟩))
  go_ret2
  refine ⟨rfl, ?_⟩
  refine below_step ?_ hb2
  repeat (first | exact Below.refl _ _ | refine Below.alloc ?_ (by simp; try omega) _)
set_option maxRecDepth 20000 in
theorem rset_7 (n b : Nat) (hn : n < 18446744073709551616) (hb8 : b < 256) (hb : okB b = true) (w : World) :
    Calls Tryd.prog 24 #[.int .u64 n, .int .i64 7, .int .u8 b] w fun e w' => e = .returned (.tuple #[.int .u64 (withL n 7 b : Nat), .int .i64 0]) ∧ Below w.heap.size w w' := by
  have z : (((kindN b : Nat) : Int) == 0) = false := by
    have h2 := kind_0 b
    rw [hb] at h2
    simp at h2 ⊢; omega
  have hw := fun wx => word_at (withL n 7 b) (ln n 0) (ln n 1) (ln n 2) (ln n 3) (ln n 4) (ln n 5) (ln n 6) b (by rfl) (ln_lt _ _) (ln_lt _ _) (ln_lt _ _) (ln_lt _ _) (ln_lt _ _) (ln_lt _ _) (ln_lt _ _) hb8 wx
  go_enter Tryd.func24, Tryd.ntmps24
  go_wp2_with (first
    | (go_at_call 31; refine (kind_any _ _).mono ?_; rintro e w' ⟨rfl, rfl⟩)
    | (go_at_call 10; refine (ref_lanes_at n hn _).mono ?_; rintro e w' ⟨rfl, rfl⟩)
    | (go_at_call 28; refine (hw _).mono ?_; rintro e w' ⟨rfl, hb2⟩))
  go_ret2
  refine ⟨rfl, ?_⟩
  refine below_step ?_ hb2
  repeat (first | exact Below.refl _ _ | refine Below.alloc ?_ (by simp; try omega) _)
theorem rset_yes (n b k : Nat) (hn : n < 18446744073709551616) (hk : k < 8) (hb8 : b < 256) (hb : okB b = true) (w : World) :
    Calls Tryd.prog 24 #[.int .u64 n, .int .i64 k, .int .u8 b] w fun e w' => e = .returned (.tuple #[.int .u64 (withL n k b : Nat), .int .i64 0]) ∧ Below w.heap.size w w' := by
  rcases cases8 hk with rfl | rfl | rfl | rfl | rfl | rfl | rfl | rfl
  · exact rset_0 n b hn hb8 hb w
  · exact rset_1 n b hn hb8 hb w
  · exact rset_2 n b hn hb8 hb w
  · exact rset_3 n b hn hb8 hb w
  · exact rset_4 n b hn hb8 hb w
  · exact rset_5 n b hn hb8 hb w
  · exact rset_6 n b hn hb8 hb w
  · exact rset_7 n b hn hb8 hb w
theorem kind_sgn (b : Nat) : (kindN b = 0 ∧ sgB b = 63) ∨ (kindN b = 1 ∧ sgB b = 46) ∨ (kindN b = 2 ∧ sgB b = 120) ∨ (kindN b = 3 ∧ sgB b = 35) := by
  unfold kindN sgB
  by_cases h1 : b = 128
  · simp [h1]
  · by_cases h2 : b = 254
    · simp [h2]
    · by_cases h3 : b < 128 <;> simp [h1, h2, h3]
/-- the first signs of a word -/
def pre (n : Nat) : Nat → ByteArray
  | 0 => ⟨#[]⟩
  | j + 1 => (pre n j).push (sgB (ln n j))
theorem pre_size (n : Nat) : ∀ j, (pre n j).size = j
  | 0 => rfl
  | j + 1 => by rw [pre, ByteArray.size_push, pre_size n j]
theorem pre_all (n : Nat) : pre n 8 = textN n := rfl
theorem push_one (a : ByteArray) (c : UInt8) : a ++ (⟨#[c]⟩ : ByteArray) = a.push c := by
  apply ByteArray.ext; simp
theorem pre_step (n j : Nat) {c : UInt8} {X : ByteArray} (hs : sgB (ln n j) = c) (hX : X = ⟨#[c]⟩) : pre n j ++ X = pre n (j + 1) := by
  rw [hX, push_one, pre, hs]
set_option maxRecDepth 20000 in
theorem rtext_any (n : Nat) (hn : n < 18446744073709551616) (w : World) :
    Calls Tryd.prog 21 #[.int .u64 n] w fun e w' => e = .returned (.string (textN n)) ∧ Below w.heap.size w w' := by
  have i0 := fun wx => (idx8u (.int .u8 (ln n 0 : Nat)) (.int .u8 (ln n 1 : Nat)) (.int .u8 (ln n 2 : Nat)) (.int .u8 (ln n 3 : Nat)) (.int .u8 (ln n 4 : Nat)) (.int .u8 (ln n 5 : Nat)) (.int .u8 (ln n 6 : Nat)) (.int .u8 (ln n 7 : Nat)) wx).1
  have i1 := fun wx => (idx8u (.int .u8 (ln n 0 : Nat)) (.int .u8 (ln n 1 : Nat)) (.int .u8 (ln n 2 : Nat)) (.int .u8 (ln n 3 : Nat)) (.int .u8 (ln n 4 : Nat)) (.int .u8 (ln n 5 : Nat)) (.int .u8 (ln n 6 : Nat)) (.int .u8 (ln n 7 : Nat)) wx).2.1
  have i2 := fun wx => (idx8u (.int .u8 (ln n 0 : Nat)) (.int .u8 (ln n 1 : Nat)) (.int .u8 (ln n 2 : Nat)) (.int .u8 (ln n 3 : Nat)) (.int .u8 (ln n 4 : Nat)) (.int .u8 (ln n 5 : Nat)) (.int .u8 (ln n 6 : Nat)) (.int .u8 (ln n 7 : Nat)) wx).2.2.1
  have i3 := fun wx => (idx8u (.int .u8 (ln n 0 : Nat)) (.int .u8 (ln n 1 : Nat)) (.int .u8 (ln n 2 : Nat)) (.int .u8 (ln n 3 : Nat)) (.int .u8 (ln n 4 : Nat)) (.int .u8 (ln n 5 : Nat)) (.int .u8 (ln n 6 : Nat)) (.int .u8 (ln n 7 : Nat)) wx).2.2.2.1
  have i4 := fun wx => (idx8u (.int .u8 (ln n 0 : Nat)) (.int .u8 (ln n 1 : Nat)) (.int .u8 (ln n 2 : Nat)) (.int .u8 (ln n 3 : Nat)) (.int .u8 (ln n 4 : Nat)) (.int .u8 (ln n 5 : Nat)) (.int .u8 (ln n 6 : Nat)) (.int .u8 (ln n 7 : Nat)) wx).2.2.2.2.1
  have i5 := fun wx => (idx8u (.int .u8 (ln n 0 : Nat)) (.int .u8 (ln n 1 : Nat)) (.int .u8 (ln n 2 : Nat)) (.int .u8 (ln n 3 : Nat)) (.int .u8 (ln n 4 : Nat)) (.int .u8 (ln n 5 : Nat)) (.int .u8 (ln n 6 : Nat)) (.int .u8 (ln n 7 : Nat)) wx).2.2.2.2.2.1
  have i6 := fun wx => (idx8u (.int .u8 (ln n 0 : Nat)) (.int .u8 (ln n 1 : Nat)) (.int .u8 (ln n 2 : Nat)) (.int .u8 (ln n 3 : Nat)) (.int .u8 (ln n 4 : Nat)) (.int .u8 (ln n 5 : Nat)) (.int .u8 (ln n 6 : Nat)) (.int .u8 (ln n 7 : Nat)) wx).2.2.2.2.2.2.1
  have i7 := fun wx => (idx8u (.int .u8 (ln n 0 : Nat)) (.int .u8 (ln n 1 : Nat)) (.int .u8 (ln n 2 : Nat)) (.int .u8 (ln n 3 : Nat)) (.int .u8 (ln n 4 : Nat)) (.int .u8 (ln n 5 : Nat)) (.int .u8 (ln n 6 : Nat)) (.int .u8 (ln n 7 : Nat)) wx).2.2.2.2.2.2.2
  have hsz := pre_size n
  go_enter Tryd.func21, Tryd.ntmps21
  go_wp2_with (go_at_call 10; refine (ref_lanes n hn _).mono ?_; rintro e w1 ⟨rfl, hb1⟩)
  go_loopw [9, 3] (fun i s wr => ∃ j : Nat, j ≤ 8 ∧ i = .int .i64 j ∧ s = .string (pre n j) ∧ wr = w1) (fun i _ _ => 8 - (intOf i).toNat)
  case atStart => exact ⟨0, by omega, rfl, rfl, rfl⟩
  case round =>
    obtain ⟨j, hj, rfl, rfl, rfl⟩ := hrel
    rcases cases9 hj with rfl | rfl | rfl | rfl | rfl | rfl | rfl | rfl | rfl
    · have hz := pre_size n 0
      rcases kind_sgn (ln n 0) with ⟨hk, hs⟩ | ⟨hk, hs⟩ | ⟨hk, hs⟩ | ⟨hk, hs⟩
      all_goals
        have c := fun wx => kind_any (ln n 0) wx
        rw [hk] at c
        go_wp2_with (go_at_call 31; refine (c _).mono ?_; rintro e w2 ⟨rfl, rfl⟩)
        go_roundw
        case rel => exact ⟨1, by omega, rfl, congrArg Value.string (pre_step n _ hs (by rfl)), trivial⟩
        case measure => simp [intOf]
    · have hz := pre_size n 1
      rcases kind_sgn (ln n 1) with ⟨hk, hs⟩ | ⟨hk, hs⟩ | ⟨hk, hs⟩ | ⟨hk, hs⟩
      all_goals
        have c := fun wx => kind_any (ln n 1) wx
        rw [hk] at c
        go_wp2_with (go_at_call 31; refine (c _).mono ?_; rintro e w2 ⟨rfl, rfl⟩)
        go_roundw
        case rel => exact ⟨2, by omega, rfl, congrArg Value.string (pre_step n _ hs (by rfl)), trivial⟩
        case measure => simp [intOf]
    · have hz := pre_size n 2
      rcases kind_sgn (ln n 2) with ⟨hk, hs⟩ | ⟨hk, hs⟩ | ⟨hk, hs⟩ | ⟨hk, hs⟩
      all_goals
        have c := fun wx => kind_any (ln n 2) wx
        rw [hk] at c
        go_wp2_with (go_at_call 31; refine (c _).mono ?_; rintro e w2 ⟨rfl, rfl⟩)
        go_roundw
        case rel => exact ⟨3, by omega, rfl, congrArg Value.string (pre_step n _ hs (by rfl)), trivial⟩
        case measure => simp [intOf]
    · have hz := pre_size n 3
      rcases kind_sgn (ln n 3) with ⟨hk, hs⟩ | ⟨hk, hs⟩ | ⟨hk, hs⟩ | ⟨hk, hs⟩
      all_goals
        have c := fun wx => kind_any (ln n 3) wx
        rw [hk] at c
        go_wp2_with (go_at_call 31; refine (c _).mono ?_; rintro e w2 ⟨rfl, rfl⟩)
        go_roundw
        case rel => exact ⟨4, by omega, rfl, congrArg Value.string (pre_step n _ hs (by rfl)), trivial⟩
        case measure => simp [intOf]
    · have hz := pre_size n 4
      rcases kind_sgn (ln n 4) with ⟨hk, hs⟩ | ⟨hk, hs⟩ | ⟨hk, hs⟩ | ⟨hk, hs⟩
      all_goals
        have c := fun wx => kind_any (ln n 4) wx
        rw [hk] at c
        go_wp2_with (go_at_call 31; refine (c _).mono ?_; rintro e w2 ⟨rfl, rfl⟩)
        go_roundw
        case rel => exact ⟨5, by omega, rfl, congrArg Value.string (pre_step n _ hs (by rfl)), trivial⟩
        case measure => simp [intOf]
    · have hz := pre_size n 5
      rcases kind_sgn (ln n 5) with ⟨hk, hs⟩ | ⟨hk, hs⟩ | ⟨hk, hs⟩ | ⟨hk, hs⟩
      all_goals
        have c := fun wx => kind_any (ln n 5) wx
        rw [hk] at c
        go_wp2_with (go_at_call 31; refine (c _).mono ?_; rintro e w2 ⟨rfl, rfl⟩)
        go_roundw
        case rel => exact ⟨6, by omega, rfl, congrArg Value.string (pre_step n _ hs (by rfl)), trivial⟩
        case measure => simp [intOf]
    · have hz := pre_size n 6
      rcases kind_sgn (ln n 6) with ⟨hk, hs⟩ | ⟨hk, hs⟩ | ⟨hk, hs⟩ | ⟨hk, hs⟩
      all_goals
        have c := fun wx => kind_any (ln n 6) wx
        rw [hk] at c
        go_wp2_with (go_at_call 31; refine (c _).mono ?_; rintro e w2 ⟨rfl, rfl⟩)
        go_roundw
        case rel => exact ⟨7, by omega, rfl, congrArg Value.string (pre_step n _ hs (by rfl)), trivial⟩
        case measure => simp [intOf]
    · have hz := pre_size n 7
      rcases kind_sgn (ln n 7) with ⟨hk, hs⟩ | ⟨hk, hs⟩ | ⟨hk, hs⟩ | ⟨hk, hs⟩
      all_goals
        have c := fun wx => kind_any (ln n 7) wx
        rw [hk] at c
        go_wp2_with (go_at_call 31; refine (c _).mono ?_; rintro e w2 ⟨rfl, rfl⟩)
        go_roundw
        case rel => exact ⟨8, by omega, rfl, congrArg Value.string (pre_step n _ hs (by rfl)), trivial⟩
        case measure => simp [intOf]
    · go_wp2
      go_ret
      exact ⟨by simp [pre_all], hb1⟩
end Go.Proofs.YtfnfdofenaegpaaDoor.ctrl
