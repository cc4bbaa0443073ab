/- SplitOrders: all ways together. -/
import Derived.Test.YtiohlgkdlaiofaaDoorSplitOrdersA
import Derived.Test.YtiohlgkdlaiofaaDoorSplitOrdersB
import Derived.Test.YtiohlgkdlaiofaaDoorSplitOrdersC
import Derived.Test.YtiohlgkdlaiofaaDoorSplitOrdersD
import Derived.Test.YtiohlgkdlaiofaaDoorSplitOrdersE
import Derived.Test.YtiohlgkdlaiofaaDoorSplitOrdersNB
import Derived.Test.YtiohlgkdlaiofaaDoorSplitOrdersND
import Derived.Test.YtiohlgkdlaiofaaDoorSplitOrdersNE
namespace Go.Proofs.YtiohlgkdlaiofaaDoor.split
open Go.ChangeShapes Go.WideShapes Go.ChangeAt Go.RowKit errs

theorem eq_no {a b : Nat} (h : a ≠ b) : (((a : Nat) : Int) == ((b : Nat) : Int)) = false := by rw [beq_eq_false_iff_ne]; omega
theorem eq_yes (a : Nat) : (((a : Nat) : Int) == ((a : Nat) : Int)) = true := by simp
theorem orders_is (k1 v1 h1 k2 v2 h2 nk nh : Nat) (i : Int) (hh : h1 < 18446744073709551616) (hi64 : -9223372036854775808 ≤ i ∧ i ≤ 9223372036854775807) (l3 : lessB k1 h1 nk nh = true) (l4 : lessB k1 h1 k2 h2 = true → lessB k2 h2 nk nh = false)
    (cA : ∀ W, Calls Tryd.prog 22 #[entV k1 v1 h1] W fun e w' => e = .returned (.tuple #[.int .u64 ((nh : Nat) : Int), .int .u64 ((nk : Nat) : Int), .bool true]) ∧ Below W.heap.size W w')
    (w : World) (a : String → Addr) (hE : ErrsOk ["ambler/api.ErrRange"] a w) :
    Calls Tryd.prog 5 #[entV k1 v1 h1, entV k2 v2 h2, .int .i64 i] w fun e w' => e = .returned (.bool true) ∧ Below w.heap.size w w' := by
  rcases Nat.lt_trichotomy h1 h2 with h | rfl | h
  · obtain ⟨l1, l2⟩ := lessB_lt (k1 := k1) (k2 := k2) h
    exact orders_A k1 v1 h1 k2 v2 h2 nk nh i hh hi64 (eq_no (by omega)) l1 l2 l3 (l4 l1) cA w a hE
  · rcases Nat.lt_trichotomy k1 k2 with h | rfl | h
    · obtain ⟨l1, l2⟩ := lessB_key (h := h1) h
      exact orders_C k1 v1 h1 k2 v2 h1 nk nh i hh hi64 (eq_yes h1) (eq_no (by omega)) l1 l2 l3 (l4 l1) cA w a hE
    · exact orders_E k1 v1 h1 k1 v2 h1 nk nh i hh hi64 (eq_yes h1) (eq_yes k1) (lessB_same k1 h1) (lessB_same k1 h1) l3 cA w a hE
    · obtain ⟨l1, l2⟩ := lessB_key (h := h1) h
      exact orders_D k1 v1 h1 k2 v2 h1 nk nh i hh hi64 (eq_yes h1) (eq_no (by omega)) l2 l1 l3 cA w a hE
  · obtain ⟨l1, l2⟩ := lessB_lt (k1 := k2) (k2 := k1) h
    exact orders_B k1 v1 h1 k2 v2 h2 nk nh i hh hi64 (eq_no (by omega)) l2 l1 l3 cA w a hE
theorem orders_any (k1 v1 h1 k2 v2 h2 : Nat) (i : Int) (hk : k1 < 18446744073709551616) (hh : h1 < 18446744073709551616) (hk2 : k2 < 18446744073709551616) (hh2 : h2 < 18446744073709551616) (hi64 : -9223372036854775808 ≤ i ∧ i ≤ 9223372036854775807)
    (w : World) (a : String → Addr) (hE : ErrsOk ["ambler/api.ErrRange"] a w) :
    Calls Tryd.prog 5 #[entV k1 v1 h1, entV k2 v2 h2, .int .i64 i] w fun e w' => e = .returned (.bool true) ∧ Below w.heap.size w w' := by
  by_cases h : k1 < 18446744073709551615
  · obtain ⟨l3, l4⟩ := next_key k1 h1 k2 h2
    exact orders_is k1 v1 h1 k2 v2 h2 (k1 + 1) h1 i hh hi64 l3 l4 (fun W => after_key k1 v1 h1 h W) w a hE
  · obtain rfl : k1 = 18446744073709551615 := by omega
    by_cases h' : h1 < 18446744073709551615
    · obtain ⟨l3, l4⟩ := next_hash 18446744073709551615 h1 k2 h2 (by omega)
      exact orders_is 18446744073709551615 v1 h1 k2 v2 h2 0 (h1 + 1) i hh hi64 l3 l4 (fun W => after_hash v1 h1 h' W) w a hE
    · obtain rfl : h1 = 18446744073709551615 := by omega
      have z : IntKind.u64.wrap (((18446744073709551615 : Nat) : Int) + 1) = 0 := by decide
      rcases Nat.lt_trichotomy h2 18446744073709551615 with h3 | rfl | h3
      · obtain ⟨l1, l2⟩ := lessB_lt (k1 := k2) (k2 := 18446744073709551615) h3
        exact orders_nB _ v1 _ k2 v2 h2 i z z (eq_no (by omega)) l2 l1 (fun W => after_none v1 W) w a hE
      · rcases Nat.lt_trichotomy k2 18446744073709551615 with h4 | rfl | h4
        · obtain ⟨l1, l2⟩ := lessB_key (h := 18446744073709551615) h4
          exact orders_nD _ v1 _ k2 v2 _ i z z (eq_yes _) (eq_no (by omega)) l2 l1 (fun W => after_none v1 W) w a hE
        · exact orders_nE _ v1 _ _ v2 _ i z z (eq_yes _) (eq_yes _) (lessB_same _ _) (lessB_same _ _) (fun W => after_none v1 W) w a hE
        · omega
      · omega
end Go.Proofs.YtiohlgkdlaiofaaDoor.split
