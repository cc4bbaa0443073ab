/- The order of entries: Less, Before, After. -/
import Derived.Test.YtiohlgkdlaiofaaDoorSplitAlive
namespace Go.Proofs.YtiohlgkdlaiofaaDoor.split
open Go.ChangeShapes Go.WideShapes Go.ChangeAt Go.RowKit errs

/-- an entry: key, value, hash -/
abbrev entV (k v h : Nat) : Value := .agg #[.int .u64 ((k : Nat) : Int), .int .u64 ((v : Nat) : Int), .int .u64 ((h : Nat) : Int)]
/-- does it come ahead, by hash and key -/
def lessB (k1 h1 k2 h2 : Nat) : Bool := if h1 = h2 then decide (k1 < k2) else decide (h1 < h2)
theorem less_any (k1 v1 h1 k2 v2 h2 : Nat) (w : World) :
    Calls Tryd.prog 20 #[entV k1 v1 h1, entV k2 v2 h2] w fun e w' => e = .returned (.bool (lessB k1 h1 k2 h2)) ∧ Below w.heap.size w w' := by
  by_cases h : h1 = h2
  · have e : ((h1 : Int) != (h2 : Int)) = false := by simp [h]
    have e2 : lessB k1 h1 k2 h2 = decide ((k1 : Int) < (k2 : Int)) := by unfold lessB; rw [if_pos h]; rw [Bool.eq_iff_iff]; simp
    rw [e2]
    clear e2
    go_enter Tryd.func20, Tryd.ntmps20
    go_wp2
    all_goals
      go_ret
      refine ⟨by simp, ?_⟩
      exact ((Below.refl _ _).alloc (Nat.le_refl _) _).alloc (by simp) _
  · have e : ((h1 : Int) != (h2 : Int)) = true := by simp; omega
    have e2 : lessB k1 h1 k2 h2 = decide ((h1 : Int) < (h2 : Int)) := by unfold lessB; rw [if_neg h]; rw [Bool.eq_iff_iff]; simp
    rw [e2]
    clear e2
    go_enter Tryd.func20, Tryd.ntmps20
    go_wp2
    all_goals
      go_ret
      refine ⟨by simp, ?_⟩
      exact ((Below.refl _ _).alloc (Nat.le_refl _) _).alloc (by simp) _
theorem before_any (k1 v1 h1 k2 v2 h2 : Nat) (w : World) :
    Calls Tryd.prog 21 #[entV k1 v1 h1, entV k2 v2 h2] w fun e w' => e = .returned (.bool (lessB k1 h1 k2 h2)) ∧ Below w.heap.size w w' := by
  by_cases h : h1 = h2
  · have e : ((h1 : Int) != (h2 : Int)) = false := by simp [h]
    have e2 : lessB k1 h1 k2 h2 = decide ((k1 : Int) < (k2 : Int)) := by unfold lessB; rw [if_pos h]; rw [Bool.eq_iff_iff]; simp
    rw [e2]
    clear e2
    go_enter Tryd.func21, Tryd.ntmps21
    go_wp2
    all_goals
      go_ret
      refine ⟨by simp, ?_⟩
      exact ((Below.refl _ _).alloc (Nat.le_refl _) _).alloc (by simp) _
  · have e : ((h1 : Int) != (h2 : Int)) = true := by simp; omega
    have e2 : lessB k1 h1 k2 h2 = decide ((h1 : Int) < (h2 : Int)) := by unfold lessB; rw [if_neg h]; rw [Bool.eq_iff_iff]; simp
    rw [e2]
    clear e2
    go_enter Tryd.func21, Tryd.ntmps21
    go_wp2
    all_goals
      go_ret
      refine ⟨by simp, ?_⟩
      exact ((Below.refl _ _).alloc (Nat.le_refl _) _).alloc (by simp) _
theorem after_key (k v h : Nat) (hk : k < 18446744073709551615) (w : World) :
    Calls Tryd.prog 22 #[entV k v h] w fun e w' => e = .returned (.tuple #[.int .u64 ((h : Nat) : Int), .int .u64 ((k + 1 : Nat) : Int), .bool true]) ∧ Below w.heap.size w w' := by
  have e : decide ((k : Int) < 18446744073709551615) = true := decide_eq_true (by omega)
  go_enter Tryd.func22, Tryd.ntmps22
  go_wp2
  go_quiet (fail)
  go_wp2
  go_ret3
  refine ⟨by simp, below_step ((Below.refl _ _).alloc (Nat.le_refl _) _) (drewN_below _ _)⟩
theorem after_hash (v h : Nat) (hh : h < 18446744073709551615) (w : World) :
    Calls Tryd.prog 22 #[entV 18446744073709551615 v h] w fun e w' => e = .returned (.tuple #[.int .u64 ((h + 1 : Nat) : Int), .int .u64 0, .bool true]) ∧ Below w.heap.size w w' := by
  have e : decide ((h : Int) < 18446744073709551615) = true := decide_eq_true (by omega)
  go_enter Tryd.func22, Tryd.ntmps22
  go_wp2
  go_ret3
  exact ⟨by simp, (Below.refl _ _).alloc (Nat.le_refl _) _⟩
theorem after_none (v : Nat) (w : World) :
    Calls Tryd.prog 22 #[entV 18446744073709551615 v 18446744073709551615] w fun e w' => e = .returned (.tuple #[.int .u64 0, .int .u64 0, .bool false]) ∧ Below w.heap.size w w' := by
  go_enter Tryd.func22, Tryd.ntmps22
  go_wp2
  go_ret3
  exact ⟨by simp, (Below.refl _ _).alloc (Nat.le_refl _) _⟩
/-- the order is one of all entries -/
theorem lessB_lt {k1 h1 k2 h2 : Nat} (h : h1 < h2) : lessB k1 h1 k2 h2 = true ∧ lessB k2 h2 k1 h1 = false := by
  unfold lessB; rw [if_neg (by omega), if_neg (by omega)]; simp; omega
theorem lessB_key {k1 k2 h : Nat} (hk : k1 < k2) : lessB k1 h k2 h = true ∧ lessB k2 h k1 h = false := by
  unfold lessB; rw [if_pos rfl, if_pos rfl]; simp; omega
theorem lessB_same (k h : Nat) : lessB k h k h = false := by unfold lessB; rw [if_pos rfl]; simp
theorem lessB_iff (k1 h1 k2 h2 : Nat) : lessB k1 h1 k2 h2 = true ↔ (h1 < h2 ∨ h1 = h2 ∧ k1 < k2) := by
  unfold lessB; split <;> simp <;> omega
/-- nothing is between an entry and what comes behind it -/
theorem next_key (k1 h1 k2 h2 : Nat) : lessB k1 h1 (k1 + 1) h1 = true ∧ (lessB k1 h1 k2 h2 = true → lessB k2 h2 (k1 + 1) h1 = false) := by
  refine ⟨(lessB_iff _ _ _ _).2 (by omega), fun h => ?_⟩
  rw [Bool.eq_false_iff]; intro h'
  rw [lessB_iff] at h h'; omega
theorem next_hash (k1 h1 k2 h2 : Nat) (hk : k2 ≤ k1) : lessB k1 h1 0 (h1 + 1) = true ∧ (lessB k1 h1 k2 h2 = true → lessB k2 h2 0 (h1 + 1) = false) := by
  refine ⟨(lessB_iff _ _ _ _).2 (by omega), fun h => ?_⟩
  rw [Bool.eq_false_iff]; intro h'
  rw [lessB_iff] at h h'; omega
/-- the two entries' cells, and where the error lies -/
theorem kept2 {B k1 v1 h1 k2 v2 h2 : Nat} {a : String → Addr} {W W' : World} (hb : Below W.heap.size W W')
    (hS : W.cell? ⟨B, 0, none⟩ = some (.int .u64 ((k1 : Nat) : Int)) ∧ W.cell? ⟨B, 1, none⟩ = some (.int .u64 ((v1 : Nat) : Int)) ∧ W.cell? ⟨B, 2, none⟩ = some (.int .u64 ((h1 : Nat) : Int)) ∧ W.cell? ⟨B + 1, 0, none⟩ = some (.int .u64 ((k2 : Nat) : Int)) ∧ W.cell? ⟨B + 1, 1, none⟩ = some (.int .u64 ((v2 : Nat) : Int)) ∧ W.cell? ⟨B + 1, 2, none⟩ = some (.int .u64 ((h2 : Nat) : Int)) ∧ B + 1 < W.heap.size ∧ ErrsOk ["ambler/api.ErrRange"] a W) :
    W'.cell? ⟨B, 0, none⟩ = some (.int .u64 ((k1 : Nat) : Int)) ∧ W'.cell? ⟨B, 1, none⟩ = some (.int .u64 ((v1 : Nat) : Int)) ∧ W'.cell? ⟨B, 2, none⟩ = some (.int .u64 ((h1 : Nat) : Int)) ∧ W'.cell? ⟨B + 1, 0, none⟩ = some (.int .u64 ((k2 : Nat) : Int)) ∧ W'.cell? ⟨B + 1, 1, none⟩ = some (.int .u64 ((v2 : Nat) : Int)) ∧ W'.cell? ⟨B + 1, 2, none⟩ = some (.int .u64 ((h2 : Nat) : Int)) ∧ B + 1 < W'.heap.size ∧ ErrsOk ["ambler/api.ErrRange"] a W' := by
  obtain ⟨c0, c1, c2, d0, d1, d2, hs, he⟩ := hS
  have hz := hb.size
  exact ⟨(hb.cell (p := ⟨B, 0, none⟩) (by simp; omega)).trans c0, (hb.cell (p := ⟨B, 1, none⟩) (by simp; omega)).trans c1, (hb.cell (p := ⟨B, 2, none⟩) (by simp; omega)).trans c2, (hb.cell (p := ⟨B + 1, 0, none⟩) (by simp; omega)).trans d0, (hb.cell (p := ⟨B + 1, 1, none⟩) (by simp; omega)).trans d1, (hb.cell (p := ⟨B + 1, 2, none⟩) (by simp; omega)).trans d2, by omega, he.below hb⟩
theorem kept1 {B k1 h1 : Nat} {v1 : Int} {W W' : World} (hb : Below W.heap.size W W')
    (hS : W.cell? ⟨B, 0, none⟩ = some (.int .u64 ((k1 : Nat) : Int)) ∧ W.cell? ⟨B, 1, none⟩ = some (.int .u64 v1) ∧ W.cell? ⟨B, 2, none⟩ = some (.int .u64 ((h1 : Nat) : Int)) ∧ B < W.heap.size) :
    W'.cell? ⟨B, 0, none⟩ = some (.int .u64 ((k1 : Nat) : Int)) ∧ W'.cell? ⟨B, 1, none⟩ = some (.int .u64 v1) ∧ W'.cell? ⟨B, 2, none⟩ = some (.int .u64 ((h1 : Nat) : Int)) ∧ B < W'.heap.size := by
  obtain ⟨c0, c1, c2, hs⟩ := hS
  have hz := hb.size
  exact ⟨(hb.cell (p := ⟨B, 0, none⟩) (by simp; omega)).trans c0, (hb.cell (p := ⟨B, 1, none⟩) (by simp; omega)).trans c1, (hb.cell (p := ⟨B, 2, none⟩) (by simp; omega)).trans c2, by omega⟩
end Go.Proofs.YtiohlgkdlaiofaaDoor.split
