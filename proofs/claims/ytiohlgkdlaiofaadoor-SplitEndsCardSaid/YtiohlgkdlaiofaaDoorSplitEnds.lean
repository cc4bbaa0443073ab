/- SplitEnds: the walk. -/
import Derived.Test.YtiohlgkdlaiofaaDoorSplitEnds1
namespace Go.Proofs.YtiohlgkdlaiofaaDoor.split
open Go.ChangeShapes Go.WideShapes Go.ChangeAt Go.RowKit errs

theorem rends_no (p i : Int) (h : NoPrefix p i) (w : World) :
    Calls Tryd.prog 18 #[.int .i64 p, .int .i64 i] w fun e w' => e = .returned (.tuple #[.int .u64 0, .int .u64 0, .int .i64 1]) ∧ w = w' := by
  by_cases hi : i < 0 ∨ 16 < i
  · exact rends_deep p i hi w
  · obtain ⟨d, rfl⟩ := Int.eq_ofNat_of_zero_le (show 0 ≤ i by omega)
    by_cases hp : p < 0
    · exact rends_neg p d (by omega) hp w
    · obtain ⟨n, rfl⟩ := Int.eq_ofNat_of_zero_le (show 0 ≤ p by omega)
      refine rends_big n d (by omega) ?_ w
      rcases h with h | h | h | h
      · omega
      · omega
      · omega
      · rw [Int.toNat_natCast] at h; exact_mod_cast h
theorem ends_no (p i : Int) (n : Nat) (h : NoPrefix p i) (w : World) (a : String → Addr) (hE : ErrsOk names a w) :
    Calls Tryd.prog 4 #[.int .i64 p, .int .i64 i, .int .u64 n] w fun e w' => e = .returned (.bool true) ∧ Below w.heap.size w w' := by
  go_enter Tryd.func4, Tryd.ntmps4
  go_wp2_with (first
    | (go_at_call 6; refine (alive_any _).mono ?_; rintro e w' ⟨rfl, rfl⟩)
    | (go_at_call 16; refine (low_no p i h _ _ (hE.at gErrRange (nm_mem (i := 0) (by decide)))).mono ?_; rintro e w' ⟨rfl, q1, rfl⟩)
    | (go_at_call 17; refine (high_no p i h _ _ ((hE.drewN q1).at gErrRange (nm_mem (i := 0) (by decide)))).mono ?_; rintro e w' ⟨rfl, q2, rfl⟩)
    | (go_at_call 18; refine (rends_no p i h _).mono ?_; rintro e w' ⟨rfl, rfl⟩)
    | (go_at_call 19; refine (within_no n p i h _).mono ?_; rintro e w' ⟨rfl, rfl⟩)
    | (go_at_call 15; refine (num_range a _ (hE.below (below_step (drewN_below w (q1 + q2)) (by assumption)))).mono ?_; rintro e w2 ⟨rfl, hb2⟩)
    | (go_at_call 15; refine (num_range a _ (hE.below (drewN_below w (q1 + q2)))).mono ?_; rintro e w1 ⟨rfl, hb1⟩))
  all_goals
    go_ret
    refine ⟨rfl, ?_⟩
    exact below_step (drewN_below _ _) (below_step (by assumption) (by assumption))
theorem ends_yes (p d n : Nat) (hd : d ≤ 16) (hp : p < 2 ^ d) (hn : n < 18446744073709551616) (w : World) :
    Calls Tryd.prog 4 #[.int .i64 p, .int .i64 d, .int .u64 n] w fun e w' => e = .returned (.bool true) ∧ Below w.heap.size w w' := by
  have cL := fun W => low_yes p d hd hp W
  have cH := fun W => high_yes p d hd hp W
  have cE := fun W => rends_yes p d hd hp W
  have cW := fun W => within_yes n p d hn hd hp W
  have hw : decide (n / 2 ^ (64 - d) = p) = (decide ((lowN p d : Int) ≤ (n : Int)) && decide ((n : Int) ≤ ((lowN p d + (2 ^ (64 - d) - 1) : Nat) : Int))) := by
    rw [Bool.eq_iff_iff, Bool.and_eq_true, decide_eq_true_iff, decide_eq_true_iff, decide_eq_true_iff, within_iff n p d]
    unfold lowN; omega
  rw [hw] at cW
  clear hw
  generalize lowN p d + (2 ^ (64 - d) - 1) = x at cH cE cW
  generalize lowN p d = y at cL cE cW
  go_enter Tryd.func4, Tryd.ntmps4
  go_wp2_with (first
    | (go_at_call 6; refine (alive_any _).mono ?_; rintro e w' ⟨rfl, rfl⟩)
    | (go_at_call 16; refine (cL _).mono ?_; rintro e w' ⟨rfl, rfl⟩)
    | (go_at_call 17; refine (cH _).mono ?_; rintro e w' ⟨rfl, q2, rfl⟩)
    | (go_at_call 18; refine (cE _).mono ?_; rintro e w1 ⟨rfl, hb1⟩)
    | (go_at_call 19; refine (cW _).mono ?_; rintro e w' ⟨rfl, rfl⟩)
    | (go_at_call 15; refine (num_nil _).mono ?_; rintro e w2 ⟨rfl, rfl⟩))
  all_goals
    go_ret
    refine ⟨by simp, ?_⟩
    exact below_step (drewN_below _ _) (by assumption)
theorem ends_any (p i : Int) (n : Nat) (hn : n < 18446744073709551616) (w : World) (a : String → Addr) (hE : ErrsOk names a w) :
    Calls Tryd.prog 4 #[.int .i64 p, .int .i64 i, .int .u64 n] w fun e w' => e = .returned (.bool true) ∧ Below w.heap.size w w' := by
  by_cases h : NoPrefix p i
  · exact ends_no p i n h w a hE
  · unfold NoPrefix at h
    obtain ⟨d, rfl⟩ := Int.eq_ofNat_of_zero_le (show 0 ≤ i by omega)
    obtain ⟨m, rfl⟩ := Int.eq_ofNat_of_zero_le (show 0 ≤ p by omega)
    refine ends_yes m d n (by omega) ?_ hn w
    have h2 : ¬ ((2 : Int) ^ ((d : Nat) : Int).toNat ≤ (m : Int)) := fun h2 => h (.inr (.inr (.inr h2)))
    rw [Int.toNat_natCast, cast_pow] at h2
    omega
end Go.Proofs.YtiohlgkdlaiofaaDoor.split
