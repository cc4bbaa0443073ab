/- meter: sums of counts, the document's; the example; MeterSums. -/
import Derived.Test.YtapndkabgjeofaaGreatDoorMeter
import Derived.Test.YtapndkabgjeofaaGreatDoorKit
import Derived.ChangeKeysEq
import Derived.IntWalk
import Derived.LoopN
namespace Go.Proofs.YtapndkabgjeofaaGreatDoor.meter
open Go.RowKit errs under trap tail
set_option linter.unusedSimpArgs false
set_option linter.unusedVariables false

abbrev cts (a b c:Int):Value:=.agg #[.int .i64 a,.int .i64 b,.int .i64 c]
theorem sum_q (a b:Int) (w:World):Calls Tryz.prog 74 #[.int .i64 a,.int .i64 b] w fun e w' => e = .returned (.int .i64 (sm a b)) ∧ w' = w:=(sum_any a b w).mono fun e w' ⟨he,hw⟩ => ⟨he,hw.symm⟩
theorem plus_any (a0 a1 a2 b0 b1 b2:Int) (w:World):Calls Tryz.prog 33 #[cts a0 a1 a2,cts b0 b1 b2] w fun e w' => e = .returned (cts (sm a0 b0) (sm a1 b1) (sm a2 b2)) ∧ Below w.heap.size w w':=by
 go_enter Tryz.func33,Tryz.ntmps33
 go_wp2
 refine wp_region_tail_drew 16 (by kernel_rfl) (by kernel_rfl) ?_
 simp only [List.take_succ_cons,List.take_zero,List.drop_succ_cons,List.drop_zero]
 repeat (quiet_step ((go_at_call 74; exact Calls.quiet_of_same (sum_q _ _ _))))
 refine wpQuiet_nil ?_
 intro w4 hw4
 obtain ⟨n4,rfl⟩:=hw4
 go_wp2
 refine bodyPost_ret (v:=cts (sm a0 b0) (sm a1 b1) (sm a2 b2)) (by simp [results,Tryz.results33,go_sem]) rfl ⟨rfl, ?_⟩
 refine bset (bset (bset (bdrewN ?_ _) _ _ (by omega) _) _ _ (by omega) _) _ _ (by omega) _
 exact balloc (balloc (balloc (Below.refl _ _) (Nat.le_refl _) _) (by simp) _) (by simp; omega) _
/-! ### the example -/
end Go.Proofs.YtapndkabgjeofaaGreatDoor.meter
