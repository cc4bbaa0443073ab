/- ChooseTells: the walk. -/
import Derived.Test.YthnihnnonjodjaaDoorChooseRef2
import Derived.Test.YthnihnnonjodjaaDoorChooseRoom
namespace Go.Proofs.YthnihnnonjodjaaDoor.choose
open Go.ChangeShapes Go.WideShapes Go.ChangeAt Go.RowKit errs under
set_option linter.unusedSimpArgs false
set_option linter.unusedVariables false

theorem num_zero (a : String → Addr) (w : World) (h : ErrsOk names a w) :
    Calls Tryd.prog 13 #[ev a 0] w fun e w' => e = .returned (.int .i64 0) ∧ Below w.heap.size w w' :=
  (num_nil w).mono fun e w' ⟨he, hw⟩ => ⟨he, hw ▸ Below.refl _ _⟩
theorem num_one (a : String → Addr) (w : World) (h : ErrsOk names a w) :
    Calls Tryd.prog 13 #[ev a 1] w fun e w' => e = .returned (.int .i64 1) ∧ Below w.heap.size w w' := num_at a 0 (by decide) w h
theorem num_kind (a : String → Addr) (w : World) (h : ErrsOk names a w) :
    Calls Tryd.prog 13 #[ev a 14] w fun e w' => e = .returned (.int .i64 14) ∧ Below w.heap.size w w' := num_at a 13 (by decide) w h

theorem wd_far {k : Int} (h : k < 0 ∨ 3 < k) : wd k = ⟨#[]⟩ := by simp only [wd]; rw [if_neg (by omega), if_neg (by omega), if_neg (by omega), if_neg (by omega)]
theorem kr_all {a : String → Addr} {w : World} (h : ErrsOk names a w) : KR a w := ⟨h.at gErrKind (by decide), h.at gErrRange (by decide)⟩

end Go.Proofs.YthnihnnonjodjaaDoor.choose
