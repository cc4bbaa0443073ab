/- ChooseTells: the walk, whole. -/
import Derived.Test.YthnihnnonjodjaaDoorChooseTellsA
import Derived.Test.YthnihnnonjodjaaDoorChooseTellsB
import Derived.Test.YthnihnnonjodjaaDoorChooseTellsC
namespace Go.Proofs.YthnihnnonjodjaaDoor.choose
open Go.ChangeShapes Go.WideShapes Go.ChangeAt Go.RowKit errs under
set_option linter.unusedSimpArgs false
set_option linter.unusedVariables false

/-- ChooseTells: the law returns true -/
theorem tells_any (l t g a b k : Int) (hl : I l) (e : String → Addr) (w : World) (hW : WordsOk w) (hE : ErrsOk names e w) (hF : FreshOk w) :
    Calls Tryd.prog 3 #[num5 l t g a b, .int .i64 k] w fun e w' => e = .returned (.bool true) ∧ Below w.heap.size w w' := by
  by_cases h : 1 ≤ k ∧ k ≤ 3
  · have hx : gx k g = 0 ∨ gx k g = 1 := by
      unfold gx; rw [if_pos h]; split
      · exact .inl rfl
      · exact .inr rfl
    have hk : k = 1 ∨ k = 2 ∨ k = 3 := by omega
    rcases hk with rfl | rfl | rfl
    · rcases hx with hx | hx
      · exact tells_k1_0 l t g a b hl e w hW hE hF hx
      · exact tells_k1_1 l t g a b hl e w hW hE hF hx
    · rcases hx with hx | hx
      · exact tells_k2_0 l t g a b hl e w hW hE hF hx
      · exact tells_k2_1 l t g a b hl e w hW hE hF hx
    · rcases hx with hx | hx
      · exact tells_k3_0 l t g a b hl e w hW hE hF hx
      · exact tells_k3_1 l t g a b hl e w hW hE hF hx
  · have hx : gx k g = 14 := by unfold gx; rw [if_neg h]
    by_cases h1 : k < 0
    · exact tells_low l t g a b k hl e w hW hE hF h1 hx
    by_cases h2 : 3 < k
    · exact tells_high l t g a b k hl e w hW hE hF h2 hx
    obtain rfl : k = 0 := by omega
    exact tells_k0 l t g a b hl e w hW hE hF hx
end Go.Proofs.YthnihnnonjodjaaDoor.choose
