/- TableFunction: the law, of every argument. -/
import Derived.Test.YtlgjmnckdjkngaaDoorTableFun
namespace Go.Proofs.YtlgjmnckdjkngaaDoor.table
open Go.ChangeShapes Go.WideShapes Go.ChangeAt Go.RowKit Go.Shelf swar under trap meter group probe lens tail call

theorem fun_law (a : String → Addr) (g : Int) (s1 s2 : Option Addr) (la ca lb cb : Nat) (hz : Nat → Nat) (az : Nat → Ac) (w : World) (hw : Base a w) (hH : HashAt s1 la w hz) (hA : ActAt s2 lb w az) :
    Calls Tryd.prog 4 #[.int .i64 g, .slice s1 la ca, .slice s2 lb cb] w fun e w' => e = .returned (.bool true) ∧ Below w.heap.size w w' := by
  by_cases hc : la < 1 ∨ 100 < la ∨ 150 < lb
  · exact fun_many a g s1 s2 la ca lb cb hc w hw
  · by_cases hg : ∃ k : Nat, g = k ∧ okN k
    · obtain ⟨n, rfl, hn⟩ := hg
      exact fun_few a n hn s1 s2 la ca lb cb hz az (by omega) (by omega) (by omega) w hw hH hA
    · exact fun_no a g hg s1 s2 la ca lb cb (by omega) (by omega) (by omega) w hw
end Go.Proofs.YtlgjmnckdjkngaaDoor.table
