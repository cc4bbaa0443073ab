/- From what a row lists to choose's variables and errors. -/
import Derived.Test.YthnihnnonjodjaaDoorChooseGroups
import Derived.Test.YthnihnnonjodjaaDoorLaidRow
import Derived.Test.YthnihnnonjodjaaDoorLaidParts
import Derived.LaidSub
namespace Go.Proofs.YthnihnnonjodjaaDoor.choose
open Go.ChangeShapes Go.WideShapes Go.RowKit Go.ChangeAt Go.Lib

theorem gWords : Tryd.prog.globalNamed "ambler/choose.words" = some 3 := by kernel_rfl
theorem tWords : (Tryd.prog.globals[3]?).map (·.type) = some 49 := by kernel_rfl
theorem cellsString : Tryd.prog.cellsOf 9 = 1 := by kernel_rfl
theorem wordsOk_of {l : List (String × DataW Unit)} {W : World} (h : laidMetH Tryd.prog l W) (hp : (l.all fun x => x.2.handleName?.isNone) = true) (hm : ("ambler/choose.words", Rows.laid_ambler_choose_words) ∈ l) : WordsOk W := by
  have hr := laidrow.reads_of h hp hm
  have H := fun i hi s hs => laidrow.strings_at (m := 4) [[110, 111, 110, 101], [115, 119, 101, 101, 112], [103, 114, 111, 119], [115, 112, 108, 105, 116]] hr gWords tWords Tryd.underlying49 Tryd.underlying9 cellsString i hi s hs
  exact ⟨H 0 (by decide) _ rfl, H 1 (by decide) _ rfl, H 2 (by decide) _ rfl, H 3 (by decide) _ rfl⟩

theorem gFresh : Tryd.prog.globalNamed "ambler/choose.fresh" = some 1 := by kernel_rfl
theorem tFresh : (Tryd.prog.globals[1]?).map (·.type) = some 43 := by kernel_rfl
theorem cellsFresh : Tryd.prog.cellsOf 42 = 2 := by kernel_rfl
theorem cellsInt : Tryd.prog.cellsOf 3 = 1 := by kernel_rfl
theorem freshOk_of {l : List (String × DataW Unit)} {W : World} (h : laidMetH Tryd.prog l W) (hp : (l.all fun x => x.2.handleName?.isNone) = true) (hm : ("ambler/choose.fresh", Rows.laid_ambler_choose_fresh) ∈ l) : FreshOk W := by
  have hr := laidrow.reads_of h hp hm
  have H := fun i hi zs hs j hj z hz => laidrow.structs_at (m := 4) (c := 2) (k := .i64) [[0, 0], [1, 1], [2, 1], [1, 2]] hr gFresh tFresh Tryd.underlying43 Tryd.underlying42 (fun i f hf => by
      match i, hf with
      | 0, hj => simp at hj; subst hj; exact ⟨Tryd.underlying3, rfl, cellsInt⟩
      | 1, hj => simp at hj; subst hj; exact ⟨Tryd.underlying3, rfl, cellsInt⟩
      | j + 2, hj => simp at hj) cellsFresh rfl i hi zs hs j hj z hz
  exact ⟨H 1 (by decide) _ rfl 0 (by decide) _ rfl, H 1 (by decide) _ rfl 1 (by decide) _ rfl, H 2 (by decide) _ rfl 0 (by decide) _ rfl, H 2 (by decide) _ rfl 1 (by decide) _ rfl, H 3 (by decide) _ rfl 0 (by decide) _ rfl, H 3 (by decide) _ rfl 1 (by decide) _ rfl⟩

/-- the errors of a list -/
def keepE (x : String × DataW Unit) : Bool := errs.names.contains x.1
theorem kr_of {a : String → Addr} {W : World} {ns : List String} (h : errs.ErrsOk ns a W) (h1 : "ambler/api.ErrKind" ∈ ns) (h2 : "ambler/api.ErrRange" ∈ ns) : KR a W := ⟨h.at errs.gErrKind h1, h.at errs.gErrRange h2⟩
end Go.Proofs.YthnihnnonjodjaaDoor.choose
