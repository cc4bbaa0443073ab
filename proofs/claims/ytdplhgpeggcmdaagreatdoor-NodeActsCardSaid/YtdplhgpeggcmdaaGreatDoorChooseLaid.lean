/- From what a row lists to choose's variables and errors. -/
import Derived.Test.YtdplhgpeggcmdaaGreatDoorChooseA
import Derived.Test.YtdplhgpeggcmdaaGreatDoorLaidRow
import Derived.Test.YtdplhgpeggcmdaaGreatDoorLaidParts
import Derived.LaidSub
namespace Go.Proofs.YtdplhgpeggcmdaaGreatDoor
set_option linter.unusedSimpArgs false
set_option linter.unusedVariables false
open Go.ChangeShapes Go.WideShapes Go.RowKit Go.ChangeAt Go.Lib
namespace choose
theorem gFresh : Tryz.prog.globalNamed "ambler/choose.fresh" = some 16 := by kernel_rfl
theorem tFresh:(Tryz.prog.globals[16]?).map (·.type)=some 193:=by kernel_rfl
theorem cellsFresh:Tryz.prog.cellsOf 192=2:=by kernel_rfl
theorem cellsInt:Tryz.prog.cellsOf 3=1:=by kernel_rfl
theorem freshOk_of {l : List (String × DataW Unit)} {W : World} (h : laidMetH Tryz.prog l W) (hp : (l.all fun x => x.2.handleName?.isNone) = true) (hm : ("ambler/choose.fresh", Rows.laid_ambler_choose_fresh) ∈ l) : FreshOk W := by
 have hr:=laidrow.reads_of h hp hm
 have H:=fun i hi zs hs j hj z hz=>laidrow.structs_at (m:=4) (c:=2) (k:=.i64) [[0,0],[1,1],[2,1],[1,2]] hr gFresh tFresh Tryz.underlying193 Tryz.underlying192 (fun i f hf=>by
   match i,hf with
   | 0,hj=>simp at hj;subst hj;exact⟨Tryz.underlying3,rfl,cellsInt⟩
   | 1,hj=>simp at hj;subst hj;exact⟨Tryz.underlying3,rfl,cellsInt⟩
   | j+2,hj=>simp at hj) cellsFresh rfl i hi zs hs j hj z hz
 exact⟨H 1 (by decide) _ rfl 0 (by decide) _ rfl,H 1 (by decide) _ rfl 1 (by decide) _ rfl,H 2 (by decide) _ rfl 0 (by decide) _ rfl,H 2 (by decide) _ rfl 1 (by decide) _ rfl,H 3 (by decide) _ rfl 0 (by decide) _ rfl,H 3 (by decide) _ rfl 1 (by decide) _ rfl⟩
def keepE(x:String×DataW Unit):Bool:=errs.names.contains x.1
theorem kr_of {a : String → Addr} {W : World} {ns : List String} (h : errs.ErrsOk ns a W) (h1 : "ambler/api.ErrKind" ∈ ns) (h2 : "ambler/api.ErrRange" ∈ ns) : KR a W := ⟨h.at errs.gErrKind h1, h.at errs.gErrRange h2⟩
end choose
end Go.Proofs.YtdplhgpeggcmdaaGreatDoor
