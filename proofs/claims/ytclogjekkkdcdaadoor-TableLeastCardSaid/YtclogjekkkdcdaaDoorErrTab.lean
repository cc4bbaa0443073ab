/- From what a row lists to where the errors lie, behind a table that it lists first. -/
import Derived.Test.YtclogjekkkdcdaaDoorErrLaid
import Derived.Lib.LaidTab
namespace Go.Proofs.YtclogjekkkdcdaaDoor.errs
open Go.ChangeShapes Go.WideShapes Go.RowKit Go.ChangeAt
theorem laid_tail {P : Program} {x : String × DataW Unit} {r : List (String × DataW Unit)} {W : World} (h : laidMet P (x :: r) W) : laidMet P r W := by
  obtain ⟨ps, ⟨g, t, cs, fuel, p, q, _, _, _, _, hq, rfl⟩, hn, hc⟩ := h
  exact ⟨q, hq, (List.nodup_append.1 hn).2.1, fun b off hb => hc b off (List.mem_append_right _ hb)⟩
theorem plainOf {P : Program} {l : List (String × DataW Unit)} {W : World} (h : laidMetH P l W) (hp : (l.all fun x => x.2.handleName?.isNone) = true) : laidMet P l W := by
  rwa [MakeChecks.laidMetH_plain _ _ _ hp] at h
theorem ofTab {x : String × DataW Unit} {l : List (String × DataW Unit)} {W : World} (h : laidMetH Tryd.prog (x :: l) W) (hx : ((x :: l).all fun x => x.2.handleName?.isNone) = true) (hp : (l.all fun x => x.2.handleName?.isNone) = true) (hl : (pairs l).map (sent.mkSent "*errors.errorString") = l)
    (hty : ((pairs l).all fun x => decide ((Tryd.prog.globalNamed x.1).bind (fun g => (Tryd.prog.globals[g]?).map (·.type)) = some 26)) = true) (hn : ((pairs l).map Prod.fst).Nodup) (ns : List String) (hns : ∀ n ∈ ns, n ∈ (pairs l).map Prod.fst) :
    ∃ a, ErrsOk ns a W :=
  ofLaid (by rw [MakeChecks.laidMetH_plain _ _ _ hp]; exact laid_tail (plainOf h hx)) hp hl hty hn ns hns
end Go.Proofs.YtclogjekkkdcdaaDoor.errs
