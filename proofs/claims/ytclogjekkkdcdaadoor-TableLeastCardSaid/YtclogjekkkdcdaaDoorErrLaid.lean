/- From what a row lists to where the errors lie. -/
import Derived.Test.YtclogjekkkdcdaaDoorErrs
import Derived.MakeChecks
namespace Go.Proofs.YtclogjekkkdcdaaDoor.errs
open Go.ChangeShapes Go.WideShapes Go.RowKit Go.ChangeAt
theorem star : "*" ++ "errors.errorString" = "*errors.errorString" := by decide
theorem rowE (u : TypeId) (h : Tryd.prog.typeName? 3 u = some "*errors.errorString") : u = 148 :=
  typeName_ptr_named (nm := "errors.errorString") (by rw [star]; kernel_rfl) (by kernel_rfl) (by decide) u (by rw [star]; exact h)
theorem cellsE : Tryd.prog.cellsOf 173 = 1 := by kernel_rfl
theorem cellsS : Tryd.prog.cellsOf 9 = 1 := by kernel_rfl
def textOf : DataW Unit → List UInt8
  | .iface _ (.ptr (.agg [.lit (.string s)])) => s
  | _ => []
/-- the names and the texts of a list -/
def pairs (l : List (String × DataW Unit)) : List (String × List UInt8) := l.map fun x => (x.1, textOf x.2)
theorem ofLaid {l : List (String × DataW Unit)} {W : World} (h : laidMetH Tryd.prog l W) (hp : (l.all fun x => x.2.handleName?.isNone) = true) (hl : (pairs l).map (sent.mkSent "*errors.errorString") = l)
    (hty : ((pairs l).all fun x => decide ((Tryd.prog.globalNamed x.1).bind (fun g => (Tryd.prog.globals[g]?).map (·.type)) = some 26)) = true) (hn : ((pairs l).map Prod.fst).Nodup) (ns : List String) (hns : ∀ n ∈ ns, n ∈ (pairs l).map Prod.fst) :
    ∃ a, ErrsOk ns a W := by
  rw [MakeChecks.laidMetH_plain _ _ _ hp] at h
  rw [← hl] at h
  obtain ⟨a, h1, h2⟩ := sent.sents Tryd.underlying26 rowE Tryd.underlying148 Tryd.underlying173 rfl rfl Tryd.underlying9 cellsE cellsS (pairs l) h (fun x hx => of_decide_eq_true (List.all_eq_true.1 hty x hx)) hn
  exact ⟨a, fun n hn => (h1 n (hns n hn)).1, fun n hn => (h1 n (hns n hn)).2, fun n hn m hm => h2 n (hns n hn) m (hns m hm)⟩
end Go.Proofs.YtclogjekkkdcdaaDoor.errs
