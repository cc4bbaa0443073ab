/- DualFc: facts and laws for the walks. -/
import Derived.Test.YtdplhgpeggcmdaaGreatDoorDualEx
namespace Go.Proofs.YtdplhgpeggcmdaaGreatDoor
set_option linter.unusedSimpArgs false
set_option linter.unusedVariables false
namespace table
open Go.ChangeShapes Go.WideShapes Go.ChangeAt Go.RowKit Go.Shelf swar under trap meter group probe lens tail call
attribute [local go_sem] Oper.semAt_some stage.pureUpon move.stepUpon
structure Rows(Bt Bv la:Nat)(M:Nat→Option Nat)(V:Nat→Nat)(W:World):Prop where
 th:∀k,k<la→W.cell? ⟨Bt,k,none⟩=some (.bool (M k).isSome)
 va:∀k,k<la→W.cell? ⟨Bv,k,none⟩=some (.int .u64 (V k:Nat))
 ft:∀i,W.frozen? ⟨Bt,i,none⟩=false
 fv:∀i,W.frozen? ⟨Bv,i,none⟩=false
 ne:Bt≠Bv
 lt:Bt<W.heap.size
 lv:Bv<W.heap.size
section
variable {Bt Bv la:Nat} {M:Nat→Option Nat} {V:Nat→Nat} {W W':World}
end
section
variable {a:String→Addr} {w:World} {T B Bm Bt Bv la:Nat} {H:Nat→Nat} {t t':Tb} {m m':Mt} {M M':Nat→Option Nat} {V:Nat→Nat} {W W':World}
end
section
variable {a:String→Addr} {w:World} {T B Bm Bt Bv la:Nat} {H:Nat→Nat} {t:Tb} {M:Nat→Option Nat} {V:Nat→Nat} {W W':World}
end
theorem left_bounds{t:Tb}(ht:t.Ok):-1000≤t.left∧t.left≤448:=by
 have hn:=okN_le ht.n;have b1:0≤t.len:=by rw [ht.len];omega
 have b2:0≤t.tombs:=by rw [ht.tombs];omega
 have b3:t.len≤8*t.n:=by rw [ht.len];have:=cntT_le 3 t;omega
 have b4:t.tombs≤8*t.n:=by rw [ht.tombs];have:=cntT_le 2 t;omega
 unfold Tb.left;omega
end table
namespace dual
open Go.ChangeShapes Go.WideShapes Go.ChangeAt Go.RowKit Go.Shelf swar under trap meter group probe lens tail call table evac
def kT(t0:Tb)(n1:Nat):Nat→Tb:=fun i=>if i=0 then t0 else Tb.new n1
theorem kT_far{t0:Tb}{n1 j:Nat}(hj:1≤j):kT t0 n1 j=Tb.new n1:=if_neg (by omega)
def Vals(F:Nat→Option Nat)(V:Nat→Nat):Prop:=∀k v,F k=some v→V k=v
section
variable {a:String→Addr} {w1:World} {H:Nat→Nat} {la T B n0 n1 Bt Bv k:Nat} {t0:Tb} {F G:Nat→Option Nat} {V:Nat→Nat} {W W':World}
theorem one_set{X i:Nat}{u:Value}:Past [X] W (W.setCell ⟨X,i,none⟩ u):=(Past.refl [X] W).store (p:=⟨X,i,none⟩) (.inl (by simp)) u
end
section
variable {a:String→Addr} {w1:World} {H:Nat→Nat} {la:Nat} {Y:Lay} {D n1 d:Nat} {dp:Int} {q c:Nat} {t:Nat→Tb} {F:Nat→Option Nat} {fp:List Nat} {Bm Bt Bv p v:Nat} {G:Nat→Option Nat} {V:Nat→Nat} {W W':World}
end
end dual
namespace dual
open Go.ChangeShapes Go.WideShapes Go.ChangeAt Go.RowKit Go.Shelf swar under trap meter group probe lens tail call table evac
attribute [local go_sem] Oper.semAt_some stage.pureUpon move.stepUpon
end dual
namespace dual
open Go.ChangeShapes Go.WideShapes Go.ChangeAt Go.RowKit Go.Shelf swar under trap meter group probe lens tail call table evac
section
variable {a:String→Addr} {w1:World} {H:Nat→Nat} {la:Nat} {Y:Lay} {D n1 d:Nat} {dp:Int} {q c:Nat} {t:Nat→Tb} {F:Nat→Option Nat} {fp:List Nat} {Bm Bt Bv p v:Nat} {V:Nat→Nat} {key:Nat} {W W':World}
end
end dual
end Go.Proofs.YtdplhgpeggcmdaaGreatDoor
