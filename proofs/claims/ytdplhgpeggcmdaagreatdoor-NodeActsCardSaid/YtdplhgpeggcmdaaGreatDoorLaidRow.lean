/- Variables that a row lists: an array of strings, an array of structs of integers: what each cell holds. No program is named. -/
import Derived.Test.YtdplhgpeggcmdaaGreatDoorRows
import Derived.Lib.LaidU8
import Derived.MakeChecks
namespace Go.Proofs.YtdplhgpeggcmdaaGreatDoor
set_option linter.unusedSimpArgs false
set_option linter.unusedVariables false
open Go.Lib
namespace laidrow
theorem reads_of{P:Program}{l:List (String×DataW Unit)}{W:World}(h:laidMetH P l W)(hp:(l.all fun x=>x.2.handleName?.isNone)=true){n:String}{d:DataW Unit}(hm:(n,d)∈l):VarReads P W n d:=by
 rw [MakeChecks.laidMetH_plain _ _ _ hp] at h;exact laidMet.reads h hm
theorem structs_at{P:Program}{W:World}{n:String}{g:Nat}{t e:TypeId}{m c:Nat}{fs:Array Field}{k:IntKind}(L:List (List Int))
  (h:VarReads P W n (.agg (L.map fun zs=>.agg (zs.map fun z=>.lit (.int k z)))))(hg:P.globalNamed n=some g)(hty:(P.globals[g]?).map (·.type)=some t)
  (ht:P.underlying t=some (.array m e))(he:P.underlying e=some (.struct fs))
  (hf:∀(i:Nat) (f:Field),fs[i]?=some f→P.underlying f.type=some (.int k)∧f.offset=i∧P.cellsOf f.type=1)(hce:P.cellsOf e=c)(hc:c=fs.size)
  (i:Nat)(hi:i<m)(zs:List Int)(hs:L[i]?=some zs)(j:Nat)(hj:j<c)(z:Int)(hz:zs[j]?=some z) :
  W.cell? ⟨g,i*c+j,none⟩=some (.int k z):=by
 obtain⟨g',t',cs,fuel,p,hg',hty',hvar,hd⟩:=h;obtain rfl:=Option.some.inj (hg.symm.trans hg');obtain rfl:=Option.some.inj (hty.symm.trans hty');obtain⟨fuel',d,q,hdi,hf'⟩:=array_elem ht hd i hi;simp only [List.getElem?_map,hs,Option.map_some,Option.some.injEq] at hdi;subst hdi;rw [hce] at hf';have hcs:=ints_of_struct he hf (hce.trans hc) hf';have e0:=congrArg (·[j]?) hcs;simp only [List.getElem?_take,List.getElem?_drop,if_pos hj,List.getElem?_map,hz,Option.map_some] at e0;rw [World.var?_cell hg hvar (i*c+j),←Array.getElem?_toList];exact e0
end laidrow
end Go.Proofs.YtdplhgpeggcmdaaGreatDoor
