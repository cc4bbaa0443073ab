/- LaidParts: facts and laws for the walks. -/
import Derived.Test.YtdplhgpeggcmdaaGreatDoorErrC
import Derived.MakeChecks
import Derived.Lib.LaidTab
import Derived.OpenShut
import Derived.Deep.Fields
namespace Go.Proofs.YtdplhgpeggcmdaaGreatDoor
set_option linter.unusedSimpArgs false
set_option linter.unusedVariables false
namespace errs
open Go.ChangeShapes Go.WideShapes Go.RowKit Go.ChangeAt
theorem star : "*" ++ "errors.errorString" = "*errors.errorString" := by decide
theorem rowE (u : TypeId) (h : Tryz.prog.typeName? 3 u = some "*errors.errorString") : u = 268 :=
 typeName_ptr_named (nm := "errors.errorString") (by rw [star]; kernel_rfl) (by kernel_rfl) (by decide) u (by rw [star]; exact h)
theorem cellsE:Tryz.prog.cellsOf 293=1:=by kernel_rfl
theorem cellsS:Tryz.prog.cellsOf 9=1:=by kernel_rfl
def textOf:DataW Unit→List UInt8
 | .iface _ (.ptr (.agg [.lit (.string s)]))=>s
 | _=>[]
def pairs(l:List (String×DataW Unit)):List (String×List UInt8):=l.map fun x=>(x.1,textOf x.2)
theorem ofLaid {l : List (String × DataW Unit)} {W : World} (h : laidMetH Tryz.prog l W) (hp : (l.all fun x => x.2.handleName?.isNone) = true) (hl : (pairs l).map (sent.mkSent "*errors.errorString") = l)
  (hty:((pairs l).all fun x=>decide ((Tryz.prog.globalNamed x.1).bind (fun g=>(Tryz.prog.globals[g]?).map (·.type))=some 27))=true) (hn:((pairs l).map Prod.fst).Nodup) (ns:List String) (hns:∀n∈ns,n∈(pairs l).map Prod.fst) :
  ∃a,ErrsOk ns a W:=by
 rw [MakeChecks.laidMetH_plain _ _ _ hp] at h;rw [←hl] at h;obtain⟨a,h1,h2⟩:=sent.sents Tryz.underlying27 rowE Tryz.underlying268 Tryz.underlying293 rfl rfl Tryz.underlying9 cellsE cellsS (pairs l) h (fun x hx=>of_decide_eq_true (List.all_eq_true.1 hty x hx)) hn;exact⟨a,fun n hn=>(h1 n (hns n hn)).1,fun n hn=>(h1 n (hns n hn)).2,fun n hn m hm=>h2 n (hns n hn) m (hns m hm)⟩
theorem plainOf{P:Program}{l:List (String×DataW Unit)}{W:World}(h:laidMetH P l W)(hp:(l.all fun x=>x.2.handleName?.isNone)=true):laidMet P l W:=by
 rwa [MakeChecks.laidMetH_plain _ _ _ hp] at h
end errs
namespace opens
open Go.ChangeShapes Go.WideShapes Go.ChangeAt Go.RowKit
variable {H:Type} {enc:TypeId×Value→H} {P:Program} {w:World} {base:Nat} {spare:Nat→Bool} {held:Bool}
theorem drop_one(cs:List Value)(i:Nat)(h:i<cs.length):(cs.drop (i*1)).take 1=[cs[i]]:=by
 rw [Nat.mul_one,List.drop_eq_getElem_cons h];rfl
theorem open_ints_arg{r:Reach}{b0:Nat}{t e:TypeId}{k:IntKind}{v:Value}{d:DataW H}{p:List MemPlace}(ht:P.underlying t=some (.slice e))(he:P.underlying e=some (.int k))(hce:P.cellsOf e=1)
  (hv:Value.okWide P w r b0 t v)(h:DataW.Trod enc P w base spare held t v d p):∃(s:Option Addr) (len cap:Nat) (zs:Nat→Int),v=.slice s len cap∧∀i,i<len→∃x,s=some x∧w.cell? (x.add i)=some (.int k (zs i))∧(Lit.int k (zs i)).wf=true:=by
 obtain⟨s,len,cap,rfl⟩:∃s len cap,v=.slice s len cap:=by
  cases v with
  | slice s len cap=>exact⟨s,len,cap,rfl⟩
  | agg cs=>simp [Value.okWide,Cell.okWide,Cell.ok,ht] at hv
  | _=>simp [Value.okWide,Cell.okWide,Cell.ok,ht] at hv
 obtain⟨fuel,hf⟩:=h;have hcs:(Value.slice s len cap).cells.toList=[.slice s len cap]:=rfl;rw [hcs] at hf
 rcases Go.ChangeShapes.open_ints ht he hce hf with⟨h0,_⟩|⟨a,l,c,zs,h0,_,_,_,hz,_,hc,hw⟩
 ·simp only [List.cons.injEq,Value.slice.injEq,and_true] at h0
  obtain⟨rfl,rfl,rfl⟩:=h0;exact⟨none,0,0,fun _=>0,rfl,fun i hi=>by omega⟩
 ·simp only [List.cons.injEq,Value.slice.injEq,and_true] at h0
  obtain⟨rfl,rfl,rfl⟩:=h0;have hl:len≤zs.length:=by rw [hz];split <;> omega
  refine⟨some a,len,cap,fun i=>zs.getD i 0,rfl,fun i hi=>⟨a,rfl,hc i (by omega),hw _ ?_⟩⟩;show zs.getD i 0∈zs;rw [List.getD_eq_getElem?_getD,List.getElem?_eq_getElem (by omega)];exact List.getElem_mem _
theorem open_structs_arg{r:Reach}{b0:Nat}{t e:TypeId}{fs:Array Field}{k:IntKind}{v:Value}{d:DataW H}{p:List MemPlace}(ht:P.underlying t=some (.slice e))(he:P.underlying e=some (.struct fs))
  (hf:∀(i:Nat) (f:Field),fs[i]?=some f→P.underlying f.type=some (.int k)∧f.offset=i∧P.cellsOf f.type=1)(hce:P.cellsOf e=fs.size)
  (hv:Value.okWide P w r b0 t v)(h:DataW.Trod enc P w base spare held t v d p) :
  ∃(s:Option Addr) (len cap:Nat) (z:Nat→Nat→Int),v=.slice s len cap∧∀i,i<len→∀j,j<fs.size→∃x,s=some x∧w.cell? (x.add (i*fs.size+j))=some (.int k (z i j))∧(Lit.int k (z i j)).wf=true:=by
 obtain⟨s,len,cap,rfl⟩:∃s len cap,v=.slice s len cap:=by
  cases v with
  | slice s len cap=>exact⟨s,len,cap,rfl⟩
  | agg cs=>simp [Value.okWide,Cell.okWide,Cell.ok,ht] at hv
  | _=>simp [Value.okWide,Cell.okWide,Cell.ok,ht] at hv
 obtain⟨fuel,hfu⟩:=h;have hcs:(Value.slice s len cap).cells.toList=[.slice s len cap]:=rfl;rw [hcs] at hfu
 rcases Go.Deep.open_slice ht hfu with⟨h0,_⟩|⟨a,l,c,m,n,D,Pl,h0,_,_,_,hm,_,hi⟩
 ·simp only [List.cons.injEq,Value.slice.injEq,and_true] at h0
  obtain⟨rfl,rfl,rfl⟩:=h0;exact⟨none,0,0,fun _ _=>0,rfl,fun i h=>by omega⟩
 ·simp only [List.cons.injEq,Value.slice.injEq,and_true] at h0
  obtain⟨rfl,rfl,rfl⟩:=h0;have hl:len≤m:=by rw [hm];split <;> omega
  have hone:∀i j,i<len∧j<fs.size→∃z:Int,w.cell? (a.add (i*fs.size+j))=some (.int k z)∧(Lit.int k z).wf=true:=by
   intro i j ⟨hil,hjl⟩;obtain⟨cs',hc,ht'⟩:=hi i (Nat.lt_of_lt_of_le hil hl);rw [hce] at hc;obtain⟨ys,_,_,_,hlen,hyl,hfld⟩:=DataW.trod_struct he ht';obtain⟨_,hcl,hat⟩:=World.cells?_some hc;obtain⟨hu,ho,hk1⟩:=hf j fs[j] (by simp [hjl]);have hjc:j<cs'.length:=by omega
   have h1:=hfld j fs[j] (by simp [hjl]);obtain⟨y,hy⟩:∃y,ys[j]?=some y:=⟨ys[j]'(by omega),List.getElem?_eq_getElem (by omega)⟩;have e2:(cs'.drop j).take 1=[cs'[j]]:=by have:=drop_one cs' j hjc;rwa [Nat.mul_one] at this
   rw [hy,ho,hk1,e2] at h1;obtain⟨z,ez,_,wz⟩:=DataW.trod_int hu h1;simp only [List.cons.injEq,and_true] at ez;have h2:=hat j hjl;rw [Go.Deep.add_add,List.getElem?_eq_getElem hjc,ez] at h2;exact⟨z,h2,wz⟩
  refine⟨some a,len,cap,fun i j=>if hij:i<len∧j<fs.size then Classical.choose (hone i j hij) else 0,rfl,fun i hil j hjl=>⟨a,rfl, ?_⟩⟩;simp only [dif_pos (And.intro hil hjl)];exact Classical.choose_spec (hone i j ⟨hil,hjl⟩)
variable {H:Type} {enc:TypeId×Value→H} {P:Program} {w:World} {base:Nat} {spare:Nat→Bool} {held:Bool}
end opens
end Go.Proofs.YtdplhgpeggcmdaaGreatDoor
