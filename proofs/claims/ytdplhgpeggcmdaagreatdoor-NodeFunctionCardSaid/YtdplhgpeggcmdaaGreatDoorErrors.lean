/- Errors: several texts in one: plain facts and laws for the walks. No program is named. -/
import Derived.Stop.LaidErr
import Derived.Below
import Derived.Test.YtdplhgpeggcmdaaGreatDoorRows
import Derived.WalkKit
import Derived.ProofKit
import Derived.BigQuiet
import Derived.LaidEql
import Derived.Stop.Asserts
import Derived.RowKitTokens
import Derived.LoopN
import Derived.Outline
import Derived.LoopTactic
import Derived.Stop.IfaceNil
import Derived.RegionTactic
import Derived.Lib.Hide

/-! ### What the listed errors of a row give: each listed variable holds a pointer of its own, no two the same, and the rows behind them are plain. No program is named. -/
namespace Go.Proofs.YtdplhgpeggcmdaaGreatDoor.sent
open Go

abbrev mkSent (nm:String) (x:String × List UInt8):String × DataW Unit:=(x.1,.iface nm (.ptr (.agg [.lit (.string x.2)])))

theorem sents_of {P:Program} {nm:String} {W:World} {ti tp te ts:TypeId} {ms:Array (String × TypeId)} {f:Field}
  (hi:P.underlying ti = some (.interface ms)) (hrow:∀ u,P.typeName? 3 u = some nm → u = tp)
  (hp:P.underlying tp = some (.pointer te)) (he:P.underlying te = some (.struct #[f])) (hft:f.type = ts) (hfo:f.offset = 0) (hs:P.underlying ts = some .string) (hc:P.cellsOf te = 1) (hcs:P.cellsOf ts = 1) :
  ∀ (L:List (String × List UInt8)) (ps:List MemPlace),DataW.LaidVars P W (L.map (mkSent nm)) ps → ps.Nodup →
   (∀ b off,MemPlace.cell b off ∈ ps → (∃ c t,W.heap[b]? = some (.cells c t (0,0))) ∧ ∀ u v,W.cell? ⟨b,off,none⟩ = some (.iface u v) → Value.okWide P W .any 0 u v) →
   (∀ x ∈ L,(P.globalNamed x.1).bind (fun g => (P.globals[g]?).map (·.type)) = some ti) → (L.map Prod.fst).Nodup →
   ∃ a:String → Addr,(∀ x ∈ L,MemPlace.cell (a x.1).block (a x.1).off ∈ ps ∧ (∃ g,P.globalNamed x.1 = some g ∧ W.cell? ⟨g,0,none⟩ = some (.iface tp (.pointer (some (a x.1))))) ∧ (∃ c t,W.heap[(a x.1).block]? = some (.cells c t (0,0)))) ∧
    ∀ x ∈ L,∀ y ∈ L,a x.1 = a y.1 → x.1 = y.1
 | [],_,_,_,_,_,_ => ⟨fun _ => ⟨0,0,none⟩,fun _ h => (by cases h),fun _ h => (by cases h)⟩
 | x :: L,ps,hl,hnd,hrows,hty,hn => by
  obtain ⟨g,t,cs,fu,p,q,hg,ht,hv,hd,hr,e⟩:=hl
  subst e
  have htx:=hty x (by simp)
  simp only [hg,Option.bind_some] at htx
  obtain rfl:=Option.some.inj (htx.symm.trans ht)
  obtain ⟨cs⟩:=cs
  have ok0:∀ u v,cs = [.iface u v] → Value.okWide P W .any 0 u v:=fun u v e => by
   subst e
   exact (hrows g 0 (by simp [MemPlace.row])).2 u v (by simpa using World.var?_cell hg hv 0)
  obtain ⟨a0,s0,rfl,hc0,hs0,hz0,rfl⟩:=errorString_of_trod hi hrow hp he hft hfo hs hc hcs hd ok0
  have hb0:=(hrows a0.block a0.off (by simp [MemPlace.row])).1
  have hcell:W.cell? ⟨g,0,none⟩ = some (.iface tp (.pointer (some a0))):=by simpa using World.var?_cell hg hv 0
  rw [List.nodup_append] at hnd
  obtain ⟨hnd1,hnd2,hnd3⟩:=hnd
  obtain ⟨a,ha,hinj⟩:=sents_of hi hrow hp he hft hfo hs hc hcs L q hr hnd2 (fun b off h => hrows b off (List.mem_append_right _ h)) (fun y hy => hty y (List.mem_cons_of_mem _ hy)) (List.nodup_cons.1 hn).2
  have hx:∀ y ∈ L,y.1 ≠ x.1:=fun y hy e => (List.nodup_cons.1 hn).1 (e ▸ List.mem_map_of_mem hy)
  have hne:∀ y ∈ L,a y.1 ≠ a0:=fun y hy e => by
   have h1:=(ha y hy).1
   rw [e] at h1
   exact hnd3 _ (List.mem_append_right _ (by simp [MemPlace.row])) _ h1 rfl
  refine ⟨fun n => if n = x.1 then a0 else a n,fun y hy => ?_,fun y hy z hz => ?_⟩
  ·rcases List.mem_cons.1 hy with rfl | hy
   ·simp only [if_true]
    exact ⟨List.mem_append_left _ (List.mem_append_right _ (by simp [MemPlace.row])),⟨g,hg,hcell⟩,hb0⟩
   ·simp only [if_neg (hx y hy)]
    exact ⟨List.mem_append_right _ (ha y hy).1,(ha y hy).2⟩
  ·rcases List.mem_cons.1 hy with hy0 | hy1
   ·rcases List.mem_cons.1 hz with hz0 | hz1
    ·intro _; rw [hy0,hz0]
    ·rw [hy0]
     simp only [if_true,if_neg (hx z hz1)]
     intro e; exact absurd e.symm (hne z hz1)
   ·rcases List.mem_cons.1 hz with hz0 | hz1
    ·rw [hz0]
     simp only [if_true,if_neg (hx y hy1)]
     intro e; exact absurd e (hne y hy1)
    ·simp only [if_neg (hx y hy1),if_neg (hx z hz1)]
     exact hinj y hy1 z hz1

theorem sents {P:Program} {nm:String} {W:World} {ti tp te ts:TypeId} {ms:Array (String × TypeId)} {f:Field}
  (hi:P.underlying ti = some (.interface ms)) (hrow:∀ u,P.typeName? 3 u = some nm → u = tp)
  (hp:P.underlying tp = some (.pointer te)) (he:P.underlying te = some (.struct #[f])) (hft:f.type = ts) (hfo:f.offset = 0) (hs:P.underlying ts = some .string) (hc:P.cellsOf te = 1) (hcs:P.cellsOf ts = 1)
  (L:List (String × List UInt8)) (h:laidMet P (L.map (mkSent nm)) W) (hty:∀ x ∈ L,(P.globalNamed x.1).bind (fun g => (P.globals[g]?).map (·.type)) = some ti) (hn:(L.map Prod.fst).Nodup) :
  ∃ a:String → Addr,(∀ n ∈ L.map Prod.fst,(∃ g,P.globalNamed n = some g ∧ W.cell? ⟨g,0,none⟩ = some (.iface tp (.pointer (some (a n))))) ∧ (∃ c t,W.heap[(a n).block]? = some (.cells c t (0,0)))) ∧
   ∀ n ∈ L.map Prod.fst,∀ m ∈ L.map Prod.fst,a n = a m → n = m:=by
 obtain ⟨ps,hl,hnd,hrows⟩:=h
 obtain ⟨a,h1,h2⟩:=sents_of hi hrow hp he hft hfo hs hc hcs L ps hl hnd hrows hty hn
 refine ⟨a,fun n hn => ?_,fun n hn m hm => ?_⟩
 ·obtain ⟨x,hx,rfl⟩:=List.mem_map.1 hn
  exact (h1 x hx).2
 ·obtain ⟨x,hx,rfl⟩:=List.mem_map.1 hn
  obtain ⟨y,hy,rfl⟩:=List.mem_map.1 hm
  exact h2 x hx y hy
end Go.Proofs.YtdplhgpeggcmdaaGreatDoor.sent

/-! ### The errors of package api as the program finds them: errors.Is of one and another, and their numbers by the document's table (amblernum.Num). -/
namespace Go.Proofs.YtdplhgpeggcmdaaGreatDoor.errs
open Go.RowKit Go.Extern.Stop Go.Stop Go.Extern

/-- the value of the error that lies at a place -/
abbrev errV (x:Addr):Value:=.iface 268 (.pointer (some x))

/-! ### closed facts: what errors.Is asks of such a target -/
def cmpOf : Array Value → Sem Value := Extern.ReflectliteType.method fun t => do Go.Extern.Rtype.noPackHeld "Comparable" t; pure (.bool (← typeInfo t).comparable)
/-- the errors' variables by their numbers, from 1 on -/
def names : List String := ["ambler/api.ErrRange", "ambler/api.ErrFull", "ambler/api.ErrForm", "ambler/api.ErrNone", "ambler/api.ErrState", "ambler/api.ErrBadIter", "ambler/api.ErrTooMany", "ambler/api.ErrHash", "ambler/api.ErrLong", "ambler/api.ErrBroken", "ambler/api.ErrLimit", "ambler/api.ErrEmpty", "ambler/api.ErrNumber", "ambler/api.ErrKind", "ambler/api.ErrName", "ambler/api.ErrDup"]
/-- the listed errors lie in their variables, each at a place of its own -/
structure ErrsOk (ns:List String) (a:String → Addr) (w:World):Prop where
 cell:∀ n ∈ ns,∃ g,Tryz.prog.globalNamed n = some g ∧ w.cell? ⟨g,0,none⟩ = some (errV (a n))
 row:∀ n ∈ ns,∃ c t,w.heap[(a n).block]? = some (.cells c t (0,0))
 ne:∀ n ∈ ns,∀ m ∈ ns,a n = a m → n = m
theorem ErrsOk.at {ns:List String} {a:String → Addr} {w:World} (h:ErrsOk ns a w) {n:String} {g:Nat} (hg:Tryz.prog.globalNamed n = some g) (hn:n ∈ ns):w.cell? ⟨g,0,none⟩ = some (errV (a n)):=by
 obtain ⟨g',hg',hc⟩:=h.cell n hn
 obtain rfl:=Option.some.inj (hg.symm.trans hg')
 exact hc
end Go.Proofs.YtdplhgpeggcmdaaGreatDoor.errs

/-! ### The errors' numbers: amblernum's list, and Num. -/
namespace Go.Proofs.YtdplhgpeggcmdaaGreatDoor.errs
open Go.RowKit

theorem gErrRange : Tryz.prog.globalNamed "ambler/api.ErrRange" = some 0 := by kernel_rfl
theorem gErrFull : Tryz.prog.globalNamed "ambler/api.ErrFull" = some 1 := by kernel_rfl
theorem gErrNone : Tryz.prog.globalNamed "ambler/api.ErrNone" = some 6 := by kernel_rfl
theorem gErrState : Tryz.prog.globalNamed "ambler/api.ErrState" = some 2 := by kernel_rfl
theorem gErrBroken : Tryz.prog.globalNamed "ambler/api.ErrBroken" = some 4 := by kernel_rfl
theorem gErrLimit : Tryz.prog.globalNamed "ambler/api.ErrLimit" = some 11 := by kernel_rfl
theorem gErrKind : Tryz.prog.globalNamed "ambler/api.ErrKind" = some 13 := by kernel_rfl
theorem gErrDup : Tryz.prog.globalNamed "ambler/api.ErrDup" = some 15 := by kernel_rfl
/-- the error of a number less one -/
def nm (i : Nat) : String := names.getD i ""
end Go.Proofs.YtdplhgpeggcmdaaGreatDoor.errs
