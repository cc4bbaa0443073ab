/- SoundA: facts and laws for the walks. -/
import Derived.Test.YtdplhgpeggcmdaaGreatDoorTabRs
import Derived.Lib.Bytealg
namespace Go.Proofs.YtdplhgpeggcmdaaGreatDoor
set_option linter.unusedSimpArgs false
set_option linter.unusedVariables false
namespace sound
open group probe swar table
def lks(t:Tb)(l:List Sl):List Nat:=l.map fun e=>looks t e.key e.hash
theorem fulls_count(g:Gp):(fulls g).length=count 3 g:=by
 have e:∀(p:Nat→Bool) (l:List Nat),(l.filter p).length=(l.map fun k=>(p k).toNat).sum:=by
  intro p l
  induction l with
  | nil=>rfl
  | cons k l ih =>
   rw [List.map_cons,List.sum_cons];cases hp:p k
   ·rw [List.filter_cons_of_neg (by rw [hp];decide),ih];simp
   ·rw [List.filter_cons_of_pos hp,List.length_cons,ih];simp;omega
 unfold fulls;rw [e];show (is 3 g 0).toNat+((is 3 g 1).toNat+((is 3 g 2).toNat+((is 3 g 3).toNat+((is 3 g 4).toNat+((is 3 g 5).toNat+((is 3 g 6).toNat+((is 3 g 7).toNat+0)))))))=count 3 g;unfold count cntB;omega
theorem ents_count(t:Tb):∀k,(ents t k).length=sumN k fun i=>count 3 (t.gs i)
 | 0=>rfl
 | k+1=>by
  rw [ents_succ,List.length_append,ents_count t k];simp only [sumN];rw [show (entsG (t.gs k)).length=count 3 (t.gs k) from by unfold entsG;rw [List.length_map,fulls_count]]
theorem ents_length(t:Tb):(ents t t.n).length=cntT 3 t:=ents_count t t.n
theorem ents_found{H:Nat→Nat}{t:Tb}(h:Inv H t){e:Sl}(he:e∈ents t t.n):isThere t e.key e.hash=true∧entOf t e.key e.hash=e:=by
 obtain⟨i,k,hi,hk,h3,rfl⟩:=mem_ents.1 he;have hs:Stands t (t.gs i k).key i k:=⟨hi,hk,h3,rfl⟩;have hh:=h.hash _ _ _ hs;obtain⟨h1,h2⟩:=found h hs;rw [hh];have ht:isThere t (t.gs i k).key (H (t.gs i k).key)=true:=by unfold isThere;rw [h2];simp
 refine⟨ht, ?_⟩;unfold entOf;rw [if_pos ht,h1,h2];rfl
end sound
namespace sound
open Go.ChangeShapes Go.WideShapes Go.ChangeAt Go.RowKit Go.Shelf swar under trap meter group probe lens tail call table
attribute [local go_sem] Oper.semAt_some stage.pureUpon move.stepUpon
section
variable {X a b c d e f:Nat} {W W':World}
end
section
variable {w:World} {X:Nat} {v:Value} {l:List ByteArray} {a b c d:Nat} {W W':World}
end
end sound
namespace sound
open Go.ChangeShapes Go.WideShapes Go.ChangeAt Go.RowKit Go.Shelf swar under trap meter group probe lens tail call table
attribute [local go_sem] Oper.semAt_some
structure KpD(d:List Nat)(W W':World):Prop where
 size:W.heap.size≤W'.heap.size
 same:∀(k:Nat) (o:Obj),k∉d→W.heap[k]?=some o→o.isCells=true→W'.heap[k]?=some o
theorem KpD.of{d:List Nat}{W W':World}(h:Past d W W'):KpD d W W':=⟨h.size,fun k o hk ho _=>(h.block k (Array.getElem?_eq_some_iff.1 ho).1 hk).trans ho⟩
theorem cells_of{W:World}{p:Addr}{v:Value}(h:W.cell? p=some v):∃o,W.heap[p.block]?=some o∧o.isCells=true:=by
 unfold World.cell? at h;cases ho:W.heap[p.block]? with
 | none=>rw [ho] at h;simp at h
 | some o =>
  refine⟨o,rfl, ?_⟩;rw [ho] at h;cases o <;> first|rfl|(simp at h)
theorem KpD.block{d:List Nat}{W W':World}(h:KpD d W W'){p:Addr}{v:Value}(hc:W.cell? p=some v)(hd:p.block∉d):W'.heap[p.block]?=W.heap[p.block]?:=by
 obtain⟨o,h1,h2⟩:=cells_of hc;exact (h.same p.block o hd h1 h2).trans h1.symm
theorem KpD.cell{d:List Nat}{W W':World}(h:KpD d W W'){p:Addr}{v:Value}(hc:W.cell? p=some v)(hd:p.block∉d):W'.cell? p=some v:=(World.cell?_of_block (w:=W) (h.block hc hd)).trans hc
theorem list_kp{b:Nat}{o:Option Addr}{l:List Sl}{W W':World}{d:List Nat}(h:ListAt b o l W)(hk:KpD d W W')(hd:∀x∈d,x<b):ListAt b o l W':=fun j hj=>by
 obtain⟨x,e,hb,h1,h2,h3⟩:=h j hj;have hn:(x.add (j*3)).block∉d:=fun e=>by have:=hd _ e;omega
 exact⟨x,e,hb,hk.cell h1 hn,hk.cell h2 hn,hk.cell h3 hn⟩
end sound
end Go.Proofs.YtdplhgpeggcmdaaGreatDoor
