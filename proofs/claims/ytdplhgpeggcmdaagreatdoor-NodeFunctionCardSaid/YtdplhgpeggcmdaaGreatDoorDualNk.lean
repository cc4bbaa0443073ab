/- DualNk: several texts in one: plain facts and laws for the walks. No program is named. -/
import Derived.Test.YtdplhgpeggcmdaaGreatDoorDualMv
import Derived.Deep.AppendLies
import Derived.LoopTactic
import Derived.BigQuiet

/-! ### dual: New. -/
namespace Go.Proofs.YtdplhgpeggcmdaaGreatDoor.dual
open Go.ChangeShapes Go.WideShapes Go.ChangeAt Go.RowKit Go.Shelf swar under trap meter group probe lens tail call table evac
attribute [local go_sem] Oper.semAt_some stage.pureUpon move.stepUpon
set_option linter.unusedSimpArgs false
set_option linter.unusedVariables false

theorem many_any (k:Int) (w:World):Calls Tryz.prog 118 #[.int .i64 k] w fun e w' => e = .returned (.int .i64 (if k < 0 then 1 else 2)) ∧ w = w':=by
 by_cases h:k < 0
 ·have d1:decide (k < 0) = true:=decide_eq_true h
  rw [if_pos h]
  clear h
  go_enter Tryz.func118,Tryz.ntmps118
  go_wp2
  go_ret
  exact ⟨rfl,rfl⟩
 ·have d1:decide (k < 0) = false:=decide_eq_false h
  rw [if_neg h]
  clear h
  go_enter Tryz.func118,Tryz.ntmps118
  go_wp2
  go_ret
  exact ⟨rfl,rfl⟩
theorem infoBld:(Tryz.prog.info? 198).map (fun i => (i.zero,i.size,i.bytes)) = some (some (.pointer none),1,8):=by kernel_rfl
/-- the builds, as a list's cells -/
def bldV (Q:Nat → Nat) (j:Nat):List Value:=(List.range j).map fun i => .pointer (some ⟨Q (i + 1),0,none⟩)
theorem bldV_up (Q:Nat → Nat) (j x:Nat):bldV (up Q (j + 1) x) (j + 1) = bldV Q j ++ [.pointer (some ⟨x,0,none⟩)]:=by
 unfold bldV
 rw [List.range_succ,List.map_append]
 congr 1
 ·refine List.map_congr_left fun i hi => ?_
  rw [up_ne _ _ (by have:=List.mem_range.1 hi; omega)]
 ·show [Value.pointer (some ⟨up Q (j + 1) x (j + 1),0,none⟩)] = _
  rw [up_same]
/-- while the builds are made: j of them are -/
structure NwI (a:String → Addr) (w0 w:World) (Y:Lay) (D GT:Nat) (Q:Nat → Nat) (n1:Nat) (dp:Int) (t:Nat → Tb) (j:Nat) (vB:Value) (W:World):Prop where
 N:Y.N = j + 1
 e1:∀ i,1 ≤ i → i < Y.N → Y.n i = n1
 row:DRow D (Y.n 0 + j * n1) 0 dp vB (.slice (some ⟨GT,0,none⟩) 1 1) none (.slice none 0 0) W
 gt:W.cell? ⟨GT,0,none⟩ = some (.pointer (some ⟨Y.T 0,0,none⟩))
 re:Real a w0 (cut Y false) t W
 bx:∀ i,1 ≤ i → i < Y.N → build.BBox (Q i) n1 0 (some ⟨Y.T i,0,none⟩) W
 tb:∀ i,1 ≤ i → i < Y.N → PAt (Y.T i) (Y.B i) n1 0 W
 own:W.ownsRow w.heap.size 198 1 vB j (bldV Q j)
 bel:Below w.heap.size w W
 hD:D = w.heap.size + 1
 hGT:GT = w.heap.size
 new:∀ i,1 ≤ i → i < Y.N → ∀ b ∈ [Y.T i,Y.B i,Q i],w.heap.size + 2 ≤ b ∧ b < W.heap.size
 sep:∀ i i',1 ≤ i → i < i' → i' < Y.N → ∀ b ∈ [Y.T i,Y.B i,Q i],b ∉ [Y.T i',Y.B i',Q i']
 ins:∀ i,1 ≤ i → i < Y.N → Q i ≠ Y.T i ∧ Q i ≠ Y.B i
 oB:∀ g,vB.ownBlock = some g → w.heap.size + 2 ≤ g ∧ ∀ i,1 ≤ i → i < Y.N → g ∉ [Y.T i,Y.B i,Q i]
 old:Y.T 0 < w.heap.size ∧ Y.B 0 < w.heap.size
section
variable {a:String → Addr} {w0 w:World} {Y:Lay} {D GT:Nat} {Q:Nat → Nat} {n1:Nat} {dp:Int} {t:Nat → Tb} {j:Nat} {vB:Value} {W W':World}
theorem NwI.next {W1 W3 : World} {Q' g1 c1 : Nat} {o : Obj} (h : NwI a w0 w Y D GT Q n1 dp t j vB W) (hbx : build.BBox Q' n1 0 (some ⟨W.heap.size + 1, 0, none⟩) W1) (htb : PAt (W.heap.size + 1) W.heap.size n1 0 W1) (hQ : W.heap.size + 1 < Q') (hb1 : Below W.heap.size W W1)
    (hr : W3.ownsRow w.heap.size 198 1 (.slice (some ⟨g1, 0, none⟩) (j + 1) c1) (j + 1) (bldV Q j ++ [.pointer (some ⟨Q', 0, none⟩)])) (hg : (W1.alloc o).grownBy W3 vB.ownBlock) (ha : vB.ownBlock = some g1 ∨ g1 = W1.heap.size + 1) :
    NwI a w0 w (Y.add (W.heap.size + 1) W.heap.size (Y.F 0) n1) D GT (up Q (j + 1) Q') n1 dp t (j + 1) (.slice (some ⟨g1, 0, none⟩) (j + 1) c1) ((W3.setCell ⟨D, 3, none⟩ (.slice (some ⟨g1, 0, none⟩) (j + 1) c1)).setCell ⟨D, 0, none⟩ (.int .i64 ((Y.n 0 + (j + 1) * n1 : Nat) : Int))) := by
  have hN := h.N
  have z1 := hb1.size
  have lQ := hbx.lt
  have lD := h.row.lt
  have lG := World.block_lt_of_cell? _ _ h.gt
  have hD := h.hD
  have hGT := h.hGT
  have hold := h.old
  have b2 := new_block W1 o
  have hb2 := under.below_step hb1 b2
  have sz2 : (W1.alloc o).heap.size = W1.heap.size + 1 := World.size_alloc _ _
  have mt : ∀ {o : Option Nat} {b : Nat}, b ∈ o.toList → o = some b := fun {o b} hb => by cases o with
    | none => cases hb
    | some x => simp at hb; rw [hb]
  have p3 := past_grown hg
  have z3 := p3.size
  have hgo : ∀ g, vB.ownBlock = some g → g < W.heap.size := fun g hg' => (row_lt h.own hg').2
  have pD : Past [D] W3 ((W3.setCell ⟨D, 3, none⟩ (.slice (some ⟨g1, 0, none⟩) (j + 1) c1)).setCell ⟨D, 0, none⟩ (.int .i64 ((Y.n 0 + (j + 1) * n1 : Nat) : Int))) := ((Past.refl [D] W3).store (.inl (by simp)) _).store (.inl (by simp)) _
  -- all that is written behind W but what is new: D, the builds' list
  have pa : Past (D :: vB.ownBlock.toList) W ((W3.setCell ⟨D, 3, none⟩ (.slice (some ⟨g1, 0, none⟩) (j + 1) c1)).setCell ⟨D, 0, none⟩ (.int .i64 ((Y.n 0 + (j + 1) * n1 : Nat) : Int))) := ((Past.of hb2).trans (p3.mono fun b hb => List.mem_cons_of_mem _ hb)).trans (pD.mono fun b hb => by
    obtain rfl : b = D := by simpa using hb
    exact List.mem_cons_self)
  have pn : Past (D :: vB.ownBlock.toList) W1 ((W3.setCell ⟨D, 3, none⟩ (.slice (some ⟨g1, 0, none⟩) (j + 1) c1)).setCell ⟨D, 0, none⟩ (.int .i64 ((Y.n 0 + (j + 1) * n1 : Nat) : Int))) := ((Past.of b2).trans (p3.mono fun b hb => List.mem_cons_of_mem _ hb)).trans (pD.mono fun b hb => by
    obtain rfl : b = D := by simpa using hb
    exact List.mem_cons_self)
  have zf := pn.size
  have nD : ∀ b, b ≠ D → (∀ g, vB.ownBlock = some g → b ≠ g) → b ∉ D :: vB.ownBlock.toList := fun b h1 h2 e => by
    rcases List.mem_cons.1 e with e | e
    · exact h1 e
    · exact h2 b (mt e) rfl
  have ob : ∀ i, 1 ≤ i → i < Y.N → ∀ b ∈ [Y.T i, Y.B i, Q i], b ∉ D :: vB.ownBlock.toList := fun i h1 hi b hb => nD b (by have := (h.new i h1 hi b hb).1; omega) (fun g hg' e => (h.oB g hg').2 i h1 hi (e ▸ hb))
  have far : ∀ b, W.heap.size ≤ b → b ∉ D :: vB.ownBlock.toList := fun b hb => nD b (by omega) (fun g hg' e => by have := hgo g hg'; omega)
  have cs : ∀ i, i < (Y.add (W.heap.size + 1) W.heap.size (Y.F 0) n1).N → i < Y.N ∨ i = j + 1 := fun i hi => by
    have : (Y.add (W.heap.size + 1) W.heap.size (Y.F 0) n1).N = Y.N + 1 := rfl
    omega
  have eT : ∀ i, i < Y.N → (Y.add (W.heap.size + 1) W.heap.size (Y.F 0) n1).T i = Y.T i ∧ (Y.add (W.heap.size + 1) W.heap.size (Y.F 0) n1).B i = Y.B i ∧ (Y.add (W.heap.size + 1) W.heap.size (Y.F 0) n1).n i = Y.n i ∧ up Q (j + 1) Q' i = Q i := fun i hi => by
    have e : i ≠ Y.N := by omega
    exact ⟨up_ne _ _ e, up_ne _ _ e, up_ne _ _ e, up_ne _ _ (by omega)⟩
  have eN : (Y.add (W.heap.size + 1) W.heap.size (Y.F 0) n1).T (j + 1) = W.heap.size + 1 ∧ (Y.add (W.heap.size + 1) W.heap.size (Y.F 0) n1).B (j + 1) = W.heap.size ∧ (Y.add (W.heap.size + 1) W.heap.size (Y.F 0) n1).n (j + 1) = n1 ∧ up Q (j + 1) Q' (j + 1) = Q' := by
    have : j + 1 = Y.N := hN.symm
    rw [this]
    exact ⟨up_same _ _ _, up_same _ _ _, up_same _ _ _, up_same _ _ _⟩
  have e0 := eT 0 (by omega)
  have gr : DRow D (Y.n 0 + j * n1) 0 dp vB (.slice (some ⟨GT, 0, none⟩) 1 1) none (.slice none 0 0) W3 := (h.row.keep hb2).past p3 (fun e => by have := (h.oB D (mt e)).1; omega)
  have hrow := (gr.set3 (.slice (some ⟨g1, 0, none⟩) (j + 1) c1)).set0 (Y.n 0 + (j + 1) * n1)
  refine ⟨by show Y.N + 1 = _; omega, fun i h1 hi => ?_, by rw [e0.2.2.1]; exact hrow, by rw [e0.1]; exact pa.cell h.gt (nD GT (by omega) (fun g hg' e => by have := (h.oB g hg').1; omega)), ?_, fun i h1 hi => ?_, fun i h1 hi => ?_, ?_, h.bel.trans (pa.below h.bel.size fun b hb => ?_), hD, hGT, fun i h1 hi b hb => ?_, fun i i' h1 h2 h3 b hb => ?_, fun i h1 hi => ?_, fun g hg' => ?_, by rw [e0.1, e0.2.1]; exact hold⟩
  · rcases cs i hi with hi | rfl
    · rw [(eT i hi).2.2.1]; exact h.e1 i h1 hi
    · exact eN.2.2.1
  · have r := h.re.past pa fun b hb => ⟨?_, fun e => ?_⟩
    · refine ⟨fun i hi => ?_, fun i hi => ?_, fun i hi => ?_, fun i k hi hk hne => ?_, fun b hb => ?_, r.bel, r.base⟩
      · obtain rfl : i = 0 := by have : i < 1 := hi; omega
        show TAt ((Y.add (W.heap.size + 1) W.heap.size (Y.F 0) n1).T 0) ((Y.add (W.heap.size + 1) W.heap.size (Y.F 0) n1).B 0) _ _
        rw [e0.1, e0.2.1]; exact r.at' 0 Nat.one_pos
      · obtain rfl : i = 0 := by have : i < 1 := hi; omega
        exact r.ok 0 Nat.one_pos
      · obtain rfl : i = 0 := by have : i < 1 := hi; omega
        show (t 0).n = (Y.add (W.heap.size + 1) W.heap.size (Y.F 0) n1).n 0
        rw [e0.2.2.1]; exact r.tn 0 Nat.one_pos
      · have : i < 1 := hi
        have : k < 1 := hk
        omega
      · refine r.new b ?_
        rcases cut_off hb with e | e
        · rw [e0.1] at e; subst e; exact Lay.tin (Y := cut Y false) Nat.one_pos (by simp [cut])
        · rw [e0.2.1] at e; subst e; exact Lay.tin (Y := cut Y false) Nat.one_pos (by simp [cut])
    · rcases List.mem_cons.1 hb with rfl | hb
      · have := h.re.bel.size
        have := h.re.new (Y.T 0) (Lay.tin (Y := cut Y false) Nat.one_pos (by simp [cut]))
        omega
      · have := (h.oB b (mt hb)).1
        have := h.re.new (Y.T 0) (Lay.tin (Y := cut Y false) Nat.one_pos (by simp [cut]))
        omega
    · have q : b = Y.T 0 ∨ b = Y.B 0 := cut_off e
      rcases List.mem_cons.1 hb with rfl | hb
      · omega
      · have := (h.oB b (mt hb)).1
        omega
  · rcases cs i hi with hi | rfl
    · rw [(eT i hi).2.2.2, (eT i hi).1]; exact (h.bx i h1 hi).past pa (ob i h1 hi _ (by simp))
    · rw [eN.1, eN.2.2.2]; exact hbx.past pn (far _ (by omega))
  · rcases cs i hi with hi | rfl
    · rw [(eT i hi).1, (eT i hi).2.1]; exact (h.tb i h1 hi).past pa (ob i h1 hi _ (by simp)) (ob i h1 hi _ (by simp))
    · rw [eN.1, eN.2.1]; exact htb.past pn (far _ (by omega)) (far _ (Nat.le_refl _))
  · rw [bldV_up]
    refine row_past2 hr pD fun g hg' e => ?_
    obtain rfl : g1 = g := by injection hg'
    obtain rfl : g1 = D := by simpa using e
    rcases ha with ha | ha
    · have := (h.oB _ ha).1; omega
    · omega
  · rcases List.mem_cons.1 hb with rfl | hb
    · omega
    · have := (h.oB b (mt hb)).1; omega
  · rcases cs i hi with hi | rfl
    · rw [(eT i hi).1, (eT i hi).2.1, (eT i hi).2.2.2] at hb
      have := h.new i h1 hi b hb
      omega
    · rw [eN.1, eN.2.1, eN.2.2.2] at hb
      have hz := h.bel.size
      simp only [List.mem_cons, List.not_mem_nil, or_false] at hb
      rcases hb with rfl | rfl | rfl <;> omega
  · have h3' : i' < Y.N ∨ i' = j + 1 := cs i' h3
    have hi : i < Y.N := by rcases h3' with h | h <;> omega
    rw [(eT i hi).1, (eT i hi).2.1, (eT i hi).2.2.2] at hb
    rcases h3' with h3 | rfl
    · rw [(eT i' h3).1, (eT i' h3).2.1, (eT i' h3).2.2.2]
      exact h.sep i i' h1 h2 h3 b hb
    · rw [eN.1, eN.2.1, eN.2.2.2]
      have := (h.new i h1 hi b hb).2
      intro e
      simp only [List.mem_cons, List.not_mem_nil, or_false] at e
      rcases e with e | e | e <;> omega
  · rcases cs i hi with hi | rfl
    · rw [(eT i hi).1, (eT i hi).2.1, (eT i hi).2.2.2]; exact h.ins i h1 hi
    · rw [eN.1, eN.2.1, eN.2.2.2]; omega
  · obtain rfl : g1 = g := by injection hg'
    refine ⟨?_, fun i h1 hi e => ?_⟩
    · rcases ha with ha | ha
      · exact (h.oB _ ha).1
      · omega
    · rcases cs i hi with hi | rfl
      · rw [(eT i hi).1, (eT i hi).2.1, (eT i hi).2.2.2] at e
        rcases ha with ha | ha
        · exact (h.oB _ ha).2 i h1 hi e
        · have := (h.new i h1 hi _ e).2; omega
      · rw [eN.1, eN.2.1, eN.2.2.2] at e
        simp only [List.mem_cons, List.not_mem_nil, or_false] at e
        rcases ha with ha | ha
        · have := hgo _ ha
          omega
        · have : Q' < W1.heap.size := lQ
          omega
end
end Go.Proofs.YtdplhgpeggcmdaaGreatDoor.dual

/-! ### dual: New, walked. -/
namespace Go.Proofs.YtdplhgpeggcmdaaGreatDoor.dual
open Go.ChangeShapes Go.WideShapes Go.ChangeAt Go.RowKit Go.Shelf swar under trap meter group probe lens tail call table evac
attribute [local go_sem] Oper.semAt_some stage.pureUpon move.stepUpon
set_option linter.unusedSimpArgs false
set_option linter.unusedVariables false

section
variable {a:String → Addr} {w0 w:World} {Y:Lay} {D GT:Nat} {Q:Nat → Nat} {n1 d:Nat} {dp:Int} {t:Nat → Tb} {j:Nat} {vB:Value} {W W':World}
theorem NwI.pre (h:NwI a w0 w Y D GT Q n1 dp t j vB W) (hN:Y.N = 2 ∨ Y.N = 3) (o0:okN (Y.n 0)) (o1:okN n1) (ld:d ≤ 15) (hdp:Y.N = 3 → dp = d) (ht:∀ j,1 ≤ j → t j = Tb.new n1):∃ GB cB,Pre a w0 Y D Q n1 d dp GB cB GT 1 0 0 t W ∧ w.heap.size + 2 ≤ GB:=by
 have hj:=h.N
 obtain ⟨GB,cB,rfl,_,_⟩:=h.own.form (by omega)
 have hg:=h.oB GB rfl
 have hz:=h.re.bel.size
 have hD:=h.hD
 have hGT:=h.hGT
 have hold:=h.old
 have hw:w0.heap.size ≤ w.heap.size:=by
  have:=h.re.new (Y.T 0) (Lay.tin (Y:=cut Y false) Nat.one_pos (by simp [cut]))
  omega
 have cases:∀ b ∈ Y.tall,b < w.heap.size ∧ (b = Y.T 0 ∨ b = Y.B 0) ∨ ∃ i,1 ≤ i ∧ i < Y.N ∧ (b = Y.T i ∨ b = Y.B i):=fun b hb => by
  obtain ⟨i,hi,hb⟩:=List.mem_flatMap.1 hb
  have hi:=List.mem_range.1 hi
  have hb':b = Y.T i ∨ b = Y.B i:=by simpa using hb
  rcases Nat.eq_zero_or_pos i with rfl | h0
  ·left
   rcases hb' with rfl | rfl
   ·exact ⟨hold.1,.inl rfl⟩
   ·exact ⟨hold.2,.inr rfl⟩
  ·exact .inr ⟨i,h0,hi,hb'⟩
 have big:∀ b ∈ Y.tall,b < w.heap.size ∨ w.heap.size + 2 ≤ b:=fun b hb => by
  rcases cases b hb with ⟨h1,_⟩ | ⟨i,h1,hi,rfl | rfl⟩
  ·exact .inl h1
  ·exact .inr (h.new i h1 hi _ (by simp)).1
  ·exact .inr (h.new i h1 hi _ (by simp)).1
 have nq:∀ i,1 ≤ i → i < Y.N → Q i ∉ Y.tall:=fun i h1 hi e => by
  have hb:=(h.new i h1 hi (Q i) (by simp)).1
  rcases cases _ e with ⟨h2,_⟩ | ⟨k,h2,hk,e⟩
  ·omega
  ·rcases Nat.lt_trichotomy i k with hlt | rfl | hgt
   ·exact h.sep i k h1 hlt hk (Q i) (by simp) (by rcases e with e | e <;> simp [e])
   ·rcases e with e | e
    ·exact (h.ins i h1 hi).1 e
    ·exact (h.ins i h1 hi).2 e
   ·rcases e with e | e
    ·exact h.sep k i h2 hgt hi (Y.T k) (by simp) (by simp [e])
    ·exact h.sep k i h2 hgt hi (Y.B k) (by simp) (by simp [e])
 refine ⟨GB,cB,⟨⟨hN,h.e1,o0,o1,ld,hdp,by omega,fun i h1 hi => ?_,fun b hb => ?_,fun i k hi hk hne b hb e => ?_,fun e => ?_,nq,fun i h1 hi => ?_,fun i k h1 hi h2 hk hne e => ?_⟩, ?_,fun i h1 hi => ?_,h.gt,h.re,fun i h1 hi => ?_,fun i h1 hi => ?_,⟨fun e => ?_,by omega,fun i h1 hi e => ?_⟩,⟨fun e => ?_,by omega,fun i h1 hi => ?_⟩,ht,rfl⟩,hg.1⟩
 ·have:=(h.new i h1 hi (Q i) (by simp)).1
  omega
 ·rcases cases b hb with ⟨_,rfl | rfl⟩ | ⟨i,h1,hi,rfl | rfl⟩
  ·exact h.re.new _ (Lay.tin (Y:=cut Y false) Nat.one_pos (by simp [cut]))
  ·exact h.re.new _ (Lay.tin (Y:=cut Y false) Nat.one_pos (by simp [cut]))
  ·have:=(h.new i h1 hi (Y.T i) (by simp)).1; omega
  ·have:=(h.new i h1 hi (Y.B i) (by simp)).1; omega
 ·have key:∀ i k,i < k → k < Y.N → ∀ b ∈ [Y.T i,Y.B i],b ∉ [Y.T k,Y.B k]:=fun i k hlt hk b hb e => by
   have hk':b ∈ [Y.T k,Y.B k,Q k]:=by simp only [List.mem_cons,List.not_mem_nil,or_false] at e ⊢; rcases e with e | e <;> simp [e]
   rcases Nat.eq_zero_or_pos i with rfl | h0
   ·have q1:=(h.new k (by omega) hk b hk').1
    have hb':b = Y.T 0 ∨ b = Y.B 0:=by simpa using hb
    rcases hb' with rfl | rfl <;> omega
   ·exact h.sep i k h0 hlt hk b (by simp only [List.mem_cons,List.not_mem_nil,or_false] at hb ⊢; rcases hb with e | e <;> simp [e]) hk'
  rcases Nat.lt_or_gt_of_ne hne with hlt | hgt
  ·exact key i k hlt hk b hb e
  ·exact key k i hgt hi b e hb
 ·have:=big _ e; omega
 ·have:=(h.new i h1 hi (Q i) (by simp)).1
  omega
 ·rcases Nat.lt_or_gt_of_ne hne with hlt | hgt
  ·exact h.sep i k h1 hlt hk (Q i) (by simp) (by simp [e])
  ·exact h.sep k i h2 hgt hi (Q k) (by simp) (by simp [e])
 ·have:=h.row
  rw [show Y.N - 1 = j by omega]; exact this
 ·have:=h.own.cells (g:=GB) rfl (i - 1) (.pointer (some ⟨Q i,0,none⟩)) (by simp [bldV,show i - 1 < j by omega,show i - 1 + 1 = i by omega])
  rwa [add_at,Nat.zero_add] at this
 ·have:=h.bx i h1 hi
  rwa [show kk n1 0 i = 0 by unfold kk; omega]
 ·have:=h.tb i h1 hi
  rwa [show kk n1 0 i = 0 by unfold kk; omega]
 ·rcases cases _ e with ⟨h2,_⟩ | ⟨k,h2,hk,e | e⟩
  ·omega
  ·exact hg.2 k h2 hk (by simp [e])
  ·exact hg.2 k h2 hk (by simp [e])
 ·exact hg.2 i h1 hi (by simp [e])
 ·have:=big _ e; omega
 ·have:=(h.new i h1 hi (Q i) (by simp)).1
  omega
theorem NwI.after {w1 w3:World} {T0 B0 n0 Q' g1 c1 x0 x1:Nat} (hx0:n0 + j * n1 = x0) (hx1:n0 + (j + 1) * n1 = x1) (hW:NwI a w0 w Y D w.heap.size Q n1 dp t j vB W ∧ Y.T 0 = T0 ∧ Y.B 0 = B0 ∧ Y.n 0 = n0) (hX:W.heap.size + 1 < Q' ∧ build.BBox Q' n1 0 (some ⟨W.heap.size + 1,0,none⟩) w1 ∧ PAt (W.heap.size + 1) W.heap.size n1 0 w1 ∧ Below W.heap.size W w1)
  (hrA:w3.ownsRow w.heap.size 198 1 (.slice (some ⟨g1,0,none⟩) (j + 1) c1) (j + 1) (bldV Q j ++ [.pointer (some ⟨Q',0,none⟩)])) (hgA:(w1.alloc (.cells #[.pointer (some ⟨Q',0,none⟩)] 198)).grownBy w3 vB.ownBlock) (haA:vB.ownBlock = some g1 ∨ g1 = w1.heap.size + 1) :
  (∃ Y' Q',NwI a w0 w Y' D w.heap.size Q' n1 dp t (j + 1) (.slice (some ⟨g1,0,none⟩) (j + 1) c1) ((w3.setCell ⟨D,3,none⟩ (.slice (some ⟨g1,0,none⟩) (j + 1) c1)).setCell ⟨D,0,none⟩ (.int .i64 (x1:Nat))) ∧ Y'.T 0 = T0 ∧ Y'.B 0 = B0 ∧ Y'.n 0 = n0) ∧ DRow D x0 0 dp vB (.slice (some ⟨w.heap.size,0,none⟩) 1 1) none (.slice none 0 0) w3:=by
 obtain ⟨hW,hT0,hB0,hn0⟩:=hW
 obtain ⟨hQ,hbx,htb,hb1⟩:=hX
 have hx:=hW.next hbx htb hQ hb1 hrA hgA haA
 rw [hn0,hx1] at hx
 have e:0 ≠ Y.N:=by have:=hW.N; omega
 refine ⟨⟨_,_,hx,(up_ne _ _ e).trans hT0,(up_ne _ _ e).trans hB0,(up_ne _ _ e).trans hn0⟩, ?_⟩
 have q:=(hW.row.keep hb1).keep (new_block w1 (.cells #[.pointer (some ⟨Q',0,none⟩)] 198))
 rw [hn0,hx0] at q
 refine q.past (past_grown hgA) fun e => ?_
 have : vB.ownBlock = some D:=by
  cases e2:vB.ownBlock with
  | none => rw [e2] at e; cases e
  | some g => rw [e2] at e; simp at e; rw [e]
 have:=(hW.oB D this).1
 have:=hW.hD
 omega
/-- a lay of one table -/
def lay1 (T B n:Nat):Lay:=⟨1,fun _ => T,fun _ => B,fun _ => ⟨0,0,0,fun _ => 0⟩,fun _ => n⟩
theorem NwI.start {T0 B0 n0:Nat} (h:Real a w0 (lay1 T0 B0 n0) t w):NwI a w0 w (lay1 T0 B0 n0) (w.heap.size + 1) w.heap.size Q n1 dp t 0 (.slice none 0 0) ((w.alloc (.cells #[.pointer (some ⟨T0,0,none⟩)] 86)).alloc (.cells #[.int .i64 (n0:Nat),.int .i64 0,.int .i64 dp,.slice none 0 0,.slice (some ⟨w.heap.size,0,none⟩) 1 1,.pointer none,.slice none 0 0] 197)):=by
 have b2:=two_new w (.cells #[.pointer (some ⟨T0,0,none⟩)] 86) (.cells #[.int .i64 (n0:Nat),.int .i64 0,.int .i64 dp,.slice none 0 0,.slice (some ⟨w.heap.size,0,none⟩) 1 1,.pointer none,.slice none 0 0] 197)
 have h0:=h.at' 0 Nat.one_pos
 have hr:=h.read b2
 have hrow:=World.alloc_heap_new (w.alloc (.cells #[.pointer (some ⟨T0,0,none⟩)] 86)) (.cells #[.int .i64 (n0:Nat),.int .i64 0,.int .i64 dp,.slice none 0 0,.slice (some ⟨w.heap.size,0,none⟩) 1 1,.pointer none,.slice none 0 0] 197)
 rw [World.size_alloc] at hrow
 refine ⟨rfl,fun i h1 hi => absurd (show i < 1 from hi) (by omega),⟨?_⟩,keepc (new_block _ _) (newc w _ _), ?_,fun i h1 hi => absurd (show i < 1 from hi) (by omega),fun i h1 hi => absurd (show i < 1 from hi) (by omega),World.ownsRow_nil _ _ _ _,b2,rfl,rfl,fun i h1 hi => absurd (show i < 1 from hi) (by omega),fun i i' h1 h2 h3 => absurd (show i' < 1 from h3) (by omega),fun i h1 hi => absurd (show i < 1 from hi) (by omega),fun g hg => (by cases hg),⟨h0.lt,h0.lb⟩⟩
 ·rw [hrow]
  simp [lay1]
 ·exact ⟨hr.at',hr.ok,hr.tn,hr.sep,hr.new,hr.bel,hr.base⟩
end
set_option maxRecDepth 20000 in
set_option maxHeartbeats 1000000 in
theorem new_yes (a:String → Addr) (w0 w:World) (T0 B0 n0 n1 d nb:Nat) (dp:Int) (t:Nat → Tb) (hr:Real a w0 (lay1 T0 B0 n0) t w) (o0:okN n0) (o1:okN n1) (ld:d ≤ 15) (hd:dp ≤ 15) (hnb:(dp < 0 ∧ nb = 1) ∨ (dp = d ∧ nb = 2)) (ht:∀ j,1 ≤ j → t j = Tb.new n1) :
  Calls Tryz.prog 65 #[.pointer (some ⟨T0,0,none⟩),.int .i64 (n1:Nat),.int .i64 dp] w fun e w' => ∃ (Y:Lay) (D:Nat) (fp:List Nat),e = .returned (.tuple #[.pointer (some ⟨D,0,none⟩),.nilIface]) ∧ Y.N = nb + 1 ∧ Y.T 0 = T0 ∧ Y.B 0 = B0 ∧ Y.n 0 = n0 ∧ DAt a w0 Y D n1 d dp 0 false t fp w' ∧ Below w.heap.size w w' ∧ (∀ b ∈ fp,b = T0 ∨ b = B0 ∨ w.heap.size ≤ b) ∧ D = w.heap.size + 1:=by
 have hs:=tab_some
 obtain ⟨i0,hi0,hq0,hq1,hq2⟩:=info_parts infoBld
 have d1:decide (15 < dp) = false:=decide_eq_false (by omega)
 have hT:TAt T0 B0 (t 0) w:=hr.at' 0 Nat.one_pos
 have hn:(t 0).n = n0:=hr.tn 0 Nat.one_pos
 have cG:=table.groups_any T0 B0 (t 0) w hT
 rw [hn] at cG
 have cM:=many_any dp
 have em:(if dp < 0 then (1:Int) else 2) = (nb:Int):=by
  rcases hnb with ⟨h1,rfl⟩ | ⟨h1,rfl⟩
  ·rw [if_pos h1]; rfl
  ·rw [if_neg (by omega)]; rfl
 rw [em] at cM
 have hnb2:1 ≤ nb ∧ nb ≤ 2:=by omega
 have HI:=Lib.hid (NwI.start (Q:=fun _ => 0) (n1:=n1) (dp:=dp) hr)
 have hn64:=okN_le o1
 have hn0:=okN_le o0
 have HRD:=Lib.hid hr
 clear hT hn hr em
 go_enter Tryz.func65,Tryz.ntmps65
 go_wp2_with (first
  | (go_at_call 63; refine cG.mono ?_; rintro e w1 ⟨rfl,rfl⟩)
  | (go_at_call 118; refine (cM _).mono ?_; rintro e w2 ⟨rfl,rfl⟩))
 generalize (w.alloc (.cells #[.pointer (some ⟨T0,0,none⟩)] 86)).alloc (.cells #[.int .i64 (n0:Nat),.int .i64 0,.int .i64 dp,.slice none 0 0,.slice (some ⟨w.heap.size,0,none⟩) 1 1,.pointer none,.slice none 0 0] 197) = W0 at *
 generalize hDD:w.heap.size + 1 = D at *
 go_loopw [26] (fun i wr => ∃ j:Nat,j ≤ nb ∧ i = .int .i64 j ∧ Hid (∃ Y Q vB,NwI a w0 w Y D w.heap.size Q n1 dp t j vB wr ∧ Y.T 0 = T0 ∧ Y.B 0 = B0 ∧ Y.n 0 = n0)) (fun i _ => nb - (intOf i).toNat)
 case atStart => exact ⟨0,by omega,rfl,Lib.hid ⟨_,_,_,HI.out,rfl,rfl,rfl⟩⟩
 case round =>
  obtain ⟨j,hj,rfl,HR⟩:=hrel
  clear HI cM cG
  rcases Nat.lt_or_ge j nb with hjl | hjl
  ·have hji:(j:Int) < (nb:Int):=by omega
   obtain ⟨Y,Q,vB,hW,hT0,hB0,hn00⟩:=HR.out
   have cB:=build.new_yes n1 o1 wr
   have hmul:j * n1 ≤ 64 * 2:=by
    have : j * n1 ≤ 2 * 64:=Nat.mul_le_mul (by omega) hn64
    omega
   have ew:IntKind.i64.wrap (((n0 + j * n1:Nat):Int) + (n1:Int)) = ((n0 + (j + 1) * n1:Nat):Int):=by
    rw [IntWalk.i64_in _ (by omega),Nat.add_mul,Nat.one_mul]; omega
   obtain ⟨x0,hx0⟩:∃ x0,n0 + j * n1 = x0:=⟨_,rfl⟩
   obtain ⟨x1,hx1⟩:∃ x1,n0 + (j + 1) * n1 = x1:=⟨_,rfl⟩
   rw [hx0,hx1] at ew
   have HX0:=Lib.hid hx0
   have HX1:=Lib.hid hx1
   clear hx0 hx1
   have HW:=Lib.hid (And.intro hW (And.intro hT0 (And.intro hB0 hn00)))
   clear hW hT0 hB0 hn00 HR
   have hzw:w.heap.size ≤ wr.heap.size:=HW.out.1.bel.size
   go_wp2_with (first
    | (go_at_call 119; refine cB.mono ?_; rintro e w1 ⟨Q',rfl,hQ,hbx,htb,hb1⟩; have hr1:=HW.out.1.row.keep hb1; rw [HW.out.2.2.2,HX0.out] at hr1; have k3:=hr1.c3; have kf:=hr1.fz; have hz1:=hb1.size; have HX:=Lib.hid (And.intro hQ (And.intro hbx (And.intro htb hb1))); clear hr1 hQ hbx htb hb1)
    | (at_builtin; refine wpList_append_lies _ rfl _ _ 194 rfl w.heap.size 198 i0 (.pointer none) 1 8 Tryz.underlying194 hi0 hq0 hq1 hq2 rfl (by decide) _ _ _ rfl (row_below (row_below HW.out.1.own HX.out.2.2.2) (new_block _ _)) ⟨w1.heap.size,0,none⟩ 1 1 [.pointer (some ⟨Q',0,none⟩)] rfl rfl (cell_one_new w1 _ _) (by simp [Value.oneCell']) (by decide) (by simp only [maxLen]; omega) (by omega) (by simp; omega) (w1.heap.size + 1) (by simp) ?_; intro g1 c1 w3 hrA hgA haA hlA; obtain ⟨hy,hr3⟩:=NwI.after HX0.out HX1.out HW.out HX.out hrA hgA haA; have HY:=Lib.hid hy; have r3:=hr3.c3; have r0:=hr3.c0; have rf:=hr3.fz; clear hy hr3 hrA hgA haA hlA HX HW))
   go_roundw
   case rel =>
    obtain ⟨Y',Q2,h1,h2,h3,h4⟩:=HY.out
    exact ⟨j + 1,by omega,by simp,Lib.hid ⟨_,_,_,h1,h2,h3,h4⟩⟩
   case measure => simp [intOf]; omega
  ·obtain rfl:j = nb:=by omega
   obtain ⟨Y,Q,vB,hW,hT0,hB0,hn00⟩:=HR.out
   have hN:=hW.N
   obtain ⟨GB,cB,hP,hGB⟩:=hW.pre (by omega) (by rw [hn00]; exact o0) o1 ld (fun e => by rcases hnb with ⟨_,h⟩ | ⟨h,_⟩; omega; exact h) ht
   have HP:=Lib.hid (And.intro hP (And.intro hGB hW))
   clear hP hW HR
   go_wp2
   go_ret2
   have h1:=okN_pos o1
   refine ⟨Y,D,_,rfl,hN,hT0,hB0,hn00,.inl ⟨?_,rfl,Q,GB,cB,w.heap.size,1,HP.out.1,rfl⟩,HP.out.2.2.bel,fun b hb => ?_,by omega⟩
   ·rw [hN,Nat.add_sub_cancel]; exact Nat.mul_pos (by omega) h1
   ·simp only [fpP,List.mem_cons] at hb
    have q:=HP.out.2.2.new
    rcases hb with rfl | rfl | rfl | rfl | rfl | hb
    ·have:=HP.out.2.1; exact .inr (.inr (by omega))
    ·exact .inr (.inr (Nat.le_refl _))
    ·exact .inr (.inr (by omega))
    ·have:=(q 1 (Nat.le_refl _) (by omega) (Q 1) (by simp)).1; exact .inr (.inr (by omega))
    ·have:=(q (Y.N - 1) (by omega) (by omega) (Q (Y.N - 1)) (by simp)).1; exact .inr (.inr (by omega))
    ·obtain ⟨i,hi,hb⟩:=List.mem_flatMap.1 hb
     have hi:=List.mem_range.1 hi
     have hb':b = Y.T i ∨ b = Y.B i:=by simpa using hb
     rcases Nat.eq_zero_or_pos i with rfl | h0
     ·rcases hb' with rfl | rfl
      ·exact .inl hT0
      ·exact .inr (.inl hB0)
     ·rcases hb' with rfl | rfl
      ·have:=(q i h0 hi (Y.T i) (by simp)).1; exact .inr (.inr (by omega))
      ·have:=(q i h0 hi (Y.B i) (by simp)).1; exact .inr (.inr (by omega))
end Go.Proofs.YtdplhgpeggcmdaaGreatDoor.dual

/-! ### dual: a dual as a partial function: what Put, Delete, Find, Step answer. -/
namespace Go.Proofs.YtdplhgpeggcmdaaGreatDoor.dual
open Go.ChangeShapes Go.WideShapes Go.ChangeAt Go.RowKit Go.Shelf swar under trap meter group probe lens tail call table evac
set_option linter.unusedSimpArgs false
set_option linter.unusedVariables false

/-! ### groups that are moved have no entries -/
theorem off_upd {t:Tb} {c a k:Nat} (h:Off t c) (hk:k < 8) (h3:(t.gs a k).kind = 3) (g':Gp) (len tombs:Int):Off ⟨t.n,upd t.gs a g',len,tombs⟩ c:=fun g hg k' hk' => by
 have hne:g ≠ a:=fun e => by subst e; exact h g hg k hk h3
 show (upd t.gs a g' g k').kind ≠ 3
 rw [upd_ne _ _ hne]; exact h g hg k' hk'
theorem there_slot {t:Tb} {key hs:Nat} (ht:isThere t key hs = true):∃ k:Nat,k < 8 ∧ slot t key hs = k ∧ (t.gs (lastG t key hs) k).kind = 3:=by
 obtain ⟨k,h1,h2,h3⟩:=there_is ht
 exact ⟨k,h1,h2,(hit_is h3).1⟩
theorem off_puts {t:Tb} {c key hs v:Nat} (h:Off t c) (ht:isThere t key hs = true):Off (t.puts key hs v) c:=by
 obtain ⟨k,h1,h2,h3⟩:=there_slot ht
 unfold Tb.puts
 rw [if_pos ht,replace_at h2]
 exact off_upd h h1 h3 _ _ _
theorem off_remove {t:Tb} {c key hs:Nat} (h:Off t c):Off (t.remove key hs) c:=by
 cases ht:isThere t key hs
 ·unfold Tb.remove; rw [slot_neg ht,if_neg (by decide)]; exact h
 ·obtain ⟨k,h1,h2,h3⟩:=there_slot ht
  rw [remove_at h2]
  exact off_upd h h1 h3 _ _ _
theorem off_dT {t:Nat → Tb} {c key hs v N d:Nat} (h:Off (t 0) c):Off (dT t key hs v (js true N d hs) true 0) c:=by
 have hp:=tgt_pos N d hs
 cases hf:fnd t key hs (js true N d hs) with
 | none =>
  rw [(put_on hf).2.2,up_ne]
  ·exact h
  ·show 0 ≠ tgt N d hs; omega
 | some i =>
  obtain ⟨h1,h2⟩:=fnd_some hf
  rw [(put_found hf).2.2]
  by_cases e:i = 0
  ·subst e; rw [up_same]; exact off_puts h h2
  ·rw [up_ne _ _ (Ne.symm e)]; exact h
theorem off_eT {t:Nat → Tb} {c key hs:Nat} {J:List Nat} (h:Off (t 0) c):Off (eT t key hs J 0) c:=by
 cases hf:fnd t key hs J with
 | none => rw [del_off hf]; exact h
 | some i =>
  rw [del_found hf]
  by_cases e:i = 0
  ·subst e; rw [up_same]; exact off_remove h
  ·rw [up_ne _ _ (Ne.symm e)]; exact h
/-- a dual that holds the partial function F -/
structure DM (a:String → Addr) (w1:World) (H:Nat → Nat) (la:Nat) (Y:Lay) (D n1 d:Nat) (dp:Int) (q c:Nat) (t:Nat → Tb) (F:Nat → Option Nat) (fp:List Nat) (W:World):Prop where
 da:DAt a w1 Y D n1 d dp q false t fp W
 du:∃ M,Du H la Y.N d F t M c
 tn:rdy Y n1 q = false → ∀ j,1 ≤ j → t j = Tb.new n1
 off:rdy Y n1 q = true → Off (t 0) (q - (Y.N - 1) * n1)
section
variable {a:String → Addr} {w1:World} {H:Nat → Nat} {la:Nat} {Y:Lay} {D n1 d:Nat} {dp:Int} {q c:Nat} {t:Nat → Tb} {F:Nat → Option Nat} {fp:List Nat} {W W':World} {Bm p v k:Nat}
theorem DM.read (h:DM a w1 H la Y D n1 d dp q c t F fp W) (hb:Below W.heap.size W W'):DM a w1 H la Y D n1 d dp q c t F fp W':=⟨h.da.read hb,h.du,h.tn,h.off⟩
theorem DM.aside {l:List Nat} (h:DM a w1 H la Y D n1 d dp q c t F fp W) (hp:Past l W W') (hl:∀ b ∈ l,w1.heap.size ≤ b ∧ b ∉ fp):DM a w1 H la Y D n1 d dp q c t F fp W':=⟨h.da.aside hp hl,h.du,h.tn,h.off⟩
theorem DM.rn (h:DM a w1 H la Y D n1 d dp q c t F fp W) (hr:rdy Y n1 q = true) {i:Nat} (h1:1 ≤ i) (hi:i < Y.N):(t i).n = n1:=by
 have hre:=h.da.re
 rw [hr] at hre
 have e:=hre.tn i hi
 obtain ⟨Q,pl⟩:=h.da.pl
 rw [e]
 exact pl.e1 i h1 hi
theorem DM.find (h:DM a w1 H la Y D n1 d dp q c t F fp W) (hla:la ≤ 1000) (hH:∀ key,key < la → H key < 18446744073709551616) {key:Nat} (hk:key < la) :
  Calls Tryz.prog 216 #[.pointer (some ⟨D,0,none⟩),.agg #[.pointer none],.int .u64 (key:Nat),.int .u64 (H key:Nat)] W fun e w' => ∃ ek ev eh,e = .returned (.tuple #[group.entV ek ev eh,.bool (F key).isSome]) ∧ (∀ u,F key = some u → ev = u) ∧ Below W.heap.size W w':=by
 have hN:=h.da.N
 obtain ⟨M,hs⟩:=h.du
 obtain ⟨s1,s2⟩:=hs.seekV (rd:=rdy Y n1 q) hN h.tn key
 refine (h.da.find (L:=.nil) (m:=Mt.zero) trivial (fun b hb => by cases hb) key (H key) (by omega) (hH _ hk)).mono fun e w' ⟨he,_,hst⟩ => by
  rw [s1] at he
  exact ⟨_,_,_,he,s2,Past.nil hst.past⟩
/-- a dual that is new -/
theorem DM.start (h:DAt a w1 Y D n1 d dp 0 false t fp W) (hn:n1 ≠ 0) {M0:Nat → Option Nat} (h0:RepN H la (t 0) M0) (ht:∀ j,1 ≤ j → t j = Tb.new n1) (hc:(t 0).len ≤ (c:Int)):DM a w1 H la Y D n1 d dp 0 c t M0 fp W:=by
 obtain ⟨Q,pl⟩:=h.pl
 refine ⟨h,⟨_,Du.start pl.N h0 (fun i h1 hi => ?_) hc⟩,fun _ => ht,fun e => ?_⟩
 ·rw [ht i h1]
  exact ⟨RepN.new pl.o1 H,rfl⟩
 ·have h1:(Y.N - 1) * n1 ≤ 0:=of_decide_eq_true e
  have h2:=Nat.mul_pos (show 0 < Y.N - 1 by have:=pl.N; omega) (Nat.pos_of_ne_zero hn)
  omega
end
end Go.Proofs.YtdplhgpeggcmdaaGreatDoor.dual
