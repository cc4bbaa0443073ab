/- dual: New. -/
import Derived.Test.YteedbnoefnlidaaGreatDoorDualMove
import Derived.Deep.AppendLies
import Derived.LoopTactic
namespace Go.Proofs.YteedbnoefnlidaaGreatDoor.dual
open Go.ChangeShapes Go.WideShapes Go.ChangeAt Go.RowKit Go.Shelf swar under trap meter group probe lens tail call table evac
attribute [local go_sem] Oper.semAt_some stage.pureUpon move.stepUpon
set_option linter.unusedSimpArgs false
set_option linter.unusedVariables false

theorem many_any (k : Int) (w : World) : Calls Tryz.prog 78 #[.int .i64 k] w fun e w' => e = .returned (.int .i64 (if k < 0 then 1 else 2)) ∧ w = w' := by
  by_cases h : k < 0
  · have d1 : decide (k < 0) = true := decide_eq_true h
    rw [if_pos h]
    clear h
    go_enter Tryz.func78, Tryz.ntmps78
    go_wp2
    go_ret
    exact ⟨rfl, rfl⟩
  · have d1 : decide (k < 0) = false := decide_eq_false h
    rw [if_neg h]
    clear h
    go_enter Tryz.func78, Tryz.ntmps78
    go_wp2
    go_ret
    exact ⟨rfl, rfl⟩
theorem infoBld : (Tryz.prog.info? 138).map (fun i => (i.zero, i.size, i.bytes)) = some (some (.pointer none), 1, 8) := by kernel_rfl
/-- the builds, as a list's cells -/
def bldV (Q : Nat → Nat) (j : Nat) : List Value := (List.range j).map fun i => .pointer (some ⟨Q (i + 1), 0, none⟩)
theorem bldV_up (Q : Nat → Nat) (j x : Nat) : bldV (up Q (j + 1) x) (j + 1) = bldV Q j ++ [.pointer (some ⟨x, 0, none⟩)] := by
  unfold bldV
  rw [List.range_succ, List.map_append]
  congr 1
  · refine List.map_congr_left fun i hi => ?_
    rw [up_ne _ _ (by have := List.mem_range.1 hi; omega)]
  · show [Value.pointer (some ⟨up Q (j + 1) x (j + 1), 0, none⟩)] = _
    rw [up_same]
/-- while the builds are made: j of them are -/
structure NwI (a : String → Addr) (w0 w : World) (Y : Lay) (D GT : Nat) (Q : Nat → Nat) (n1 : Nat) (dp : Int) (t : Nat → Tb) (j : Nat) (vB : Value) (W : World) : Prop where
  N : Y.N = j + 1
  e1 : ∀ i, 1 ≤ i → i < Y.N → Y.n i = n1
  row : DRow D (Y.n 0 + j * n1) 0 dp vB (.slice (some ⟨GT, 0, none⟩) 1 1) none (.slice none 0 0) W
  gt : W.cell? ⟨GT, 0, none⟩ = some (.pointer (some ⟨Y.T 0, 0, none⟩))
  re : Real a w0 (cut Y false) t W
  bx : ∀ i, 1 ≤ i → i < Y.N → build.BBox (Q i) n1 0 (some ⟨Y.T i, 0, none⟩) W
  tb : ∀ i, 1 ≤ i → i < Y.N → PAt (Y.T i) (Y.B i) n1 0 W
  own : W.ownsRow w.heap.size 138 1 vB j (bldV Q j)
  bel : Below w.heap.size w W
  hD : D = w.heap.size + 1
  hGT : GT = w.heap.size
  new : ∀ i, 1 ≤ i → i < Y.N → ∀ b ∈ [Y.T i, Y.B i, Q i], w.heap.size + 2 ≤ b ∧ b < W.heap.size
  sep : ∀ i i', 1 ≤ i → i < i' → i' < Y.N → ∀ b ∈ [Y.T i, Y.B i, Q i], b ∉ [Y.T i', Y.B i', Q i']
  ins : ∀ i, 1 ≤ i → i < Y.N → Q i ≠ Y.T i ∧ Q i ≠ Y.B i
  oB : ∀ g, vB.ownBlock = some g → w.heap.size + 2 ≤ g ∧ ∀ i, 1 ≤ i → i < Y.N → g ∉ [Y.T i, Y.B i, Q i]
  old : Y.T 0 < w.heap.size ∧ Y.B 0 < w.heap.size
section
variable {a : String → Addr} {w0 w : World} {Y : Lay} {D GT : Nat} {Q : Nat → Nat} {n1 : Nat} {dp : Int} {t : Nat → Tb} {j : Nat} {vB : Value} {W W' : World}
theorem NwI.next {W1 W3 : World} {Q' g1 c1 : Nat} {o : Obj} (h : NwI a w0 w Y D GT Q n1 dp t j vB W) (hbx : build.BBox Q' n1 0 (some ⟨W.heap.size + 1, 0, none⟩) W1) (htb : PAt (W.heap.size + 1) W.heap.size n1 0 W1) (hQ : W.heap.size + 1 < Q') (hb1 : Below W.heap.size W W1)
    (hr : W3.ownsRow w.heap.size 138 1 (.slice (some ⟨g1, 0, none⟩) (j + 1) c1) (j + 1) (bldV Q j ++ [.pointer (some ⟨Q', 0, none⟩)])) (hg : (W1.alloc o).grownBy W3 vB.ownBlock) (ha : vB.ownBlock = some g1 ∨ g1 = W1.heap.size + 1) :
    NwI a w0 w (Y.add (W.heap.size + 1) W.heap.size (Y.F 0) n1) D GT (up Q (j + 1) Q') n1 dp t (j + 1) (.slice (some ⟨g1, 0, none⟩) (j + 1) c1) ((W3.setCell ⟨D, 3, none⟩ (.slice (some ⟨g1, 0, none⟩) (j + 1) c1)).setCell ⟨D, 0, none⟩ (.int .i64 ((Y.n 0 + (j + 1) * n1 : Nat) : Int))) := by
  have hN := h.N
  have z1 := hb1.size
  have lQ := hbx.lt
  have lD := h.row.lt
  have lG := World.block_lt_of_cell? _ _ h.gt
  have hD := h.hD
  have hGT := h.hGT
  have hold := h.old
  have b2 := new_block W1 o
  have hb2 := under.below_step hb1 b2
  have sz2 : (W1.alloc o).heap.size = W1.heap.size + 1 := World.size_alloc _ _
  have mt : ∀ {o : Option Nat} {b : Nat}, b ∈ o.toList → o = some b := fun {o b} hb => by cases o with
    | none => cases hb
    | some x => simp at hb; rw [hb]
  have p3 := past_grown hg
  have z3 := p3.size
  have hgo : ∀ g, vB.ownBlock = some g → g < W.heap.size := fun g hg' => (row_lt h.own hg').2
  have pD : Past [D] W3 ((W3.setCell ⟨D, 3, none⟩ (.slice (some ⟨g1, 0, none⟩) (j + 1) c1)).setCell ⟨D, 0, none⟩ (.int .i64 ((Y.n 0 + (j + 1) * n1 : Nat) : Int))) := ((Past.refl [D] W3).store (.inl (by simp)) _).store (.inl (by simp)) _
  -- all that is written behind W but what is new: D, the builds' list
  have pa : Past (D :: vB.ownBlock.toList) W ((W3.setCell ⟨D, 3, none⟩ (.slice (some ⟨g1, 0, none⟩) (j + 1) c1)).setCell ⟨D, 0, none⟩ (.int .i64 ((Y.n 0 + (j + 1) * n1 : Nat) : Int))) := ((Past.of hb2).trans (p3.mono fun b hb => List.mem_cons_of_mem _ hb)).trans (pD.mono fun b hb => by
    obtain rfl : b = D := by simpa using hb
    exact List.mem_cons_self)
  have pn : Past (D :: vB.ownBlock.toList) W1 ((W3.setCell ⟨D, 3, none⟩ (.slice (some ⟨g1, 0, none⟩) (j + 1) c1)).setCell ⟨D, 0, none⟩ (.int .i64 ((Y.n 0 + (j + 1) * n1 : Nat) : Int))) := ((Past.of b2).trans (p3.mono fun b hb => List.mem_cons_of_mem _ hb)).trans (pD.mono fun b hb => by
    obtain rfl : b = D := by simpa using hb
    exact List.mem_cons_self)
  have zf := pn.size
  have nD : ∀ b, b ≠ D → (∀ g, vB.ownBlock = some g → b ≠ g) → b ∉ D :: vB.ownBlock.toList := fun b h1 h2 e => by
    rcases List.mem_cons.1 e with e | e
    · exact h1 e
    · exact h2 b (mt e) rfl
  have ob : ∀ i, 1 ≤ i → i < Y.N → ∀ b ∈ [Y.T i, Y.B i, Q i], b ∉ D :: vB.ownBlock.toList := fun i h1 hi b hb => nD b (by have := (h.new i h1 hi b hb).1; omega) (fun g hg' e => (h.oB g hg').2 i h1 hi (e ▸ hb))
  have far : ∀ b, W.heap.size ≤ b → b ∉ D :: vB.ownBlock.toList := fun b hb => nD b (by omega) (fun g hg' e => by have := hgo g hg'; omega)
  have cs : ∀ i, i < (Y.add (W.heap.size + 1) W.heap.size (Y.F 0) n1).N → i < Y.N ∨ i = j + 1 := fun i hi => by
    have : (Y.add (W.heap.size + 1) W.heap.size (Y.F 0) n1).N = Y.N + 1 := rfl
    omega
  have eT : ∀ i, i < Y.N → (Y.add (W.heap.size + 1) W.heap.size (Y.F 0) n1).T i = Y.T i ∧ (Y.add (W.heap.size + 1) W.heap.size (Y.F 0) n1).B i = Y.B i ∧ (Y.add (W.heap.size + 1) W.heap.size (Y.F 0) n1).n i = Y.n i ∧ up Q (j + 1) Q' i = Q i := fun i hi => by
    have e : i ≠ Y.N := by omega
    exact ⟨up_ne _ _ e, up_ne _ _ e, up_ne _ _ e, up_ne _ _ (by omega)⟩
  have eN : (Y.add (W.heap.size + 1) W.heap.size (Y.F 0) n1).T (j + 1) = W.heap.size + 1 ∧ (Y.add (W.heap.size + 1) W.heap.size (Y.F 0) n1).B (j + 1) = W.heap.size ∧ (Y.add (W.heap.size + 1) W.heap.size (Y.F 0) n1).n (j + 1) = n1 ∧ up Q (j + 1) Q' (j + 1) = Q' := by
    have : j + 1 = Y.N := hN.symm
    rw [this]
    exact ⟨up_same _ _ _, up_same _ _ _, up_same _ _ _, up_same _ _ _⟩
  have e0 := eT 0 (by omega)
  have gr : DRow D (Y.n 0 + j * n1) 0 dp vB (.slice (some ⟨GT, 0, none⟩) 1 1) none (.slice none 0 0) W3 := (h.row.keep hb2).past p3 (fun e => by have := (h.oB D (mt e)).1; omega)
  have hrow := (gr.set3 (.slice (some ⟨g1, 0, none⟩) (j + 1) c1)).set0 (Y.n 0 + (j + 1) * n1)
  refine ⟨by show Y.N + 1 = _; omega, fun i h1 hi => ?_, by rw [e0.2.2.1]; exact hrow, by rw [e0.1]; exact pa.cell h.gt (nD GT (by omega) (fun g hg' e => by have := (h.oB g hg').1; omega)), ?_, fun i h1 hi => ?_, fun i h1 hi => ?_, ?_, h.bel.trans (pa.below h.bel.size fun b hb => ?_), hD, hGT, fun i h1 hi b hb => ?_, fun i i' h1 h2 h3 b hb => ?_, fun i h1 hi => ?_, fun g hg' => ?_, by rw [e0.1, e0.2.1]; exact hold⟩
  · rcases cs i hi with hi | rfl
    · rw [(eT i hi).2.2.1]; exact h.e1 i h1 hi
    · exact eN.2.2.1
  · have r := h.re.past pa fun b hb => ⟨?_, fun e => ?_⟩
    · refine ⟨fun i hi => ?_, fun i hi => ?_, fun i hi => ?_, fun i k hi hk hne => ?_, fun b hb => ?_, r.bel, r.base⟩
      · obtain rfl : i = 0 := by have : i < 1 := hi; omega
        show TAt ((Y.add (W.heap.size + 1) W.heap.size (Y.F 0) n1).T 0) ((Y.add (W.heap.size + 1) W.heap.size (Y.F 0) n1).B 0) _ _
        rw [e0.1, e0.2.1]; exact r.at' 0 Nat.one_pos
      · obtain rfl : i = 0 := by have : i < 1 := hi; omega
        exact r.ok 0 Nat.one_pos
      · obtain rfl : i = 0 := by have : i < 1 := hi; omega
        show (t 0).n = (Y.add (W.heap.size + 1) W.heap.size (Y.F 0) n1).n 0
        rw [e0.2.2.1]; exact r.tn 0 Nat.one_pos
      · have : i < 1 := hi
        have : k < 1 := hk
        omega
      · refine r.new b ?_
        rcases cut_off hb with e | e
        · rw [e0.1] at e; subst e; exact Lay.tin (Y := cut Y false) Nat.one_pos (by simp [cut])
        · rw [e0.2.1] at e; subst e; exact Lay.tin (Y := cut Y false) Nat.one_pos (by simp [cut])
    · rcases List.mem_cons.1 hb with rfl | hb
      · have := h.re.bel.size
        have := h.re.new (Y.T 0) (Lay.tin (Y := cut Y false) Nat.one_pos (by simp [cut]))
        omega
      · have := (h.oB b (mt hb)).1
        have := h.re.new (Y.T 0) (Lay.tin (Y := cut Y false) Nat.one_pos (by simp [cut]))
        omega
    · have q : b = Y.T 0 ∨ b = Y.B 0 := cut_off e
      rcases List.mem_cons.1 hb with rfl | hb
      · omega
      · have := (h.oB b (mt hb)).1
        omega
  · rcases cs i hi with hi | rfl
    · rw [(eT i hi).2.2.2, (eT i hi).1]; exact (h.bx i h1 hi).past pa (ob i h1 hi _ (by simp))
    · rw [eN.1, eN.2.2.2]; exact hbx.past pn (far _ (by omega))
  · rcases cs i hi with hi | rfl
    · rw [(eT i hi).1, (eT i hi).2.1]; exact (h.tb i h1 hi).past pa (ob i h1 hi _ (by simp)) (ob i h1 hi _ (by simp))
    · rw [eN.1, eN.2.1]; exact htb.past pn (far _ (by omega)) (far _ (Nat.le_refl _))
  · rw [bldV_up]
    refine row_past2 hr pD fun g hg' e => ?_
    obtain rfl : g1 = g := by injection hg'
    obtain rfl : g1 = D := by simpa using e
    rcases ha with ha | ha
    · have := (h.oB _ ha).1; omega
    · omega
  · rcases List.mem_cons.1 hb with rfl | hb
    · omega
    · have := (h.oB b (mt hb)).1; omega
  · rcases cs i hi with hi | rfl
    · rw [(eT i hi).1, (eT i hi).2.1, (eT i hi).2.2.2] at hb
      have := h.new i h1 hi b hb
      omega
    · rw [eN.1, eN.2.1, eN.2.2.2] at hb
      have hz := h.bel.size
      simp only [List.mem_cons, List.not_mem_nil, or_false] at hb
      rcases hb with rfl | rfl | rfl <;> omega
  · have h3' : i' < Y.N ∨ i' = j + 1 := cs i' h3
    have hi : i < Y.N := by rcases h3' with h | h <;> omega
    rw [(eT i hi).1, (eT i hi).2.1, (eT i hi).2.2.2] at hb
    rcases h3' with h3 | rfl
    · rw [(eT i' h3).1, (eT i' h3).2.1, (eT i' h3).2.2.2]
      exact h.sep i i' h1 h2 h3 b hb
    · rw [eN.1, eN.2.1, eN.2.2.2]
      have := (h.new i h1 hi b hb).2
      intro e
      simp only [List.mem_cons, List.not_mem_nil, or_false] at e
      rcases e with e | e | e <;> omega
  · rcases cs i hi with hi | rfl
    · rw [(eT i hi).1, (eT i hi).2.1, (eT i hi).2.2.2]; exact h.ins i h1 hi
    · rw [eN.1, eN.2.1, eN.2.2.2]; omega
  · obtain rfl : g1 = g := by injection hg'
    refine ⟨?_, fun i h1 hi e => ?_⟩
    · rcases ha with ha | ha
      · exact (h.oB _ ha).1
      · omega
    · rcases cs i hi with hi | rfl
      · rw [(eT i hi).1, (eT i hi).2.1, (eT i hi).2.2.2] at e
        rcases ha with ha | ha
        · exact (h.oB _ ha).2 i h1 hi e
        · have := (h.new i h1 hi _ e).2; omega
      · rw [eN.1, eN.2.1, eN.2.2.2] at e
        simp only [List.mem_cons, List.not_mem_nil, or_false] at e
        rcases ha with ha | ha
        · have := hgo _ ha
          omega
        · have : Q' < W1.heap.size := lQ
          omega
end
end Go.Proofs.YteedbnoefnlidaaGreatDoor.dual
