/- group: Clear, Look; a new group. -/
import Derived.Test.YtlgjmnckdjkngaaDoorGroupWrites
import Derived.Deep.WholeRow
import Derived.Laws.CopyOwn
import Derived.Deep.RegionWith
import Derived.Laws.IdiomCopy
namespace Go.Proofs.YtlgjmnckdjkngaaDoor.group
open Go.ChangeShapes Go.WideShapes Go.ChangeAt Go.RowKit swar trap under meter tail
set_option linter.unusedSimpArgs false
set_option linter.unusedVariables false

/-- stores into cells side by side -/
def fills (B o : Nat) : List Value → Nat → World → World
  | [], _, w => w
  | v :: r, k, w => fills B o r (k + 1) (w.setCell ⟨B, o + k, none⟩ v)
theorem fills_past {B o : Nat} {x : World} : ∀ (l : List Value) (k : Nat) (w : World), Past [B] x w → Past [B] x (fills B o l k w)
  | [], _, _, h => h
  | v :: r, k, w, h => fills_past r (k + 1) _ (h.store (.inl (by simp)) v)
theorem fills_side {B o n : Nat} {x : World} : ∀ (l : List Value) (k : Nat) (w : World), k + l.length ≤ n → Beside B o n x w → Beside B o n x (fills B o l k w)
  | [], _, _, _, h => h
  | v :: r, k, w, hk, h => fills_side r (k + 1) _ (by simp at hk; omega) (h.store (o + k) (by omega) (by simp at hk; omega) v)
theorem fills_other {B o : Nat} : ∀ (l : List Value) (k : Nat) (w : World) (j : Nat), (j < o + k ∨ o + k + l.length ≤ j) → (fills B o l k w).cell? ⟨B, j, none⟩ = w.cell? ⟨B, j, none⟩
  | [], _, _, _, _ => rfl
  | v :: r, k, w, j, h => by
    rw [fills, fills_other r (k + 1) _ j (by simp at h; omega), World.cell?_setCell_other _ _ _ _ (off_ne (by simp at h; omega))]
theorem fills_at {B o : Nat} : ∀ (l : List Value) (k : Nat) (w : World) (j : Nat) (v : Value), l[j]? = some v → (∀ i, i < k + l.length → (w.cell? ⟨B, o + i, none⟩).isSome = true) → (fills B o l k w).cell? ⟨B, o + k + j, none⟩ = some v
  | u :: r, k, w, 0, v, h, hs => by
    simp only [List.getElem?_cons_zero, Option.some.injEq] at h
    subst h
    rw [fills, fills_other r (k + 1) _ _ (by omega)]
    exact World.cell?_setCell_same' _ _ _ (hs k (by simp))
  | u :: r, k, w, j + 1, v, h, hs => by
    rw [List.getElem?_cons_succ] at h
    rw [fills, show o + k + (j + 1) = o + (k + 1) + j by omega]
    refine fills_at r (k + 1) _ j v h fun i hi => ?_
    by_cases e : i = k
    · subst e; rw [World.cell?_setCell_same' _ _ _ (hs i (by simp))]; rfl
    · rw [World.cell?_setCell_other _ _ _ _ (off_ne (by omega))]; exact hs i (by simp at hi ⊢; omega)
/-- what there is at a group's place, whatever the cells hold -/
structure Room (B o : Nat) (w : World) : Prop where
  cells : ∀ i, i < 25 → (w.cell? ⟨B, o + i, none⟩).isSome = true
  fz : ∀ i, w.frozen? ⟨B, i, none⟩ = false
theorem Room.lt {B o : Nat} {w : World} (h : Room B o w) : B < w.heap.size := by
  have h0 := h.cells 0 (by decide)
  obtain ⟨v, hv⟩ := Option.isSome_iff_exists.1 h0
  exact World.block_lt_of_cell? w _ hv
theorem off25 {i : Nat} (h : i < 25) : i = 0 ∨ ∃ j d, j < 8 ∧ d < 3 ∧ i = 1 + j * 3 + d := by
  rcases Nat.eq_zero_or_pos i with e | e
  · exact .inl e
  · exact .inr ⟨(i - 1) / 3, (i - 1) % 3, by omega, by omega, by omega⟩
theorem GAt.room {B o : Nat} {g : Gp} {w : World} (h : GAt B o g w) : Room B o w := by
  refine ⟨fun i hi => ?_, h.fz⟩
  rcases off25 hi with rfl | ⟨j, d, hj, hd, rfl⟩
  · rw [show o + 0 = o from rfl, h.word]; rfl
  · rcases (show d = 0 ∨ d = 1 ∨ d = 2 by omega) with rfl | rfl | rfl
    · rw [show o + (1 + j * 3 + 0) = o + 1 + j * 3 by omega, h.key j hj]; rfl
    · rw [show o + (1 + j * 3 + 1) = o + 1 + j * 3 + 1 by omega, h.val j hj]; rfl
    · rw [show o + (1 + j * 3 + 2) = o + 1 + j * 3 + 2 by omega, h.hash j hj]; rfl
theorem newRow_zero : ∀ i, i < 25 → i ≠ 0 → newRow.toList[i]? = some (.int .u64 0) := by
  intro i hi h0
  have h : i = 1 ∨ i = 2 ∨ i = 3 ∨ i = 4 ∨ i = 5 ∨ i = 6 ∨ i = 7 ∨ i = 8 ∨ i = 9 ∨ i = 10 ∨ i = 11 ∨ i = 12 ∨ i = 13 ∨ i = 14 ∨ i = 15 ∨ i = 16 ∨ i = 17 ∨ i = 18 ∨ i = 19 ∨ i = 20 ∨ i = 21 ∨ i = 22 ∨ i = 23 ∨ i = 24 := by omega
  rcases h with rfl | rfl | rfl | rfl | rfl | rfl | rfl | rfl | rfl | rfl | rfl | rfl | rfl | rfl | rfl | rfl | rfl | rfl | rfl | rfl | rfl | rfl | rfl | rfl <;> rfl
/-- a new group in cells -/
theorem GAt.of_new {B o : Nat} {w : World} (h : ∀ i, i < 25 → w.cell? ⟨B, o + i, none⟩ = newRow.toList[i]?) (fz : ∀ i, w.frozen? ⟨B, i, none⟩ = false) : GAt B o .new w := by
  have z : ∀ i, i < 8 → ∀ d, d < 3 → w.cell? ⟨B, o + 1 + i * 3 + d, none⟩ = some (.int .u64 0) := fun i hi d hd => by
    rw [show o + 1 + i * 3 + d = o + (1 + i * 3 + d) by omega, h _ (by omega)]; exact newRow_zero _ (by omega) (by omega)
  exact ⟨h 0 (by decide), fun i hi => z i hi 0 (by decide), fun i hi => z i hi 1 (by decide), fun i hi => z i hi 2 (by decide), fz⟩
theorem GAt.new (w : World) : GAt w.heap.size 0 .new (w.alloc (.cells newRow 89)) := by
  have hr := World.alloc_heap_new w (.cells newRow 89)
  refine GAt.of_new (fun i hi => ?_) fun i => frozen_of_row _ _ i _ _ hr
  rw [Nat.zero_add, cell_of_row _ _ i _ _ _ hr]
  simp
theorem Room.clear {B o : Nat} {x : World} (h : Room B o x) : GStep B o .new x (fills B o newRow.toList 0 x) := by
  have s : Beside B o 25 x (fills B o newRow.toList 0 x) := fills_side newRow.toList 0 x (by decide) (Beside.refl _ _ _ _)
  refine ⟨fills_past _ _ _ (Past.refl _ _), s, GAt.of_new (fun i hi => ?_) fun i => by rw [s.frozen]; exact h.fz i⟩
  obtain ⟨v, hv⟩ : ∃ v, newRow.toList[i]? = some v := ⟨_, List.getElem?_eq_getElem (show i < newRow.toList.length from hi)⟩
  rw [hv]
  have e := fills_at (B := B) (o := o) newRow.toList 0 x i v hv fun j hj => h.cells j (by simpa [newRow] using hj)
  simpa using e
theorem fills_set (B o : Nat) : ∀ (l : List Value) (k : Nat) (w : World), w.setCells B (o + k) l = fills B o l k w
  | [], _, _ => rfl
  | v :: r, k, w => fills_set B o r (k + 1) (w.setCell ⟨B, o + k, none⟩ v)
theorem newRow_one : ∀ v ∈ newRow.toList, v.oneCell' = true := by
  intro v hv
  simp only [newRow, List.mem_cons, List.not_mem_nil, or_false] at hv
  rcases hv with rfl | hv
  · rfl
  · have : v = .int .u64 0 := by simpa using hv
    subst this; rfl
theorem wp_store_fills {P : Program} {oo : Oper} {a : Act} {w : World} {K : Act → World → Prop} {Q : Exit → Act → World → Prop} {B o : Nat} (ty : TypeId) (x y : Operand) (ho : oo.op = .store ty x y)
    (hx : a.eval x = .pointer (some ⟨B, o, none⟩)) (hy : a.eval y = .agg newRow) (hi : (P.info? ty).map (·.size) = some newRow.size) (hR : Room B o w)
    (h : K (a.put oo.dst undef) (fills B o newRow.toList 0 w)) : oo.wp P a w K Q := by
  have hst : (storeVar ty ⟨B, o, none⟩ (.agg newRow)).run P w = .ok () (fills B o newRow.toList 0 w) := by
    have h1 := run_storeCells_cells (P := P) B o newRow.toList 0 w (fun j hj => hR.cells j hj) (fun j _ => hR.fz _) newRow_one
    rw [fills_set] at h1
    cases hq : P.info? ty with
    | none => simp [hq] at hi
    | some i =>
      have hs : newRow.size = i.size := by simp [hq] at hi; omega
      simpa [storeVar, sizeOf, typeInfo, hq, Value.cells, hs] using h1
  unfold Oper.wp execOp
  simp only [ho, hx, hy, Instr.storeAt, Instr.sureAddr, Sem.run_bind, Sem.run_pure, Result.andThen_ok, hst]
  exact h
theorem Room.below {B o : Nat} {w w' : World} (h : Room B o w) (hb : Below w.heap.size w w') : Room B o w' :=
  ⟨fun i hi => by rw [World.cell?_of_block (w := w) (hb.block B h.lt)]; exact h.cells i hi, fun i => (World.frozen?_of_block (w := w) (hb.block B h.lt)).trans (h.fz i)⟩
set_option maxRecDepth 20000 in
set_option maxHeartbeats 1000000 in
theorem clear_any (B o : Nat) (w : World) (h : Room B o w) :
    Calls Tryd.prog 31 #[.agg #[.pointer (some ⟨B, o, none⟩)]] w fun e w' => e = .returned (.tuple #[]) ∧ GStep B o .new w w' := by
  have hlt := h.lt
  have c : ∀ W, W = (w.alloc (.cells #[.pointer (some ⟨B, o, none⟩)] 69)).drew → W.cell? ⟨w.heap.size, 0, none⟩ = some (.pointer (some ⟨B, o, none⟩)) ∧ Calls Tryd.prog 44 #[] W fun e w' => e = .returned (.pointer (some ⟨w.heap.size + 1, 0, none⟩)) ∧ w'.heap[w.heap.size + 1]? = some (.cells newRow 89 (0, 0)) ∧ w'.cell? ⟨w.heap.size, 0, none⟩ = some (.pointer (some ⟨B, o, none⟩)) ∧ Room B o w' ∧ GStep B o .new w (fills B o newRow.toList 0 w') := fun W hW => by
    have hb : Below w.heap.size w W := by rw [hW]; exact (new_block w _).drew
    have hs : W.heap.size = w.heap.size + 1 := by rw [hW]; simp [World.drew]
    have hc : W.cell? ⟨w.heap.size, 0, none⟩ = some (.pointer (some ⟨B, o, none⟩)) := by rw [hW]; simp [go_sem]
    clear hW
    refine ⟨hc, (new_any W).mono ?_⟩
    rintro e w' ⟨rfl, rfl⟩
    have hb2 : Below w.heap.size w (W.alloc (.cells newRow 89)) := under.below_step hb (new_block W _)
    have hR := h.below hb2
    refine ⟨by rw [hs], by rw [← hs]; exact World.alloc_heap_new W _, ?_, hR, ?_⟩
    · rw [World.cell?_of_block (w := W) (Below.heap_alloc W _ _ (show w.heap.size < W.heap.size by omega))]; exact hc
    · have s := hR.clear
      exact ⟨(Past.of hb2).trans s.past, (Beside.of_block (hb2.block B hlt)).trans s.side, s.at'⟩
  go_enter Tryd.func31, Tryd.ntmps31
  go_wp2
  refine wp_region_any (by kernel_rfl) ?_
  obtain ⟨W0, hW⟩ : ∃ W0, (w.alloc (.cells #[.pointer (some ⟨B, o, none⟩)] 69)).drew = W0 := ⟨_, rfl⟩
  show wpAny _ _ _ _ _ _ _ (w.alloc (.cells #[.pointer (some ⟨B, o, none⟩)] 69)).drew
  rw [hW]
  obtain ⟨hc0, c⟩ := c _ hW.symm
  clear hW
  refine wpAny_take (i := 0) (v := .pointer (some ⟨w.heap.size, 0, none⟩)) rfl (by kernel_rfl) (by kernel_rfl) (by kernel_rfl) (fun _ _ _ h => h) (Or.inl ⟨by rfl, fun wx => by go_simp⟩) ?_
  refine wpAny_ready (rs := [1, 2]) (by kernel_rfl) (by simp) ?_
  refine AllReady.cons rfl (fun K hK => ?_) ?_
  go_simp
  refine hK _ _ ?_
  clear hK K
  · refine wpAny_ready (rs := [2]) (by kernel_rfl) (by simp) ?_
    refine AllReady.cons rfl (fun K hK => ?_) AllReady.nil
    go_simp
    refine c.mono ?_
    rintro e w' ⟨rfl, hrow, hc, hR, hG⟩
    refine hK _ _ ?_
    clear hK K
    refine wpAny_take (i := 3) (v := .pointer (some ⟨w.heap.size + 1, 0, none⟩)) rfl (by kernel_rfl) (by kernel_rfl) (by kernel_rfl) (fun _ _ _ h => h) (Or.inl ⟨by rfl, fun wx => by go_simp⟩) ?_
    refine wpAny_ready (rs := [4]) (by kernel_rfl) (by simp) ?_
    refine AllReady.cons rfl (fun K hK => ?_) AllReady.nil
    rw [if_pos (by rfl)]
    refine wp_load_row 89 (.tmp 5) rfl (w.heap.size + 1) rfl 89 newRow (0, 0) _ hrow Tryd.underlying89 rfl (by kernel_rfl) ?_
    refine hK _ _ ?_
    clear hK K
    refine wpAny_take (i := 5) (v := .pointer (some ⟨B, o, none⟩)) rfl (by kernel_rfl) (by kernel_rfl) (by kernel_rfl) (fun _ _ _ h => h) (Or.inl ⟨by rfl, fun wx => by go_simp⟩) ?_
    refine wpAny_ready (rs := [6]) (by kernel_rfl) (by simp) ?_
    refine AllReady.cons rfl (fun K hK => ?_) AllReady.nil
    rw [if_pos (by rfl)]
    refine wp_store_fills 89 (.tmp 7) (.tmp 6) rfl rfl rfl (by kernel_rfl) hR ?_
    refine hK _ _ ?_
    clear hK K
    refine wpAny_done (by kernel_rfl) ?_ _
    go_wp2; go_end0; exact ⟨rfl, hG⟩
  · refine AllReady.cons rfl (fun K hK => ?_) AllReady.nil
    go_simp
    refine c.mono ?_
    rintro e w' ⟨rfl, hrow, hc, hR, hG⟩
    refine hK _ _ ?_
    clear hK K
    refine wpAny_take (i := 3) (v := .pointer (some ⟨w.heap.size + 1, 0, none⟩)) rfl (by kernel_rfl) (by kernel_rfl) (by kernel_rfl) (fun _ _ _ h => h) (Or.inl ⟨by rfl, fun wx => by go_simp⟩) ?_
    refine wpAny_ready (rs := [1, 4]) (by kernel_rfl) (by simp) ?_
    refine AllReady.cons rfl (fun K hK => ?_) ?_
    go_simp
    refine hK _ _ ?_
    clear hK K
    · refine wpAny_ready (rs := [4]) (by kernel_rfl) (by simp) ?_
      refine AllReady.cons rfl (fun K hK => ?_) AllReady.nil
      rw [if_pos (by rfl)]
      refine wp_load_row 89 (.tmp 5) rfl (w.heap.size + 1) rfl 89 newRow (0, 0) _ hrow Tryd.underlying89 rfl (by kernel_rfl) ?_
      refine hK _ _ ?_
      clear hK K
      refine wpAny_take (i := 5) (v := .pointer (some ⟨B, o, none⟩)) rfl (by kernel_rfl) (by kernel_rfl) (by kernel_rfl) (fun _ _ _ h => h) (Or.inl ⟨by rfl, fun wx => by go_simp⟩) ?_
      refine wpAny_ready (rs := [6]) (by kernel_rfl) (by simp) ?_
      refine AllReady.cons rfl (fun K hK => ?_) AllReady.nil
      rw [if_pos (by rfl)]
      refine wp_store_fills 89 (.tmp 7) (.tmp 6) rfl rfl rfl (by kernel_rfl) hR ?_
      refine hK _ _ ?_
      clear hK K
      refine wpAny_done (by kernel_rfl) ?_ _
      go_wp2; go_end0; exact ⟨rfl, hG⟩
    · refine AllReady.cons rfl (fun K hK => ?_) AllReady.nil
      rw [if_pos (by rfl)]
      refine wp_load_row 89 (.tmp 5) rfl (w.heap.size + 1) rfl 89 newRow (0, 0) _ hrow Tryd.underlying89 rfl (by kernel_rfl) ?_
      refine hK _ _ ?_
      clear hK K
      refine wpAny_ready (rs := [1]) (by kernel_rfl) (by simp) ?_
      refine AllReady.cons rfl (fun K hK => ?_) AllReady.nil
      go_simp
      refine hK _ _ ?_
      clear hK K
      refine wpAny_take (i := 5) (v := .pointer (some ⟨B, o, none⟩)) rfl (by kernel_rfl) (by kernel_rfl) (by kernel_rfl) (fun _ _ _ h => h) (Or.inl ⟨by rfl, fun wx => by go_simp⟩) ?_
      refine wpAny_ready (rs := [6]) (by kernel_rfl) (by simp) ?_
      refine AllReady.cons rfl (fun K hK => ?_) AllReady.nil
      rw [if_pos (by rfl)]
      refine wp_store_fills 89 (.tmp 7) (.tmp 6) rfl rfl rfl (by kernel_rfl) hR ?_
      refine hK _ _ ?_
      clear hK K
      refine wpAny_done (by kernel_rfl) ?_ _
      go_wp2; go_end0; exact ⟨rfl, hG⟩
end Go.Proofs.YtlgjmnckdjkngaaDoor.group
