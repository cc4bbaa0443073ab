/- table: where a table lies; steps of a table and of a lens' meter. -/
import Derived.Test.YtplhgcidegngiaaDoorTablePart
import Derived.Test.YtplhgcidegngiaaDoorLens
namespace Go.Proofs.YtplhgcidegngiaaDoor.table
open Go.RowKit errs under trap meter group probe lens
set_option linter.unusedSimpArgs false
set_option linter.unusedVariables false

/-- a table at a block T, its groups in the block B -/
structure TAt (T B : Nat) (t : Tb) (w : World) : Prop where
  row : w.cell? ⟨T, 0, none⟩ = some (.slice (some ⟨B, 0, none⟩) t.n t.n)
  len : w.cell? ⟨T, 1, none⟩ = some (.int .i64 t.len)
  tombs : w.cell? ⟨T, 2, none⟩ = some (.int .i64 t.tombs)
  fz : ∀ i, w.frozen? ⟨T, i, none⟩ = false
  gs : ∀ i, i < t.n → GAt B (i * 25) (t.gs i) w
  ne : T ≠ B
  lb : B < w.heap.size
theorem TAt.lt {T B : Nat} {t : Tb} {w : World} (h : TAt T B t w) : T < w.heap.size := World.block_lt_of_cell? w _ h.row
theorem TAt.of_blocks {T B : Nat} {t : Tb} {w w' : World} (h : TAt T B t w) (hT : w'.heap[T]? = w.heap[T]?) (hB : w'.heap[B]? = w.heap[B]?) (hz : w.heap.size ≤ w'.heap.size) : TAt T B t w' :=
  have c : ∀ i v, w.cell? ⟨T, i, none⟩ = some v → w'.cell? ⟨T, i, none⟩ = some v := fun i v hc => (World.cell?_of_block (w := w) hT).trans hc
  ⟨c _ _ h.row, c _ _ h.len, c _ _ h.tombs, fun i => (World.frozen?_of_block (w := w) hT).trans (h.fz i), fun i hi => (h.gs i hi).of_block hB, h.ne, Nat.lt_of_lt_of_le h.lb hz⟩
theorem TAt.below {T B : Nat} {t : Tb} {w w' : World} (h : TAt T B t w) (hb : Below w.heap.size w w') : TAt T B t w' := h.of_blocks (hb.block T h.lt) (hb.block B h.lb) hb.size
theorem TAt.past {T B : Nat} {t : Tb} {w w' : World} {d : List Nat} (h : TAt T B t w) (hp : Past d w w') (hT : T ∉ d) (hB : B ∉ d) : TAt T B t w' := h.of_blocks (hp.block T h.lt hT) (hp.block B h.lb hB) hp.size
theorem TAt.drewN {T B : Nat} {t : Tb} {w : World} (h : TAt T B t w) (q : Nat) : TAt T B t (w.drewN q) := h.of_blocks rfl rfl (Nat.le_refl _)
/-- the group i is another one behind a step of it -/
theorem TAt.gstep {T B : Nat} {t : Tb} {w w' : World} (h : TAt T B t w) {i : Nat} {g : Gp} (hs : group.GStep B (i * 25) g w w') : TAt T B ⟨t.n, upd t.gs i g, t.len, t.tombs⟩ w' := by
  have nT : T ∉ [B] := by simpa using h.ne
  have c : ∀ i v, w.cell? ⟨T, i, none⟩ = some v → w'.cell? ⟨T, i, none⟩ = some v := fun i v hc => hs.past.cell hc nT
  refine ⟨c _ _ h.row, c _ _ h.len, c _ _ h.tombs, fun j => (hs.past.frozen h.lt nT).trans (h.fz j), fun j hj => ?_, h.ne, Nat.lt_of_lt_of_le h.lb hs.past.size⟩
  show GAt B (j * 25) (upd t.gs i g j) w'
  by_cases e : j = i
  · subst e; rw [upd_same]; exact hs.at'
  · rw [upd_ne _ _ e]
    have hg := h.gs j hj
    have cc : ∀ d v, d < 25 → w.cell? ⟨B, j * 25 + d, none⟩ = some v → w'.cell? ⟨B, j * 25 + d, none⟩ = some v := fun d v hd hc => by
      rw [hs.side.cells _ (by omega)]; exact hc
    refine ⟨cc 0 _ (by decide) hg.word, fun k hk => ?_, fun k hk => ?_, fun k hk => ?_, fun k => by rw [hs.side.frozen]; exact hg.fz k⟩
    · have := cc (1 + k * 3) _ (by omega) (by have := hg.key k hk; rwa [Nat.add_assoc] at this)
      rwa [← Nat.add_assoc] at this
    · have := cc (1 + k * 3 + 1) _ (by omega) (by have := hg.val k hk; rwa [show j * 25 + 1 + k * 3 + 1 = j * 25 + (1 + k * 3 + 1) by omega] at this)
      rwa [show j * 25 + (1 + k * 3 + 1) = j * 25 + 1 + k * 3 + 1 by omega] at this
    · have := cc (1 + k * 3 + 2) _ (by omega) (by have := hg.hash k hk; rwa [show j * 25 + 1 + k * 3 + 2 = j * 25 + (1 + k * 3 + 2) by omega] at this)
      rwa [show j * 25 + (1 + k * 3 + 2) = j * 25 + 1 + k * 3 + 2 by omega] at this
/-- the counts are others -/
theorem TAt.count {T B : Nat} {t : Tb} {w : World} (h : TAt T B t w) (len tombs : Int) : TAt T B ⟨t.n, t.gs, len, tombs⟩ ((w.setCell ⟨T, 2, none⟩ (.int .i64 tombs)).setCell ⟨T, 1, none⟩ (.int .i64 len)) := by
  obtain ⟨h0, h1, h2, hf, hg, ne, lb⟩ := h
  refine ⟨?_, ?_, ?_, fun i => by simp [go_sem, hf], fun i hi => (hg i hi).of_block ?_, ne, by simpa [World.setCell] using lb⟩
  · simp [World.cell?_setCell_other, h0]
  · exact World.cell?_setCell_same' _ _ _ (by simp [World.cell?_setCell_other, h1])
  · rw [World.cell?_setCell_other _ _ _ _ (off_ne (by decide))]; exact World.cell?_setCell_same' _ _ _ (by rw [h2]; rfl)
  · exact (Below.heap_setCell _ ⟨T, 1, none⟩ _ _ (by simpa using Ne.symm ne)).trans (Below.heap_setCell _ ⟨T, 2, none⟩ _ _ (by simpa using Ne.symm ne))
theorem TAt.setLen {T B : Nat} {t : Tb} {w : World} (h : TAt T B t w) (len : Int) : TAt T B ⟨t.n, t.gs, len, t.tombs⟩ (w.setCell ⟨T, 1, none⟩ (.int .i64 len)) := by
  obtain ⟨h0, h1, h2, hf, hg, ne, lb⟩ := h
  refine ⟨?_, ?_, ?_, fun i => by simp [go_sem, hf], fun i hi => (hg i hi).of_block ?_, ne, by simpa [World.setCell] using lb⟩
  · simp [World.cell?_setCell_other, h0]
  · exact World.cell?_setCell_same' _ _ _ (by rw [h1]; rfl)
  · rw [World.cell?_setCell_other _ _ _ _ (off_ne (by decide))]; exact h2
  · exact Below.heap_setCell _ ⟨T, 1, none⟩ _ _ (by simpa using Ne.symm ne)
theorem TAt.setTombs {T B : Nat} {t : Tb} {w : World} (h : TAt T B t w) (tombs : Int) : TAt T B ⟨t.n, t.gs, t.len, tombs⟩ (w.setCell ⟨T, 2, none⟩ (.int .i64 tombs)) := by
  obtain ⟨h0, h1, h2, hf, hg, ne, lb⟩ := h
  refine ⟨?_, ?_, ?_, fun i => by simp [go_sem, hf], fun i hi => (hg i hi).of_block ?_, ne, by simpa [World.setCell] using lb⟩
  · simp [World.cell?_setCell_other, h0]
  · rw [World.cell?_setCell_other _ _ _ _ (off_ne (by decide))]; exact h1
  · exact World.cell?_setCell_same' _ _ _ (by rw [h2]; rfl)
  · exact Below.heap_setCell _ ⟨T, 2, none⟩ _ _ (by simpa using Ne.symm ne)
/-- a step of a table -/
structure TStep (T B : Nat) (t : Tb) (w w' : World) : Prop where
  past : Past [T, B] w w'
  at' : TAt T B t w'
theorem TStep.of {T B : Nat} {t : Tb} {w w' : World} (h : TAt T B t w) (hb : Below w.heap.size w w') : TStep T B t w w' := ⟨Past.of hb, h.below hb⟩
theorem TStep.trans {T B : Nat} {t t' : Tb} {x y z : World} (h : TStep T B t x y) (k : TStep T B t' y z) : TStep T B t' x z := ⟨h.past.trans k.past, k.at'⟩
theorem TStep.below {T B : Nat} {t : Tb} {x y z : World} (h : TStep T B t x y) (k : Below y.heap.size y z) : TStep T B t x z := h.trans (.of h.at' k)
theorem TStep.of_g {T B : Nat} {t : Tb} {w w' : World} (h : TAt T B t w) {i : Nat} {g : Gp} (hs : group.GStep B (i * 25) g w w') : TStep T B ⟨t.n, upd t.gs i g, t.len, t.tombs⟩ w w' := ⟨hs.past.mono fun k hk => by simp at hk ⊢; exact .inr hk, h.gstep hs⟩
theorem TStep.store {T B : Nat} {t t' : Tb} {x y : World} (h : TStep T B t x y) (i : Nat) (u : Value) (k : TAt T B t' (y.setCell ⟨T, i, none⟩ u)) : TStep T B t' x (y.setCell ⟨T, i, none⟩ u) := ⟨h.past.store (.inl (by simp)) u, k⟩
theorem TStep.drewN {T B : Nat} {t : Tb} {x y : World} (h : TStep T B t x y) (q : Nat) : TStep T B t x (y.drewN q) := ⟨h.past.drewN q, h.at'.drewN q⟩
/-- a step of a table and of a lens' meter -/
structure TL (T B : Nat) (t : Tb) (L : Ln) (m : Mt) (w w' : World) : Prop where
  at' : TAt T B t w'
  ln : LnStep [T, B] L m w w'
/-- the meter lies elsewhere -/
def Apart (T B : Nat) (L : Ln) : Prop := ∀ b ∈ L.d, b ≠ T ∧ b ≠ B
theorem Apart.t {T B : Nat} {L : Ln} (h : Apart T B L) : T ∉ L.d := fun e => (h T e).1 rfl
theorem Apart.b {T B : Nat} {L : Ln} (h : Apart T B L) : B ∉ L.d := fun e => (h B e).2 rfl
theorem Apart.nil (T B : Nat) : Apart T B .nil := fun b hb => (by cases hb)
theorem TL.of {T B : Nat} {t : Tb} {L : Ln} {m : Mt} {w w' : World} (h : TAt T B t w) (hl : LnAt L m w) (hb : Below w.heap.size w w') : TL T B t L m w w' := ⟨h.below hb, .of _ hl hb⟩
theorem TL.trans {T B : Nat} {t t' : Tb} {L : Ln} {m m' : Mt} {x y z : World} (h : TL T B t L m x y) (k : TL T B t' L m' y z) : TL T B t' L m' x z := ⟨k.at', h.ln.trans k.ln⟩
theorem TL.below {T B : Nat} {t : Tb} {L : Ln} {m : Mt} {x y z : World} (h : TL T B t L m x y) (k : Below y.heap.size y z) : TL T B t L m x z := ⟨h.at'.below k, h.ln.below k⟩
theorem TL.look {T B : Nat} {t : Tb} {L : Ln} {m : Mt} {w w' : World} (h : TAt T B t w) (ha : Apart T B L) (hs : LnStep [] L m w w') : TL T B t L m w w' :=
  ⟨h.past hs.past (by simpa using ha.t) (by simpa using ha.b), hs.mono fun b hb => (by cases hb)⟩
theorem TL.step {T B : Nat} {t t' : Tb} {L : Ln} {m : Mt} {x y z : World} (h : TL T B t L m x y) (ha : Apart T B L) (k : TStep T B t' y z) : TL T B t' L m x z :=
  ⟨k.at', h.ln.trans (.of_past h.ln.at' k.past fun b hb => by have := ha b hb; simp; exact this)⟩
end Go.Proofs.YtplhgcidegngiaaDoor.table
