/- table: Delete. -/
import Derived.Test.YtplhgcidegngiaaDoorTableOps
namespace Go.Proofs.YtplhgcidegngiaaDoor.table
open Go.ChangeShapes Go.WideShapes Go.ChangeAt Go.RowKit Go.Shelf swar under trap meter group probe lens tail call
attribute [local go_sem] Oper.semAt_some stage.pureUpon move.stepUpon
set_option linter.unusedSimpArgs false
set_option linter.unusedVariables false
/-- three cells are set -/
abbrev set3 (X k v h : Nat) (w : World) : World := ((w.setCell ⟨X, 0, none⟩ (.int .u64 (k : Nat))).setCell ⟨X, 1, none⟩ (.int .u64 (v : Nat))).setCell ⟨X, 2, none⟩ (.int .u64 (h : Nat))
theorem set3_other {X k v h b j : Nat} {w : World} (hb : b ≠ X) : (set3 X k v h w).cell? ⟨b, j, none⟩ = w.cell? ⟨b, j, none⟩ := by
  unfold set3; rw [World.cell?_setCell_other _ _ _ _ (off_b (Ne.symm hb)), World.cell?_setCell_other _ _ _ _ (off_b (Ne.symm hb)), World.cell?_setCell_other _ _ _ _ (off_b (Ne.symm hb))]
/-- the worlds of a region in which a call writes, and then three cells are set -/
def DelD (W : World) (A : World → Prop) (X k v h : Nat) : Nat → World → Prop
  | 0 => fun w' => ∃ q, w' = W.drewN q
  | 1 => A
  | _ => fun w' => ∃ w'', A w'' ∧ w' = set3 X k v h w''
theorem DelD.cell {W : World} {A : World → Prop} {X k v h b j : Nat} {u : Value} (hb : b ≠ X) (hc : W.cell? ⟨b, j, none⟩ = some u) (hA : ∀ w', A w' → w'.cell? ⟨b, j, none⟩ = some u) (q : stage.Un (DelD W A X k v h)) : q.W.cell? ⟨b, j, none⟩ = some u := by
  obtain ⟨i, w', h'⟩ := q
  match i, h' with
  | 0, ⟨q, e⟩ => show w'.cell? _ = _; rw [e]; exact hc
  | 1, h' => exact hA _ h'
  | i + 2, ⟨w'', ha, e⟩ => show w'.cell? _ = _; rw [e, set3_other hb]; exact hA _ ha
def SetD (W : World) (X k v h : Nat) : Nat → World → Prop
  | 0 => fun w' => ∃ q, w' = W.drewN q
  | _ => fun w' => ∃ q, w' = set3 X k v h (W.drewN q)
theorem SetD.cell {W : World} {X k v h b j : Nat} {u : Value} (hb : b ≠ X) (hc : W.cell? ⟨b, j, none⟩ = some u) (q : stage.Un (SetD W X k v h)) : q.W.cell? ⟨b, j, none⟩ = some u := by
  obtain ⟨i, w', h'⟩ := q
  match i, h' with
  | 0, ⟨q, e⟩ => show w'.cell? _ = _; rw [e]; exact hc
  | i + 1, ⟨q, e⟩ => show w'.cell? _ = _; rw [e, set3_other hb]; exact hc
/-- a store into a block that is new -/
theorem TL.newset {T B : Nat} {t : Tb} {L : Ln} {m : Mt} {w w' : World} (h : TL T B t L m w w') (hd : ∀ b ∈ L.d, b < w.heap.size) (hT : T < w.heap.size) (hB : B < w.heap.size) {p : Addr} (hp : w.heap.size ≤ p.block) (u : Value) : TL T B t L m w (w'.setCell p u) := by
  have k : Past [p.block] w' (w'.setCell p u) := (Past.refl [p.block] w').store (.inl (by simp)) u
  exact ⟨h.at'.past k (by simp; omega) (by simp; omega), h.ln.newset hd hp u⟩
end Go.Proofs.YtplhgcidegngiaaDoor.table
