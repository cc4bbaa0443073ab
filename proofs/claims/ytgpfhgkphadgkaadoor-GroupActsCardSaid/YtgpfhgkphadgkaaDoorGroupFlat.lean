/- group: the laws' acts and entries, as they come in. -/
import Derived.Test.YtgpfhgkphadgkaaDoorGroupOpen
import Derived.Test.YtgpfhgkphadgkaaDoorOpen
namespace Go.Proofs.YtgpfhgkphadgkaaDoor.group
open Go.ChangeShapes Go.WideShapes Go.ChangeAt Go.RowKit
set_option linter.unusedSimpArgs false
set_option linter.unusedVariables false
def qAct (j : Nat) : Value → Prop := if j < 2 then Go.Proofs.YtgpfhgkphadgkaaDoor.opens.intQ .i64 else Go.Proofs.YtgpfhgkphadgkaaDoor.opens.intQ .u64
theorem cells_u64 : Tryd.prog.cellsOf 33 = 1 := by kernel_rfl
theorem cells_int : Tryd.prog.cellsOf 3 = 1 := by kernel_rfl
theorem cells_entry : Tryd.prog.cellsOf 35 = 3 := by kernel_rfl
theorem cells_act : Tryd.prog.cellsOf 37 = 5 := by kernel_rfl
theorem flat_entry {H : Type} (enc : TypeId × Value → H) (W : World) (base : Nat) (spare : Nat → Bool) (held : Bool) : Go.Proofs.YtgpfhgkphadgkaaDoor.opens.Flat enc Tryd.prog W base spare held 35 3 (fun _ => Go.Proofs.YtgpfhgkphadgkaaDoor.opens.intQ .u64) := by
  refine Go.Proofs.YtgpfhgkphadgkaaDoor.opens.flat_struct (fun _ => 1) (fun _ _ => Go.Proofs.YtgpfhgkphadgkaaDoor.opens.intQ .u64) Tryd.underlying35 cells_entry (fun i f hf => ?_) (fun c hc => ?_)
  · match i, hf with
    | 0, hf => simp at hf; subst hf; exact Go.Proofs.YtgpfhgkphadgkaaDoor.opens.flat_scalar (Go.Proofs.YtgpfhgkphadgkaaDoor.opens.scalar_int cells_u64 Tryd.underlying33)
    | 1, hf => simp at hf; subst hf; exact Go.Proofs.YtgpfhgkphadgkaaDoor.opens.flat_scalar (Go.Proofs.YtgpfhgkphadgkaaDoor.opens.scalar_int cells_u64 Tryd.underlying33)
    | 2, hf => simp at hf; subst hf; exact Go.Proofs.YtgpfhgkphadgkaaDoor.opens.flat_scalar (Go.Proofs.YtgpfhgkphadgkaaDoor.opens.scalar_int cells_u64 Tryd.underlying33)
    | i + 3, hf => simp at hf
  · match c, hc with
    | 0, _ => exact ⟨0, _, 0, rfl, by decide, rfl, fun _ h => h⟩
    | 1, _ => exact ⟨1, _, 0, rfl, by decide, rfl, fun _ h => h⟩
    | 2, _ => exact ⟨2, _, 0, rfl, by decide, rfl, fun _ h => h⟩
theorem flat_act {H : Type} (enc : TypeId × Value → H) (W : World) (base : Nat) (spare : Nat → Bool) (held : Bool) : Go.Proofs.YtgpfhgkphadgkaaDoor.opens.Flat enc Tryd.prog W base spare held 37 5 qAct := by
  refine Go.Proofs.YtgpfhgkphadgkaaDoor.opens.flat_struct (fun i => if i = 2 then 3 else 1) (fun i _ => if i = 2 then Go.Proofs.YtgpfhgkphadgkaaDoor.opens.intQ .u64 else Go.Proofs.YtgpfhgkphadgkaaDoor.opens.intQ .i64) Tryd.underlying37 cells_act (fun i f hf => ?_) (fun c hc => ?_)
  · match i, hf with
    | 0, hf => simp at hf; subst hf; exact Go.Proofs.YtgpfhgkphadgkaaDoor.opens.flat_scalar (Go.Proofs.YtgpfhgkphadgkaaDoor.opens.scalar_int cells_int Tryd.underlying3)
    | 1, hf => simp at hf; subst hf; exact Go.Proofs.YtgpfhgkphadgkaaDoor.opens.flat_scalar (Go.Proofs.YtgpfhgkphadgkaaDoor.opens.scalar_int cells_int Tryd.underlying3)
    | 2, hf => simp at hf; subst hf; exact flat_entry enc W base spare held
    | i + 3, hf => simp at hf
  · match c, hc with
    | 0, _ => exact ⟨0, _, 0, rfl, by decide, rfl, fun _ h => h⟩
    | 1, _ => exact ⟨1, _, 0, rfl, by decide, rfl, fun _ h => h⟩
    | 2, _ => exact ⟨2, _, 0, rfl, by decide, rfl, fun _ h => h⟩
    | 3, _ => exact ⟨2, _, 1, rfl, by decide, rfl, fun _ h => h⟩
    | 4, _ => exact ⟨2, _, 2, rfl, by decide, rfl, fun _ h => h⟩
def actOf (z : Nat → Value) : Act := ⟨intOf (z 0), intOf (z 1), (intOf (z 2)).toNat, (intOf (z 3)).toNat, (intOf (z 4)).toNat⟩
theorem act_cells {s : Option Addr} {W : World} {i : Nat} {z : Nat → Value} (h : ∃ x, s = some x ∧ ∀ j, j < 5 → W.cell? (x.add (i * 5 + j)) = some (z j) ∧ qAct j (z j)) : ActCells s W i (actOf z) := by
  obtain ⟨x, hx, hc⟩ := h
  obtain ⟨h0, z0, e0, w0⟩ := hc 0 (by decide)
  obtain ⟨h1, z1, e1, w1⟩ := hc 1 (by decide)
  obtain ⟨h2, z2, e2, w2⟩ := hc 2 (by decide)
  obtain ⟨h3, z3, e3, w3⟩ := hc 3 (by decide)
  obtain ⟨h4, z4, e4, w4⟩ := hc 4 (by decide)
  have b1 := bounds_i64 w1
  have b2 := bounds_u64 w2
  have b3 := bounds_u64 w3
  have b4 := bounds_u64 w4
  have hlt := World.block_lt_of_cell? W _ h0
  have g1 : W.cell? ⟨(x.add (i * 5)).block, (x.add (i * 5)).off + 1, none⟩ = some (z 1) := by
    have e := h1
    rw [← Go.Deep.add_add] at e
    exact e
  have g2 : W.cell? ⟨(x.add (i * 5)).block, (x.add (i * 5)).off + 2, none⟩ = some (z 2) := by
    have e := h2
    rw [← Go.Deep.add_add] at e
    exact e
  have g3 : W.cell? ⟨(x.add (i * 5)).block, (x.add (i * 5)).off + 3, none⟩ = some (z 3) := by
    have e := h3
    rw [← Go.Deep.add_add] at e
    exact e
  have g4 : W.cell? ⟨(x.add (i * 5)).block, (x.add (i * 5)).off + 4, none⟩ = some (z 4) := by
    have e := h4
    rw [← Go.Deep.add_add] at e
    exact e
  rw [Nat.add_zero] at h0
  have t : ∀ y : Int, 0 ≤ y → ((y.toNat : Nat) : Int) = y := fun y hy => Int.toNat_of_nonneg hy
  have a0 : intOf (z 0) = z0 := by rw [e0]; rfl
  have a1 : intOf (z 1) = z1 := by rw [e1]; rfl
  have a2 : intOf (z 2) = z2 := by rw [e2]; rfl
  have a3 : intOf (z 3) = z3 := by rw [e3]; rfl
  have a4 : intOf (z 4) = z4 := by rw [e4]; rfl
  rw [e0] at h0
  rw [e1] at g1
  rw [e2] at g2
  rw [e3] at g3
  rw [e4] at g4
  refine ⟨⟨x, hx, fun W' hb => ?_⟩, ?_, ?_, ?_, ?_, ?_⟩
  · show W'.cell? (x.add (i * 5)) = some (Value.int .i64 (intOf (z 0))) ∧ _ = some (Value.int .i64 (intOf (z 1))) ∧ _ = some (Value.int .u64 (((intOf (z 2)).toNat : Nat) : Int)) ∧ _ = some (Value.int .u64 (((intOf (z 3)).toNat : Nat) : Int)) ∧ _ = some (Value.int .u64 (((intOf (z 4)).toNat : Nat) : Int))
    rw [a0, a1, a2, a3, a4, t _ b2.1, t _ b3.1, t _ b4.1]
    exact ⟨(hb.cell hlt).trans h0, (hb.cell (p := ⟨(x.add (i * 5)).block, (x.add (i * 5)).off + 1, none⟩) hlt).trans g1, (hb.cell (p := ⟨(x.add (i * 5)).block, (x.add (i * 5)).off + 2, none⟩) hlt).trans g2, (hb.cell (p := ⟨(x.add (i * 5)).block, (x.add (i * 5)).off + 3, none⟩) hlt).trans g3, (hb.cell (p := ⟨(x.add (i * 5)).block, (x.add (i * 5)).off + 4, none⟩) hlt).trans g4⟩
  · show -9223372036854775808 ≤ intOf (z 1); omega
  · show intOf (z 1) ≤ 9223372036854775807; omega
  · show (intOf (z 2)).toNat < _; omega
  · show (intOf (z 3)).toNat < _; omega
  · show (intOf (z 4)).toNat < _; omega
end Go.Proofs.YtgpfhgkphadgkaaDoor.group
