/- 'CreditActs': for every list of acts the law returns true, and the list reads as it did. No condition of ours. -/
import Derived.Test.YtbldjegeaphocaaRows
import Derived.Test.YtbldjegeaphocaaCreditActs
import Derived.Test.YtbldjegeaphocaaOpen
import Derived.OpenShut
import Derived.ChangeOld
import Derived.Deep.DeepHandedRow
import Derived.Lib.LaidTab
namespace Go.Proofs.Ytbldjegeaphocaa.creditActs
open Go.ChangeShapes Go.WideShapes Go.ChangeAt Go.RowKit
open Go.ChangeMaps (open_string shut_string)

theorem own : ownKnob Try.prog.godebug = none := by kernel_rfl
theorem laidOut : laidOutB Try.prog = true := by kernel_rfl
theorem cells_amblerlaw07_Act : Try.prog.cellsOf 32 = 3 := by kernel_rfl
theorem cells_float64 : Try.prog.cellsOf 25 = 1 := by kernel_rfl
theorem cells_int : Try.prog.cellsOf 3 = 1 := by kernel_rfl
def q0 : Nat → Value → Prop
  | 0 => opens.intQ .i64
  | 1 => opens.intQ .i64
  | 2 => opens.floatQ .f64
  | _ => fun _ => True

set_option maxRecDepth 100000 in
theorem contract (H : Type) (enc : TypeId × Value → H) (W : World) (base : Nat) (args : Array Value) (ds gs : List (DataW H)) (before : List MemPlace)
    (hval : ∀ (j : Nat) t v, Try.f3.params[j]? = some t → args[j]? = some v → Value.okWide Try.prog W .any base t v)
    (hW : DataW.Whole enc Try.prog Try.f3.params.toList Rows.creditActsSpec.vars false W args.toList ds gs before) :
    Calls Try.prog 3 args W fun e W' => ∃ v, e = .returned v ∧ Rows.creditActsSpec.post enc Try.prog Try.f3 false true false false W args v W' := by
  have hW' := hW
  obtain ⟨p, q, hA0, hV, rfl, hfz, hnd⟩ := hW
  have hA : DataW.TrodAll enc Try.prog W 0 (fun _ => true) true Try.f3.params.toList args.toList ds p := hA0
  rw [Try.params3] at hA hval
  obtain ⟨v0, vs0, d0, ds0, p0, q0, hargs, rfl, rfl, h0, r0⟩ := trodAll_cons hA
  obtain ⟨rfl, rfl, rfl⟩ := trodAll_nil r0
  obtain rfl : args = #[v0] := by cases args; simp_all
  obtain ⟨rfl, rfl⟩ := trodVars_none hV
  have k0 := h0
  have lt0 : ∀ x ∈ p0, x.block < W.heap.size := by obtain ⟨m, hm⟩ := k0; exact DataW.trod_lt m _ _ _ hm
  obtain ⟨s0, len0, cap0, zv0, rfl, c0⟩ := opens.open_scalars_arg q0 Try.underlying22 Try.underlying32 (fun j f hj => by
    match j, hj with
    | 0, hj => simp at hj; subst hj; exact ⟨rfl, opens.scalar_int cells_int Try.underlying3⟩
    | 1, hj => simp at hj; subst hj; exact ⟨rfl, opens.scalar_int cells_int Try.underlying3⟩
    | 2, hj => simp at hj; subst hj; exact ⟨rfl, opens.scalar_float cells_float64 Try.underlying25⟩
    | j + 3, hj => simp at hj) cells_amblerlaw07_Act (hval 0 22 v0 rfl rfl) h0
  clear hA0
  refine (credit.acts_any s0 len0 cap0 (fun i => intOf (zv0 i 0)) (fun i => intOf (zv0 i 1)) (fun i => opens.floatOf (zv0 i 2)) W (fun i hi => by
    obtain ⟨x, hx, hc⟩ := c0 i hi
    obtain ⟨h0, z0, e0, w0⟩ := hc 0 (by decide)
    obtain ⟨h1, z1, e1, w1⟩ := hc 1 (by decide)
    obtain ⟨h2, z2, e2, w2⟩ := hc 2 (by decide)
    have hlt := World.block_lt_of_cell? W _ h0
    have bn := bounds_i64 w1
    have bf : z2 < 18446744073709551616 := by simpa [Lit.wf] using w2
    have g1 : W.cell? ⟨(x.add (i * 3)).block, (x.add (i * 3)).off + 1, none⟩ = some (zv0 i 1) := by
      have e := h1
      rw [show ((#[_, _, _] : Array Field).size) = 3 from rfl, ← Go.Deep.add_add] at e
      exact e
    have g2 : W.cell? ⟨(x.add (i * 3)).block, (x.add (i * 3)).off + 2, none⟩ = some (zv0 i 2) := by
      have e := h2
      rw [show ((#[_, _, _] : Array Field).size) = 3 from rfl, ← Go.Deep.add_add] at e
      exact e
    rw [e0] at h0
    rw [e1] at g1
    rw [e2] at g2
    show credit.ActCells s0 W i (intOf (zv0 i 0)) (intOf (zv0 i 1)) (opens.floatOf (zv0 i 2))
    rw [e0, e1, e2]
    exact ⟨⟨x, hx, fun W' hb => ⟨(hb.cell hlt).trans h0, (hb.cell (p := ⟨(x.add (i * 3)).block, (x.add (i * 3)).off + 1, none⟩) hlt).trans g1, (hb.cell (p := ⟨(x.add (i * 3)).block, (x.add (i * 3)).off + 2, none⟩) hlt).trans g2⟩⟩, by show -9223372036854775808 ≤ z1; omega, by show z1 ≤ 9223372036854775807; omega, bf⟩)).mono fun e W' ⟨he, hg⟩ => ?_
  subst he
  exact ⟨_, rfl, _, _, _, [], _, [], hW', trodAll_mk1 (shut_bool Try.underlying4 _), (trodAll_cons_mk (Below.trod laidOut (by kernel_rfl) (of_decide_eq_true (by kernel_rfl)) k0 hg lt0) trodAll_mk0), rfl, hg.frame _, fun h => by cases h⟩

set_option maxRecDepth 100000 in
theorem lifted (os : Os) (started : os.Started) (H : Type) (enc : TypeId × Value → H) :
    ReturnsInHanded {} Try.checked os 3 .any (Rows.creditActsSpec.pre6 enc Try.prog Try.f3 Rows.creditActsRow.domain false) (Rows.creditActsSpec.post enc Try.prog Try.f3 false true false false) := by
  refine returnsInHanded_of_change (C := Try.checked) own started (by kernel_rfl) Try.func3
    (ChangeSpec.witness6 (enc := enc) (C := Try.checked) false ⟨#[], #[.slice none 0 0], []⟩ 8 (by kernel_rfl) (by kernel_rfl) (by kernel_rfl) (by kernel_rfl)) ?_
  intro W base args ds gs before hval hW hcnd _
  exact contract H enc W base args ds gs before hval hW

theorem said : Rows.CreditActsSaid :=
  OpenClaim.holds_of_wide 3 Try.f3 rfl rfl rfl rfl rfl rfl rfl ⟨rfl, rfl, rfl, rfl, rfl⟩ rfl rfl rfl rfl rfl (by kernel_rfl) Try.func3 (by kernel_rfl)
    (of_decide_eq_true (by kernel_rfl)) (by unfold Func.isWrapper; first | (rw [if_pos (by decide +kernel)]; kernel_rfl) | (rw [if_neg (by decide +kernel)]; exact ⟨rfl, rfl⟩))
    (fun os started H enc _ => lifted os started H enc)
end Go.Proofs.Ytbldjegeaphocaa.creditActs
