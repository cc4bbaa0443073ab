/- GroupOrder: the law, from an argument's cells. -/
import Derived.Test.YtgpfhgkphadgkaaDoorGroupOrder
import Derived.Test.YtgpfhgkphadgkaaDoorGroupFlat
namespace Go.Proofs.YtgpfhgkphadgkaaDoor.group
open Go.ChangeShapes Go.WideShapes Go.ChangeAt Go.RowKit swar trap under meter tail
set_option linter.unusedSimpArgs false
set_option linter.unusedVariables false
def slOf (z : Nat → Value) : Sl := ⟨3, (intOf (z 0)).toNat, (intOf (z 1)).toNat, (intOf (z 2)).toNat⟩
theorem ent_cells {s : Option Addr} {W : World} {i : Nat} {z : Nat → Value} (h : ∃ x, s = some x ∧ ∀ j, j < 3 → W.cell? (x.add (i * 3 + j)) = some (z j) ∧ Go.Proofs.YtgpfhgkphadgkaaDoor.opens.intQ .u64 (z j)) : EntCells s W i (slOf z) := by
  obtain ⟨x, hx, hc⟩ := h
  obtain ⟨h0, z0, e0, w0⟩ := hc 0 (by decide)
  obtain ⟨h1, z1, e1, w1⟩ := hc 1 (by decide)
  obtain ⟨h2, z2, e2, w2⟩ := hc 2 (by decide)
  have b0 := bounds_u64 w0
  have b1 := bounds_u64 w1
  have b2 := bounds_u64 w2
  have g1 : W.cell? ⟨(x.add (i * 3)).block, (x.add (i * 3)).off + 1, none⟩ = some (z 1) := by
    have e := h1
    rw [← Go.Deep.add_add] at e
    exact e
  have g2 : W.cell? ⟨(x.add (i * 3)).block, (x.add (i * 3)).off + 2, none⟩ = some (z 2) := by
    have e := h2
    rw [← Go.Deep.add_add] at e
    exact e
  rw [Nat.add_zero] at h0
  have t : ∀ y : Int, 0 ≤ y → ((y.toNat : Nat) : Int) = y := fun y hy => Int.toNat_of_nonneg hy
  have a0 : intOf (z 0) = z0 := by rw [e0]; rfl
  have a1 : intOf (z 1) = z1 := by rw [e1]; rfl
  have a2 : intOf (z 2) = z2 := by rw [e2]; rfl
  rw [e0] at h0
  rw [e1] at g1
  rw [e2] at g2
  refine ⟨⟨x, hx, fun W' hb => ?_⟩, ⟨.inr (.inr rfl), ?_, ?_, ?_, fun h => absurd rfl h⟩, rfl⟩
  · have c : ∀ {p v}, W.cell? p = some v → W'.cell? p = some v := fun {p v} hc => (hb.cell (World.block_lt_of_cell? W p hc)).trans hc
    simp only [slOf, a0, a1, a2, t z0 b0.1, t z1 b1.1, t z2 b2.1]
    exact ⟨c h0, c g1, c g2⟩
  · simp only [slOf, a0]; omega
  · simp only [slOf, a1]; omega
  · simp only [slOf, a2]; omega
theorem order_many (s : Option Addr) (la ca : Nat) (mk mv mh : Nat) (h7 : 7 < la) (x : Addr) (w : World) (hr : w.cell? ⟨1, 0, none⟩ = some (errs.errV x)) :
    Calls Tryd.prog 5 #[.slice s la ca, entV mk mv mh] w fun e w' => e = .returned (.bool true) ∧ Below w.heap.size w w' := by
  have hb0 := new_block w (.cells #[.int .u64 (mk : Nat), .int .u64 (mv : Nat), .int .u64 (mh : Nat)] 35)
  have hA := alive_any x _ ((hb0.cell (World.block_lt_of_cell? w _ hr)).trans hr)
  have h1 : (7 : Int) < (la : Int) := by omega
  go_enter Tryd.func5, Tryd.ntmps5
  go_wp2_with (go_at_call 6; refine hA.mono ?_; rintro e w1 ⟨rfl, hb1⟩)
  go_ret
  exact ⟨rfl, under.below_step hb0 hb1⟩
theorem order_law (a : String → Addr) (s : Option Addr) (la ca : Nat) (ez : Nat → Sl) (mk mv mh : Nat) (hmk : mk < 18446744073709551616) (hmv : mv < 18446744073709551616) (hmh : mh < 18446744073709551616) (w : World) (hE : Errs2 a w) (hT : TabOk w) (hA : ∀ j, j < la → EntCells s w j (ez j)) :
    Calls Tryd.prog 5 #[.slice s la ca, .agg #[.int .u64 (mk : Nat), .int .u64 (mv : Nat), .int .u64 (mh : Nat)]] w fun e w' => e = .returned (.bool true) ∧ Below w.heap.size w w' := by
  rcases Nat.lt_or_ge 7 la with h | h
  · exact order_many s la ca mk mv mh h _ w hE.state
  · exact order_few a s la ca ez mk mv mh hmh hmk hmv h w hE hT hA
end Go.Proofs.YtgpfhgkphadgkaaDoor.group
