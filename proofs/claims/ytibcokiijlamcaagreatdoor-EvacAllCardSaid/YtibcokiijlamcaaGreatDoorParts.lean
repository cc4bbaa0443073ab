/- Parts: a struct by value whose fields are of one cell each: numbers, truth values, slices of integers. No program is named. -/
import Derived.Test.YtibcokiijlamcaaGreatDoorLaid
namespace Go.Proofs.YtibcokiijlamcaaGreatDoor.opens
open Go.ChangeShapes Go.WideShapes Go.ChangeAt Go.RowKit
variable {H : Type} {enc : TypeId × Value → H} {P : Program} {w : World} {base : Nat} {spare : Nat → Bool} {held : Bool}

/-- what is known of a part: it was trod as a value of its type -/
def Part (enc : TypeId × Value → H) (P : Program) (w : World) (base : Nat) (spare : Nat → Bool) (held : Bool) (t : TypeId) (c : Value) : Prop := ∃ fuel x, DataW.trod enc P w base spare held fuel t [c] = some x
theorem open_parts {r : Reach} {b0 : Nat} {t : TypeId} {fs : Array Field} {v : Value} {d : DataW H} {p : List MemPlace} (ht : P.underlying t = some (.struct fs))
    (hf : ∀ (i : Nat) (f : Field), fs[i]? = some f → f.offset = i ∧ P.cellsOf f.type = 1) (hct : P.cellsOf t = fs.size)
    (hv : Value.okWide P w r b0 t v) (h : DataW.Trod enc P w base spare held t v d p) : ∃ cs : List Value, v = .agg cs.toArray ∧ cs.length = fs.size ∧ ∀ (i : Nat) (f : Field) (c : Value), fs[i]? = some f → cs[i]? = some c → Part enc P w base spare held f.type c := by
  obtain ⟨cs, rfl, hsz, _⟩ : ∃ cs, v = .agg cs ∧ cs.size = P.cellsOf t ∧ Row.okWide P w r b0 t cs := by
    cases v <;> simp [Value.okWide, ht] at hv
    exact ⟨_, rfl, hv⟩
  obtain ⟨fuel, hfu⟩ := h
  obtain ⟨xs, m, _, hx, hl, hxl, hall⟩ := DataW.trod_struct ht hfu
  obtain ⟨cs⟩ := cs
  have hl' : cs.length = fs.size := by rw [hct] at hl; simpa [Value.cells] using hl
  refine ⟨cs, rfl, hl', fun i f c hi hc => ?_⟩
  have hi2 : i < fs.size := (Array.getElem?_eq_some_iff.1 hi).1
  obtain ⟨ho, hc1⟩ := hf i f hi
  have h1 := hall i f hi
  obtain ⟨b, hb⟩ : ∃ b, xs[i]? = some b := ⟨xs[i]'(by omega), List.getElem?_eq_getElem (by omega)⟩
  rw [hb, ho, hc1] at h1
  have e1 : (Value.agg ⟨cs⟩).cells.toList = cs := by simp [Value.cells]
  rw [e1] at h1
  have hic : i < cs.length := by omega
  have e2 : (cs.drop i).take 1 = [cs[i]] := by have := drop_one cs i hic; rwa [Nat.mul_one] at this
  rw [e2] at h1
  have e3 : cs[i] = c := by rw [List.getElem?_eq_getElem hic] at hc; exact Option.some.inj hc
  rw [e3] at h1
  exact ⟨_, _, h1⟩
theorem part_int {t : TypeId} {k : IntKind} {c : Value} (ht : P.underlying t = some (.int k)) (h : Part enc P w base spare held t c) : ∃ z, c = .int k z ∧ (Lit.int k z).wf = true := by
  obtain ⟨fuel, x, hx⟩ := h
  obtain ⟨z, ez, _, wz⟩ := DataW.trod_int ht hx
  simp only [List.cons.injEq, and_true] at ez
  exact ⟨z, ez, wz⟩
theorem part_bool {t : TypeId} {c : Value} (ht : P.underlying t = some .bool) (h : Part enc P w base spare held t c) : ∃ z, c = .bool z := by
  obtain ⟨fuel, x, hx⟩ := h
  obtain ⟨z, ez, _⟩ := trod_bool ht hx
  simp only [List.cons.injEq, and_true] at ez
  exact ⟨z, ez⟩
theorem part_ints {t e : TypeId} {k : IntKind} {c : Value} (ht : P.underlying t = some (.slice e)) (he : P.underlying e = some (.int k)) (hce : P.cellsOf e = 1) (h : Part enc P w base spare held t c) :
    ∃ (s : Option Addr) (len cap : Nat) (zs : Nat → Int), c = .slice s len cap ∧ ∀ i, i < len → ∃ x, s = some x ∧ w.cell? (x.add i) = some (.int k (zs i)) ∧ (Lit.int k (zs i)).wf = true := by
  obtain ⟨fuel, x, hx⟩ := h
  rcases Go.ChangeShapes.open_ints ht he hce hx with ⟨h0, _⟩ | ⟨a, l, c', zs, h0, _, _, _, hz, _, hc, hw⟩
  · simp only [List.cons.injEq, and_true] at h0
    exact ⟨none, 0, 0, fun _ => 0, h0, fun i hi => by omega⟩
  · simp only [List.cons.injEq, and_true] at h0
    have hl : l ≤ zs.length := by rw [hz]; split <;> omega
    refine ⟨some a, l, c', fun i => zs.getD i 0, h0, fun i hi => ⟨a, rfl, hc i (by omega), hw _ ?_⟩⟩
    show zs.getD i 0 ∈ zs
    rw [List.getD_eq_getElem?_getD, List.getElem?_eq_getElem (by omega)]; exact List.getElem_mem _
theorem cells7 {cs : List Value} (h : cs.length = 7) : ∃ a b c d e f g, cs = [a, b, c, d, e, f, g] := by
  match cs, h with
  | [a, b, c, d, e, f, g], _ => exact ⟨a, b, c, d, e, f, g, rfl⟩
end Go.Proofs.YtibcokiijlamcaaGreatDoor.opens
