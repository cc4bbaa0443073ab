/- Opening an array of integers that is handed over by value. No program is named. -/
import Derived.OpenShut
import Derived.ProofKit
import Derived.WalkKit
namespace Go.Proofs.YtfnfdofenaegpaaDoor.opens
open Go.ChangeShapes Go.WideShapes Go.ChangeAt Go.RowKit
variable {H : Type} {enc : TypeId × Value → H} {P : Program} {w : World} {base : Nat} {spare : Nat → Bool} {held : Bool}

theorem drop_one (cs : List Value) (i : Nat) (h : i < cs.length) : (cs.drop (i * 1)).take 1 = [cs[i]] := by
  rw [Nat.mul_one, List.drop_eq_getElem_cons h]; rfl
theorem ints_of (k : IntKind) : ∀ (cs : List Value), (∀ i (h : i < cs.length), ∃ z, cs[i] = .int k z ∧ (Lit.int k z).wf = true) → ∃ zs : List Int, cs = zs.map (Value.int k) ∧ ∀ z ∈ zs, (Lit.int k z).wf = true
  | [], _ => ⟨[], rfl, fun _ h => by cases h⟩
  | c :: cs, h => by
    obtain ⟨z, hz, wz⟩ := h 0 (by simp)
    obtain ⟨zs, hzs, wzs⟩ := ints_of k cs (fun i hi => by have := h (i + 1) (by simpa using hi); simpa using this)
    simp only [List.getElem_cons_zero] at hz
    subst hz
    refine ⟨z :: zs, by simp [hzs], fun y hy => ?_⟩
    rcases List.mem_cons.1 hy with rfl | hy
    · exact wz
    · exact wzs y hy
/-- an array of integers by value: its numbers, each of its kind -/
theorem open_array_int {r : Reach} {b0 : Nat} {t e : TypeId} {n : Nat} {k : IntKind} {v : Value} {d : DataW H} {p : List MemPlace} (ht : P.underlying t = some (.array n e)) (he : P.underlying e = some (.int k)) (hce : P.cellsOf e = 1) (hct : P.cellsOf t = n)
    (hv : Value.okWide P w r b0 t v) (h : DataW.Trod enc P w base spare held t v d p) : ∃ zs : List Int, zs.length = n ∧ v = .agg ((zs.map (Value.int k)).toArray) ∧ ∀ z ∈ zs, (Lit.int k z).wf = true := by
  obtain ⟨cs, rfl, hsz, _⟩ : ∃ cs, v = .agg cs ∧ cs.size = P.cellsOf t ∧ Row.okWide P w r b0 t cs := by
    cases v <;> simp [Value.okWide, ht] at hv
    exact ⟨_, rfl, hv⟩
  obtain ⟨fuel, hf⟩ := h
  obtain ⟨xs, m, _, _, hl, hlen, hg⟩ := DataW.trod_array ht hf
  obtain ⟨cs⟩ := cs
  have hl' : cs.length = n := by rw [hct] at hl; simpa [Value.cells] using hl
  obtain ⟨zs, rfl, wzs⟩ := ints_of k cs (fun i hi => by
    have hi' : i < xs.length := by omega
    have h1 := hg i (by omega)
    rw [hce] at h1
    have e1 : (Value.agg ⟨cs⟩).cells.toList = cs := by simp [Value.cells]
    rw [e1, drop_one cs i hi, List.getElem?_eq_getElem hi'] at h1
    obtain ⟨z, ez, _, wz⟩ := DataW.trod_int he h1
    simp only [List.cons.injEq, and_true] at ez
    exact ⟨z, ez, wz⟩)
  exact ⟨zs, by simpa using hl', rfl, wzs⟩
theorem list2 {α : Type} {l : List α} (h : l.length = 2) : ∃ a b, l = [a, b] := by
  match l, h with
  | [a, b], _ => exact ⟨a, b, rfl⟩
theorem list8 {α : Type} {l : List α} (h : l.length = 8) : ∃ a b c d e f g i, l = [a, b, c, d, e, f, g, i] := by
  match l, h with
  | [a, b, c, d, e, f, g, i], _ => exact ⟨a, b, c, d, e, f, g, i, rfl⟩
end Go.Proofs.YtfnfdofenaegpaaDoor.opens
