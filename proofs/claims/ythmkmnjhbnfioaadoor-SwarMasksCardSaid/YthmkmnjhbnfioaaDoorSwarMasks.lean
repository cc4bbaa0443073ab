/- SwarMasks: the walk. -/
import Derived.Test.YthmkmnjhbnfioaaDoorSwarMasks0
namespace Go.Proofs.YthmkmnjhbnfioaaDoor.swar
open Go.ChangeShapes Go.WideShapes Go.ChangeAt Go.RowKit Go.Shelf
attribute [local go_sem] Oper.semAt_some

/-- the marks of the high lanes, as a value -/
def hiAgg (n : Nat) : Value := bagg8 (decide (128 ≤ ((ln n 0 : Nat) : Int))) (decide (128 ≤ ((ln n 1 : Nat) : Int))) (decide (128 ≤ ((ln n 2 : Nat) : Int))) (decide (128 ≤ ((ln n 3 : Nat) : Int))) (decide (128 ≤ ((ln n 4 : Nat) : Int))) (decide (128 ≤ ((ln n 5 : Nat) : Int))) (decide (128 ≤ ((ln n 6 : Nat) : Int))) (decide (128 ≤ ((ln n 7 : Nat) : Int)))
def eqAgg (n b : Nat) : Value := bagg8 (((ln n 0 : Nat) : Int) == (b : Int)) (((ln n 1 : Nat) : Int) == (b : Int)) (((ln n 2 : Nat) : Int) == (b : Int)) (((ln n 3 : Nat) : Int) == (b : Int)) (((ln n 4 : Nat) : Int) == (b : Int)) (((ln n 5 : Nat) : Int) == (b : Int)) (((ln n 6 : Nat) : Int) == (b : Int)) (((ln n 7 : Nat) : Int) == (b : Int))
theorem ref_high' (n : Nat) (hn : n < 18446744073709551616) (w : World) :
    Calls Tryd.prog 14 #[.int .u64 n] w fun e w' => e = .returned (hiAgg n) ∧ Below w.heap.size w w' := ref_high n hn w
theorem ref_list' (n : Nat) (w : World) : Calls Tryd.prog 15 #[hiAgg n] w (ListPost (tl n) w) := by
  have c := ref_list (decide (128 ≤ ((ln n 0 : Nat) : Int))) (decide (128 ≤ ((ln n 1 : Nat) : Int))) (decide (128 ≤ ((ln n 2 : Nat) : Int))) (decide (128 ≤ ((ln n 3 : Nat) : Int))) (decide (128 ≤ ((ln n 4 : Nat) : Int))) (decide (128 ≤ ((ln n 5 : Nat) : Int))) (decide (128 ≤ ((ln n 6 : Nat) : Int))) (decide (128 ≤ ((ln n 7 : Nat) : Int))) w
  rwa [lst_tl] at c
theorem ref_mask_hi (n : Nat) (w : World) : Calls Tryd.prog 18 #[hiAgg n] w fun e w' => e = .returned (.int .u64 (hiM n : Nat)) ∧ Below w.heap.size w w' := by
  have c := ref_mask (decide (128 ≤ ((ln n 0 : Nat) : Int))) (decide (128 ≤ ((ln n 1 : Nat) : Int))) (decide (128 ≤ ((ln n 2 : Nat) : Int))) (decide (128 ≤ ((ln n 3 : Nat) : Int))) (decide (128 ≤ ((ln n 4 : Nat) : Int))) (decide (128 ≤ ((ln n 5 : Nat) : Int))) (decide (128 ≤ ((ln n 6 : Nat) : Int))) (decide (128 ≤ ((ln n 7 : Nat) : Int))) w
  rwa [mask_hi] at c
theorem ref_mask_eq (n b : Nat) (w : World) : Calls Tryd.prog 18 #[eqAgg n b] w fun e w' => e = .returned (.int .u64 (eqM n b : Nat)) ∧ Below w.heap.size w w' := by
  have c := ref_mask (((ln n 0 : Nat) : Int) == (b : Int)) (((ln n 1 : Nat) : Int) == (b : Int)) (((ln n 2 : Nat) : Int) == (b : Int)) (((ln n 3 : Nat) : Int) == (b : Int)) (((ln n 4 : Nat) : Int) == (b : Int)) (((ln n 5 : Nat) : Int) == (b : Int)) (((ln n 6 : Nat) : Int) == (b : Int)) (((ln n 7 : Nat) : Int) == (b : Int)) w
  rwa [mask_eq] at c
theorem ref_equal' (n b : Nat) (hn : n < 18446744073709551616) (w : World) :
    Calls Tryd.prog 19 #[.int .u64 n, .int .u8 b] w fun e w' => e = .returned (eqAgg n b) ∧ Below w.heap.size w w' := ref_equal n b hn w

/-- a list in a row of the call's own, cell by cell -/
theorem Holds.cell {base : Nat} {W : World} {g c : Nat} {l : List Nat} {v : Value} (h : Holds base W v l) (hv : v = .slice (some ⟨g, 0, none⟩) l.length c) :
    ∀ j, j < l.length → W.cell? ⟨g, j, none⟩ = some (.int .i64 (l[j]?.getD 0 : Nat)) := by
  subst hv
  intro j hj
  have hc := h.1.cells (g := g) rfl j (enc l[j]) (by simp [hj])
  have ea : ((⟨g, 0, none⟩ : Addr).add j) = ⟨g, j, none⟩ := by unfold Addr.add; split <;> simp_all
  rw [ea] at hc
  rw [hc, enc, List.getElem?_eq_getElem hj]; rfl
theorem hrow_base {base : Nat} {W : World} {g c len : Nat} {l : List Nat} (h : Holds base W (.slice (some ⟨g, 0, none⟩) len c) l) : base ≤ g := h.base g rfl
theorem Holds.lt {base : Nat} {W : World} {g c : Nat} {l : List Nat} {v : Value} (h : Holds base W v l) (hv : v = .slice (some ⟨g, 0, none⟩) l.length c) : g < W.heap.size := by
  subst hv
  rcases h.1.2 with ⟨h, _⟩ | ⟨g', c', cur, h, _, hg, _⟩
  · cases h
  · cases h; exact (Array.getElem?_eq_some_iff.1 hg).1
/-- whatever a cell holds -/
def valAt (W : World) (a : Addr) : Value := (W.cell? a).getD undef
theorem valAt_of {W : World} {a : Addr} {v : Value} (h : W.cell? a = some v) : W.cell? a = some (valAt W a) := by simp [valAt, h]
/-- what stays behind a call that makes memory alone -/
theorem keptM {W W' : World} {n H X g1 c1 g2 D R : Nat} {p0 p1 p2 p3 p4 p5 p6 p7 : Bool} (hb : Below W.heap.size W W') (h : W.cell? ⟨H, 0, none⟩ = some (.bool p0) ∧ W.cell? ⟨H, 1, none⟩ = some (.bool p1) ∧ W.cell? ⟨H, 2, none⟩ = some (.bool p2) ∧ W.cell? ⟨H, 3, none⟩ = some (.bool p3) ∧ W.cell? ⟨H, 4, none⟩ = some (.bool p4) ∧ W.cell? ⟨H, 5, none⟩ = some (.bool p5) ∧ W.cell? ⟨H, 6, none⟩ = some (.bool p6) ∧ W.cell? ⟨H, 7, none⟩ = some (.bool p7) ∧ W.cell? ⟨0, 62, none⟩ = some (.int .u8 7) ∧ W.cell? ⟨0, 51, none⟩ = some (.int .u8 15) ∧ W.cell? ⟨0, 46, none⟩ = some (.int .u8 23) ∧ W.cell? ⟨0, 54, none⟩ = some (.int .u8 31) ∧ W.cell? ⟨0, 25, none⟩ = some (.int .u8 39) ∧ W.cell? ⟨0, 17, none⟩ = some (.int .u8 47) ∧ W.cell? ⟨0, 33, none⟩ = some (.int .u8 55) ∧ W.cell? ⟨0, 32, none⟩ = some (.int .u8 63) ∧ W.cell? ⟨X, 0, none⟩ = some (.slice (some ⟨g1, 0, none⟩) (tl n).length c1) ∧ (∀ j, j < (tl n).length → W.cell? ⟨g1, j, none⟩ = some (.int .i64 ((tl n)[j]?.getD 0 : Nat))) ∧ (∀ j, j < (tl n).length → W.cell? ⟨g2, j, none⟩ = some (.int .i64 ((tl n)[j]?.getD 0 : Nat))) ∧ W.cell? ⟨R, 0, none⟩ = some (valAt W ⟨R, 0, none⟩) ∧ W.frozen? ⟨R, 0, none⟩ = false ∧ W.heap[D]? = some (.deferred (some [])) ∧ H < W.heap.size ∧ 0 < W.heap.size ∧ X < W.heap.size ∧ g1 < W.heap.size ∧ g2 < W.heap.size ∧ R < W.heap.size) :
    W'.cell? ⟨H, 0, none⟩ = some (.bool p0) ∧ W'.cell? ⟨H, 1, none⟩ = some (.bool p1) ∧ W'.cell? ⟨H, 2, none⟩ = some (.bool p2) ∧ W'.cell? ⟨H, 3, none⟩ = some (.bool p3) ∧ W'.cell? ⟨H, 4, none⟩ = some (.bool p4) ∧ W'.cell? ⟨H, 5, none⟩ = some (.bool p5) ∧ W'.cell? ⟨H, 6, none⟩ = some (.bool p6) ∧ W'.cell? ⟨H, 7, none⟩ = some (.bool p7) ∧ W'.cell? ⟨0, 62, none⟩ = some (.int .u8 7) ∧ W'.cell? ⟨0, 51, none⟩ = some (.int .u8 15) ∧ W'.cell? ⟨0, 46, none⟩ = some (.int .u8 23) ∧ W'.cell? ⟨0, 54, none⟩ = some (.int .u8 31) ∧ W'.cell? ⟨0, 25, none⟩ = some (.int .u8 39) ∧ W'.cell? ⟨0, 17, none⟩ = some (.int .u8 47) ∧ W'.cell? ⟨0, 33, none⟩ = some (.int .u8 55) ∧ W'.cell? ⟨0, 32, none⟩ = some (.int .u8 63) ∧ W'.cell? ⟨X, 0, none⟩ = some (.slice (some ⟨g1, 0, none⟩) (tl n).length c1) ∧ (∀ j, j < (tl n).length → W'.cell? ⟨g1, j, none⟩ = some (.int .i64 ((tl n)[j]?.getD 0 : Nat))) ∧ (∀ j, j < (tl n).length → W'.cell? ⟨g2, j, none⟩ = some (.int .i64 ((tl n)[j]?.getD 0 : Nat))) ∧ W'.cell? ⟨R, 0, none⟩ = some (valAt W' ⟨R, 0, none⟩) ∧ W'.frozen? ⟨R, 0, none⟩ = false ∧ W'.heap[D]? = some (.deferred (some [])) ∧ H < W'.heap.size ∧ 0 < W'.heap.size ∧ X < W'.heap.size ∧ g1 < W'.heap.size ∧ g2 < W'.heap.size ∧ R < W'.heap.size := by
  obtain ⟨q0, q1, q2, q3, q4, q5, q6, q7, t0, t1, t2, t3, t4, t5, t6, t7, x, r1, r2, f1, f2, d, s0, s1, s2, s3, s4, s5⟩ := h
  have hz := hb.size
  exact ⟨(hb.cell (p := ⟨H, 0, none⟩) s0).trans q0, (hb.cell (p := ⟨H, 1, none⟩) s0).trans q1, (hb.cell (p := ⟨H, 2, none⟩) s0).trans q2, (hb.cell (p := ⟨H, 3, none⟩) s0).trans q3, (hb.cell (p := ⟨H, 4, none⟩) s0).trans q4, (hb.cell (p := ⟨H, 5, none⟩) s0).trans q5, (hb.cell (p := ⟨H, 6, none⟩) s0).trans q6, (hb.cell (p := ⟨H, 7, none⟩) s0).trans q7, (hb.cell (p := ⟨0, 62, none⟩) s1).trans t0, (hb.cell (p := ⟨0, 51, none⟩) s1).trans t1, (hb.cell (p := ⟨0, 46, none⟩) s1).trans t2, (hb.cell (p := ⟨0, 54, none⟩) s1).trans t3, (hb.cell (p := ⟨0, 25, none⟩) s1).trans t4, (hb.cell (p := ⟨0, 17, none⟩) s1).trans t5, (hb.cell (p := ⟨0, 33, none⟩) s1).trans t6, (hb.cell (p := ⟨0, 32, none⟩) s1).trans t7,
    (hb.cell (p := ⟨X, 0, none⟩) s2).trans x, fun j hj => (hb.cell (p := ⟨g1, j, none⟩) s3).trans (r1 j hj), fun j hj => (hb.cell (p := ⟨g2, j, none⟩) s4).trans (r2 j hj),
    valAt_of ((hb.cell (p := ⟨R, 0, none⟩) s5).trans f1), (hb.frozen (p := ⟨R, 0, none⟩) s5).trans f2, (hb.block D (Array.getElem?_eq_some_iff.1 d).1).trans d, by omega, by omega, by omega, by omega, by omega, by omega⟩

theorem tabM {W : World} {n H X g1 c1 g2 D R : Nat} {p0 p1 p2 p3 p4 p5 p6 p7 : Bool} (h : W.cell? ⟨H, 0, none⟩ = some (.bool p0) ∧ W.cell? ⟨H, 1, none⟩ = some (.bool p1) ∧ W.cell? ⟨H, 2, none⟩ = some (.bool p2) ∧ W.cell? ⟨H, 3, none⟩ = some (.bool p3) ∧ W.cell? ⟨H, 4, none⟩ = some (.bool p4) ∧ W.cell? ⟨H, 5, none⟩ = some (.bool p5) ∧ W.cell? ⟨H, 6, none⟩ = some (.bool p6) ∧ W.cell? ⟨H, 7, none⟩ = some (.bool p7) ∧ W.cell? ⟨0, 62, none⟩ = some (.int .u8 7) ∧ W.cell? ⟨0, 51, none⟩ = some (.int .u8 15) ∧ W.cell? ⟨0, 46, none⟩ = some (.int .u8 23) ∧ W.cell? ⟨0, 54, none⟩ = some (.int .u8 31) ∧ W.cell? ⟨0, 25, none⟩ = some (.int .u8 39) ∧ W.cell? ⟨0, 17, none⟩ = some (.int .u8 47) ∧ W.cell? ⟨0, 33, none⟩ = some (.int .u8 55) ∧ W.cell? ⟨0, 32, none⟩ = some (.int .u8 63) ∧ W.cell? ⟨X, 0, none⟩ = some (.slice (some ⟨g1, 0, none⟩) (tl n).length c1) ∧ (∀ j, j < (tl n).length → W.cell? ⟨g1, j, none⟩ = some (.int .i64 ((tl n)[j]?.getD 0 : Nat))) ∧ (∀ j, j < (tl n).length → W.cell? ⟨g2, j, none⟩ = some (.int .i64 ((tl n)[j]?.getD 0 : Nat))) ∧ W.cell? ⟨R, 0, none⟩ = some (valAt W ⟨R, 0, none⟩) ∧ W.frozen? ⟨R, 0, none⟩ = false ∧ W.heap[D]? = some (.deferred (some [])) ∧ H < W.heap.size ∧ 0 < W.heap.size ∧ X < W.heap.size ∧ g1 < W.heap.size ∧ g2 < W.heap.size ∧ R < W.heap.size) : TabOk W := by
  obtain ⟨_, _, _, _, _, _, _, _, t0, t1, t2, t3, t4, t5, t6, t7, _, _, _, _, _, _, _, _, _, _, _, _⟩ := h
  exact ⟨t0, t1, t2, t3, t4, t5, t6, t7⟩
theorem rowsM {W : World} {n H X g1 c1 g2 D R : Nat} {p0 p1 p2 p3 p4 p5 p6 p7 : Bool} (h : W.cell? ⟨H, 0, none⟩ = some (.bool p0) ∧ W.cell? ⟨H, 1, none⟩ = some (.bool p1) ∧ W.cell? ⟨H, 2, none⟩ = some (.bool p2) ∧ W.cell? ⟨H, 3, none⟩ = some (.bool p3) ∧ W.cell? ⟨H, 4, none⟩ = some (.bool p4) ∧ W.cell? ⟨H, 5, none⟩ = some (.bool p5) ∧ W.cell? ⟨H, 6, none⟩ = some (.bool p6) ∧ W.cell? ⟨H, 7, none⟩ = some (.bool p7) ∧ W.cell? ⟨0, 62, none⟩ = some (.int .u8 7) ∧ W.cell? ⟨0, 51, none⟩ = some (.int .u8 15) ∧ W.cell? ⟨0, 46, none⟩ = some (.int .u8 23) ∧ W.cell? ⟨0, 54, none⟩ = some (.int .u8 31) ∧ W.cell? ⟨0, 25, none⟩ = some (.int .u8 39) ∧ W.cell? ⟨0, 17, none⟩ = some (.int .u8 47) ∧ W.cell? ⟨0, 33, none⟩ = some (.int .u8 55) ∧ W.cell? ⟨0, 32, none⟩ = some (.int .u8 63) ∧ W.cell? ⟨X, 0, none⟩ = some (.slice (some ⟨g1, 0, none⟩) (tl n).length c1) ∧ (∀ j, j < (tl n).length → W.cell? ⟨g1, j, none⟩ = some (.int .i64 ((tl n)[j]?.getD 0 : Nat))) ∧ (∀ j, j < (tl n).length → W.cell? ⟨g2, j, none⟩ = some (.int .i64 ((tl n)[j]?.getD 0 : Nat))) ∧ W.cell? ⟨R, 0, none⟩ = some (valAt W ⟨R, 0, none⟩) ∧ W.frozen? ⟨R, 0, none⟩ = false ∧ W.heap[D]? = some (.deferred (some [])) ∧ H < W.heap.size ∧ 0 < W.heap.size ∧ X < W.heap.size ∧ g1 < W.heap.size ∧ g2 < W.heap.size ∧ R < W.heap.size) : (∀ j, j < (tl n).length → W.cell? ⟨g1, j, none⟩ = some (.int .i64 ((tl n)[j]?.getD 0 : Nat))) ∧ (∀ j, j < (tl n).length → W.cell? ⟨g2, j, none⟩ = some (.int .i64 ((tl n)[j]?.getD 0 : Nat))) := by
  obtain ⟨_, _, _, _, _, _, _, _, _, _, _, _, _, _, _, _, _, r1, r2, _, _, _, _, _, _, _, _, _⟩ := h
  exact ⟨r1, r2⟩

/-- what stays behind a store into the result's own cell -/
theorem keptS {W : World} {n H X g1 c1 g2 D R : Nat} {p0 p1 p2 p3 p4 p5 p6 p7 : Bool} (v : Value) (hH : R < H) (hG : 0 < R) (hX : R < X) (h1 : R < g1) (h2 : R < g2) (hD : R < D) (h : W.cell? ⟨H, 0, none⟩ = some (.bool p0) ∧ W.cell? ⟨H, 1, none⟩ = some (.bool p1) ∧ W.cell? ⟨H, 2, none⟩ = some (.bool p2) ∧ W.cell? ⟨H, 3, none⟩ = some (.bool p3) ∧ W.cell? ⟨H, 4, none⟩ = some (.bool p4) ∧ W.cell? ⟨H, 5, none⟩ = some (.bool p5) ∧ W.cell? ⟨H, 6, none⟩ = some (.bool p6) ∧ W.cell? ⟨H, 7, none⟩ = some (.bool p7) ∧ W.cell? ⟨0, 62, none⟩ = some (.int .u8 7) ∧ W.cell? ⟨0, 51, none⟩ = some (.int .u8 15) ∧ W.cell? ⟨0, 46, none⟩ = some (.int .u8 23) ∧ W.cell? ⟨0, 54, none⟩ = some (.int .u8 31) ∧ W.cell? ⟨0, 25, none⟩ = some (.int .u8 39) ∧ W.cell? ⟨0, 17, none⟩ = some (.int .u8 47) ∧ W.cell? ⟨0, 33, none⟩ = some (.int .u8 55) ∧ W.cell? ⟨0, 32, none⟩ = some (.int .u8 63) ∧ W.cell? ⟨X, 0, none⟩ = some (.slice (some ⟨g1, 0, none⟩) (tl n).length c1) ∧ (∀ j, j < (tl n).length → W.cell? ⟨g1, j, none⟩ = some (.int .i64 ((tl n)[j]?.getD 0 : Nat))) ∧ (∀ j, j < (tl n).length → W.cell? ⟨g2, j, none⟩ = some (.int .i64 ((tl n)[j]?.getD 0 : Nat))) ∧ W.cell? ⟨R, 0, none⟩ = some (valAt W ⟨R, 0, none⟩) ∧ W.frozen? ⟨R, 0, none⟩ = false ∧ W.heap[D]? = some (.deferred (some [])) ∧ H < W.heap.size ∧ 0 < W.heap.size ∧ X < W.heap.size ∧ g1 < W.heap.size ∧ g2 < W.heap.size ∧ R < W.heap.size) :
    (W.setCell ⟨R, 0, none⟩ v).cell? ⟨H, 0, none⟩ = some (.bool p0) ∧ (W.setCell ⟨R, 0, none⟩ v).cell? ⟨H, 1, none⟩ = some (.bool p1) ∧ (W.setCell ⟨R, 0, none⟩ v).cell? ⟨H, 2, none⟩ = some (.bool p2) ∧ (W.setCell ⟨R, 0, none⟩ v).cell? ⟨H, 3, none⟩ = some (.bool p3) ∧ (W.setCell ⟨R, 0, none⟩ v).cell? ⟨H, 4, none⟩ = some (.bool p4) ∧ (W.setCell ⟨R, 0, none⟩ v).cell? ⟨H, 5, none⟩ = some (.bool p5) ∧ (W.setCell ⟨R, 0, none⟩ v).cell? ⟨H, 6, none⟩ = some (.bool p6) ∧ (W.setCell ⟨R, 0, none⟩ v).cell? ⟨H, 7, none⟩ = some (.bool p7) ∧ (W.setCell ⟨R, 0, none⟩ v).cell? ⟨0, 62, none⟩ = some (.int .u8 7) ∧ (W.setCell ⟨R, 0, none⟩ v).cell? ⟨0, 51, none⟩ = some (.int .u8 15) ∧ (W.setCell ⟨R, 0, none⟩ v).cell? ⟨0, 46, none⟩ = some (.int .u8 23) ∧ (W.setCell ⟨R, 0, none⟩ v).cell? ⟨0, 54, none⟩ = some (.int .u8 31) ∧ (W.setCell ⟨R, 0, none⟩ v).cell? ⟨0, 25, none⟩ = some (.int .u8 39) ∧ (W.setCell ⟨R, 0, none⟩ v).cell? ⟨0, 17, none⟩ = some (.int .u8 47) ∧ (W.setCell ⟨R, 0, none⟩ v).cell? ⟨0, 33, none⟩ = some (.int .u8 55) ∧ (W.setCell ⟨R, 0, none⟩ v).cell? ⟨0, 32, none⟩ = some (.int .u8 63) ∧ (W.setCell ⟨R, 0, none⟩ v).cell? ⟨X, 0, none⟩ = some (.slice (some ⟨g1, 0, none⟩) (tl n).length c1) ∧ (∀ j, j < (tl n).length → (W.setCell ⟨R, 0, none⟩ v).cell? ⟨g1, j, none⟩ = some (.int .i64 ((tl n)[j]?.getD 0 : Nat))) ∧ (∀ j, j < (tl n).length → (W.setCell ⟨R, 0, none⟩ v).cell? ⟨g2, j, none⟩ = some (.int .i64 ((tl n)[j]?.getD 0 : Nat))) ∧ (W.setCell ⟨R, 0, none⟩ v).cell? ⟨R, 0, none⟩ = some (valAt (W.setCell ⟨R, 0, none⟩ v) ⟨R, 0, none⟩) ∧ (W.setCell ⟨R, 0, none⟩ v).frozen? ⟨R, 0, none⟩ = false ∧ (W.setCell ⟨R, 0, none⟩ v).heap[D]? = some (.deferred (some [])) ∧ H < (W.setCell ⟨R, 0, none⟩ v).heap.size ∧ 0 < (W.setCell ⟨R, 0, none⟩ v).heap.size ∧ X < (W.setCell ⟨R, 0, none⟩ v).heap.size ∧ g1 < (W.setCell ⟨R, 0, none⟩ v).heap.size ∧ g2 < (W.setCell ⟨R, 0, none⟩ v).heap.size ∧ R < (W.setCell ⟨R, 0, none⟩ v).heap.size := by
  obtain ⟨q0, q1, q2, q3, q4, q5, q6, q7, t0, t1, t2, t3, t4, t5, t6, t7, x, r1, r2, f1, f2, d, s0, s1, s2, s3, s4, s5⟩ := h
  have hz : (W.setCell ⟨R, 0, none⟩ v).heap.size = W.heap.size := by simp
  exact ⟨(World.cell?_setCell_other W _ _ _ (fun e => by have := congrArg Addr.block e; simp at this; omega)).trans q0, (World.cell?_setCell_other W _ _ _ (fun e => by have := congrArg Addr.block e; simp at this; omega)).trans q1, (World.cell?_setCell_other W _ _ _ (fun e => by have := congrArg Addr.block e; simp at this; omega)).trans q2, (World.cell?_setCell_other W _ _ _ (fun e => by have := congrArg Addr.block e; simp at this; omega)).trans q3, (World.cell?_setCell_other W _ _ _ (fun e => by have := congrArg Addr.block e; simp at this; omega)).trans q4, (World.cell?_setCell_other W _ _ _ (fun e => by have := congrArg Addr.block e; simp at this; omega)).trans q5, (World.cell?_setCell_other W _ _ _ (fun e => by have := congrArg Addr.block e; simp at this; omega)).trans q6, (World.cell?_setCell_other W _ _ _ (fun e => by have := congrArg Addr.block e; simp at this; omega)).trans q7,
    (World.cell?_setCell_other W _ _ _ (fun e => by have := congrArg Addr.block e; simp at this; omega)).trans t0, (World.cell?_setCell_other W _ _ _ (fun e => by have := congrArg Addr.block e; simp at this; omega)).trans t1, (World.cell?_setCell_other W _ _ _ (fun e => by have := congrArg Addr.block e; simp at this; omega)).trans t2, (World.cell?_setCell_other W _ _ _ (fun e => by have := congrArg Addr.block e; simp at this; omega)).trans t3, (World.cell?_setCell_other W _ _ _ (fun e => by have := congrArg Addr.block e; simp at this; omega)).trans t4, (World.cell?_setCell_other W _ _ _ (fun e => by have := congrArg Addr.block e; simp at this; omega)).trans t5, (World.cell?_setCell_other W _ _ _ (fun e => by have := congrArg Addr.block e; simp at this; omega)).trans t6, (World.cell?_setCell_other W _ _ _ (fun e => by have := congrArg Addr.block e; simp at this; omega)).trans t7,
    (World.cell?_setCell_other W _ _ _ (fun e => by have := congrArg Addr.block e; simp at this; omega)).trans x, fun j hj => (World.cell?_setCell_other W _ _ _ (fun e => by have := congrArg Addr.block e; simp at this; omega)).trans (r1 j hj), fun j hj => (World.cell?_setCell_other W _ _ _ (fun e => by have := congrArg Addr.block e; simp at this; omega)).trans (r2 j hj),
    valAt_of (World.cell?_setCell_same' _ _ _ (by rw [f1]; rfl)), by rw [World.frozen?_setCell]; exact f2, (Below.heap_setCell W ⟨R, 0, none⟩ v D (by simp; omega)).trans d, by omega, by omega, by omega, by omega, by omega, by omega⟩

/-- what a store has written is there, if anything is -/
theorem set_same {W : World} {a : Addr} {u v : Value} (h : (W.setCell a v).cell? a = some u) : (W.setCell a v).cell? a = some v := by
  cases hc : W.cell? a with
  | some x => exact World.cell?_setCell_same _ _ _ hc
  | none =>
    exfalso
    simp only [World.setCell, World.cell?, Array.getElem?_modify, if_true] at h hc
    cases hh : W.heap[a.block]? with
    | none => simp [hh] at h
    | some x =>
      cases x with
      | cells c e f =>
        cases hs : a.spot with
        | some s => simp [hh, hs] at h
        | none =>
          simp only [hh, hs, Option.isSome_none, Bool.false_eq_true, if_false] at hc
          have hsz : c.size ≤ a.off := by simpa using hc
          simp [hh, hs, hsz] at h
      | _ => simp [hh] at h
theorem defM {W : World} {n H X g1 c1 g2 D R : Nat} {p0 p1 p2 p3 p4 p5 p6 p7 : Bool} (h : W.cell? ⟨H, 0, none⟩ = some (.bool p0) ∧ W.cell? ⟨H, 1, none⟩ = some (.bool p1) ∧ W.cell? ⟨H, 2, none⟩ = some (.bool p2) ∧ W.cell? ⟨H, 3, none⟩ = some (.bool p3) ∧ W.cell? ⟨H, 4, none⟩ = some (.bool p4) ∧ W.cell? ⟨H, 5, none⟩ = some (.bool p5) ∧ W.cell? ⟨H, 6, none⟩ = some (.bool p6) ∧ W.cell? ⟨H, 7, none⟩ = some (.bool p7) ∧ W.cell? ⟨0, 62, none⟩ = some (.int .u8 7) ∧ W.cell? ⟨0, 51, none⟩ = some (.int .u8 15) ∧ W.cell? ⟨0, 46, none⟩ = some (.int .u8 23) ∧ W.cell? ⟨0, 54, none⟩ = some (.int .u8 31) ∧ W.cell? ⟨0, 25, none⟩ = some (.int .u8 39) ∧ W.cell? ⟨0, 17, none⟩ = some (.int .u8 47) ∧ W.cell? ⟨0, 33, none⟩ = some (.int .u8 55) ∧ W.cell? ⟨0, 32, none⟩ = some (.int .u8 63) ∧ W.cell? ⟨X, 0, none⟩ = some (.slice (some ⟨g1, 0, none⟩) (tl n).length c1) ∧ (∀ j, j < (tl n).length → W.cell? ⟨g1, j, none⟩ = some (.int .i64 ((tl n)[j]?.getD 0 : Nat))) ∧ (∀ j, j < (tl n).length → W.cell? ⟨g2, j, none⟩ = some (.int .i64 ((tl n)[j]?.getD 0 : Nat))) ∧ W.cell? ⟨R, 0, none⟩ = some (valAt W ⟨R, 0, none⟩) ∧ W.frozen? ⟨R, 0, none⟩ = false ∧ W.heap[D]? = some (.deferred (some [])) ∧ H < W.heap.size ∧ 0 < W.heap.size ∧ X < W.heap.size ∧ g1 < W.heap.size ∧ g2 < W.heap.size ∧ R < W.heap.size) : W.heap[D]? = some (.deferred (some [])) ∧ W.cell? ⟨R, 0, none⟩ = some (valAt W ⟨R, 0, none⟩) := by
  obtain ⟨_, _, _, _, _, _, _, _, _, _, _, _, _, _, _, _, _, _, _, f1, _, d, _, _, _, _, _, _⟩ := h
  exact ⟨d, f1⟩
set_option maxRecDepth 100000 in
set_option maxHeartbeats 4000000 in
theorem masks_core (n b : Nat) (p0 p1 p2 p3 p4 p5 p6 p7 : Bool) (hn : n < 18446744073709551616) (hb : b < 256) (w : World) (hA : ∀ w', Below w.heap.size w w' → TabOk w')
    (hRH : ∀ wx, Calls Tryd.prog 14 #[.int .u64 n] wx fun e w' => e = .returned (bagg8 p0 p1 p2 p3 p4 p5 p6 p7) ∧ Below wx.heap.size wx w')
    (hRL : ∀ wx, Calls Tryd.prog 15 #[bagg8 p0 p1 p2 p3 p4 p5 p6 p7] wx (ListPost (tl n) wx))
    (hRM : ∀ wx, Calls Tryd.prog 18 #[bagg8 p0 p1 p2 p3 p4 p5 p6 p7] wx fun e w' => e = .returned (.int .u64 (hiM n : Nat)) ∧ Below wx.heap.size wx w') :
    Calls Tryd.prog 4 #[.int .u64 n, .int .u8 b] w fun e w' => e = .returned (.bool true) ∧ Below w.heap.size w w' := by
  have RH := Lib.hid hRH
  have RL := Lib.hid hRL
  have RM := Lib.hid hRM
  have HA := Lib.hid hA
  have HL := Lib.hid (fun wx (hb : Below w.heap.size w wx) => alive_any wx (hA wx hb))
  clear hA hRH hRL hRM
  have hbX : Below w.heap.size w (w.alloc (.cells #[.bool false] 4)) := (Below.refl _ w).alloc (Nat.le_refl _) _
  refine (callsIn_wide (n := 3)).1 (callsIn_of_wp_marks Tryd.func4 rfl trivial ?_ rfl)
  simp only [Tryd.ntmps4, List.size_toArray, List.length_cons, List.length_nil, Nat.reduceAdd, Nat.reduceSub, Array.replicate_succ, Array.replicate_zero, List.push_toArray, List.append_toArray, List.nil_append, List.cons_append]
  refine wpIn_wide.2 ?_
  go_wp2_with (first | (go_at_call 7; refine (HL.out _ hbX).mono ?_; rintro e w' ⟨rfl, rfl⟩) | (go_at_call 14; refine (RH.out _).mono ?_; rintro e w1 ⟨rfl, hb1⟩) | (go_at_call 15; refine (RL.out _).mono ?_; rintro e w2 ⟨v2, rfl, ⟨hrow2, g2, c2, rfl⟩, hb2⟩) | (go_at_call 16; refine (lanes_any n _).mono ?_; rintro e w3 ⟨rfl, rfl⟩))
  have hbw1 : Below w.heap.size w w1 := below_step hbX hb1
  have hbw1' : Below w.heap.size w (w1.alloc (.cells #[.bool p0, .bool p1, .bool p2, .bool p3, .bool p4, .bool p5, .bool p6, .bool p7] 32)) := hbw1.alloc hbw1.size _
  have hbw2 : Below w.heap.size w w2 := below_step hbw1' hb2
  have hT2 := Lib.hid (HA.out w2 hbw2)
  have hsw := hT2.out.lt
  have hz2 := hb2.size
  rw [World.size_alloc] at hz2
  have hz1 := hbw1.size
  have bN := Boxed.new (w2.alloc (.cells #[] 3)) 34 (.slice (some ⟨w2.heap.size, 0, none⟩) 0 0)
  have bX := Boxed.new ((w2.alloc (.cells #[] 3)).alloc (.cells #[.slice (some ⟨w2.heap.size, 0, none⟩) 0 0] 34)) 22 (.int .u64 n)
  rw [World.size_alloc] at bN bX
  rw [World.size_alloc] at bX
  have hb3 : Below w2.heap.size w2 (((w2.alloc (.cells #[] 3)).alloc (.cells #[.slice (some ⟨w2.heap.size, 0, none⟩) 0 0] 34)).alloc (.cells #[.int .u64 n] 22)) := (((Below.refl _ w2).alloc (Nat.le_refl _) _).alloc (by simp) _).alloc (by simp; omega) _
  obtain ⟨i0, hi, hq0, hq1, hq2⟩ := info_parts infoInt
  refine (wpIn_wide (n := 3)).1 ?_
  refine (wpIn_rangeFunc_ownG (F := Fence.wide) (n := 3) rfl (by decide) (gf := 26) (lb := #[.pointer (some ⟨w2.heap.size + 1 + 1, 0, none⟩)]) rfl trivial (enters_of Tryd.func26 (by kernel_rfl) rfl)
    (lanes_stops 2 (by decide) (w2.heap.size + 1 + 1) w2.heap.size n hn _ (by simp) hsw bX.cell (hT2.out.below hb3 hsw)) belowK_t (belowK_b (by simp; omega)) (Below.refl _ _) (fun _ => rfl)
    (fun (pre : List Nat) W => (∃ v, Boxed W (w2.heap.size + 1) 34 v ∧ W.ownsRow w2.heap.size 3 1 v pre.length (pre.map enc) ∧ ∃ g c, v = .slice (some ⟨g, 0, none⟩) pre.length c) ∧ Below w2.heap.size w2 W)
    (fun _ _ _ => False)
    (OwnFrom.and (Own.from (holdsRow_own w2.heap.size (w2.heap.size + 1) 34 3 1 (fun (pre : List Nat) => pre.length) (fun (pre : List Nat) => pre.map enc) (fun (pre : List Nat) v => ∃ g c, v = .slice (some ⟨g, 0, none⟩) pre.length c)) _) (ownFrom_below (Nat.le_refl _) (by simp; omega)))
    (fun _ _ _ _ _ hs _ _ => hs)
    ?h0 ?a1 ?assign ?body ?done ?stop)
  case assign =>
    intro l x W K hK
    gi_wp2
    exact hK
  case h0 =>
    refine ⟨⟨_, bN.alloc _, ?_, _, _, rfl⟩, hb3⟩
    have hnew := World.alloc_heap_new w2 (.cells #[] 3)
    refine ⟨rfl, .inr ⟨w2.heap.size, 0, #[], rfl, Nat.le_refl _, ?_, Nat.le_refl _, Nat.zero_le _, rfl, rfl⟩⟩
    exact ((Below.heap_alloc _ _ _ (by simp; omega)).trans (Below.heap_alloc _ _ _ (by simp))).trans hnew
  case body =>
    rintro l pre x W ⟨⟨v, hv, hrow, g, c, rfl⟩, hB⟩ hlen
    have hlen8 : pre.length < 8 := Nat.lt_of_lt_of_le hlen (by rw [tl_length]; exact cnt_le n)
    have hc := hv.cell
    have hz := hB.size
    clear hlen
    gi_wp2_with (gi_at_builtin; refine wpListIn_append_own _ rfl _ _ 34 rfl w2.heap.size 3 i0 (.int .i64 0) 1 8 Tryd.underlying34 hi hq0 hq1 hq2 rfl (by decide) _ _ _ rfl (hrow.alloc _) ⟨W.heap.size, 0, none⟩ 1 1 [.int .i64 (x : Nat)] rfl rfl (cell_one_new _ _ _) (by simp [Value.oneCell']) (by simp only [maxLen]; omega) (by omega) (by simp; omega) ?_; intro v' w1 hown' hgrow _; obtain ⟨g', cap', rfl⟩ := ownsRow_succ hown'; obtain ⟨hv1, hv2, hr2, hk2, hb2⟩ := hv.appended (by decide) hrow hB.size (by omega) hown' hgrow; have hc1 := hv1.cell; have hf1 := hv1.frozen)
    exact ⟨hk2.from _, hb2, ⟨_, hv2, by simpa [enc] using hr2, g', cap', by simp⟩, hB.trans hb2⟩
  case done =>
    rintro D ys W hD rfl ⟨⟨v, hv, hrow, g1, c1, rfl⟩, hB⟩ hK
    have H1 : Holds w2.heap.size W (.slice (some ⟨g1, 0, none⟩) (tl n).length c1) (tl n) := ⟨hrow, g1, c1, rfl⟩
    have r1 := H1.cell rfl
    have hb1' := hrow_base H1
    have hG0 := (HA.out w (Below.refl _ _)).lt
    have s1 := H1.lt rfl
    have H2 : Holds _ w2 (.slice (some ⟨g2, 0, none⟩) (tl n).length c2) (tl n) := ⟨hrow2, g2, c2, rfl⟩
    have r2' := H2.cell rfl
    have hb2' := hrow_base H2
    rw [World.size_alloc] at hb2'
    have s2 := H2.lt rfl
    have r2 : ∀ j, j < (tl n).length → W.cell? ⟨g2, j, none⟩ = some (.int .i64 ((tl n)[j]?.getD 0 : Nat)) := fun j hj => (hB.cell (p := ⟨g2, j, none⟩) s2).trans (r2' j hj)
    have hzW := hB.size
    have hx := hv.cell
    have hxl := hv.lt
    have hTW := hT2.out.below hB hsw
    have hq : W.cell? ⟨w1.heap.size, 0, none⟩ = some (.bool p0) ∧ W.cell? ⟨w1.heap.size, 1, none⟩ = some (.bool p1) ∧ W.cell? ⟨w1.heap.size, 2, none⟩ = some (.bool p2) ∧ W.cell? ⟨w1.heap.size, 3, none⟩ = some (.bool p3) ∧ W.cell? ⟨w1.heap.size, 4, none⟩ = some (.bool p4) ∧ W.cell? ⟨w1.heap.size, 5, none⟩ = some (.bool p5) ∧ W.cell? ⟨w1.heap.size, 6, none⟩ = some (.bool p6) ∧ W.cell? ⟨w1.heap.size, 7, none⟩ = some (.bool p7) :=
      ⟨(hB.cell (p := ⟨w1.heap.size, 0, none⟩) (by simp; omega)).trans ((hb2.cell (p := ⟨w1.heap.size, 0, none⟩) (by simp)).trans (by simp)), (hB.cell (p := ⟨w1.heap.size, 1, none⟩) (by simp; omega)).trans ((hb2.cell (p := ⟨w1.heap.size, 1, none⟩) (by simp)).trans (by simp)), (hB.cell (p := ⟨w1.heap.size, 2, none⟩) (by simp; omega)).trans ((hb2.cell (p := ⟨w1.heap.size, 2, none⟩) (by simp)).trans (by simp)), (hB.cell (p := ⟨w1.heap.size, 3, none⟩) (by simp; omega)).trans ((hb2.cell (p := ⟨w1.heap.size, 3, none⟩) (by simp)).trans (by simp)), (hB.cell (p := ⟨w1.heap.size, 4, none⟩) (by simp; omega)).trans ((hb2.cell (p := ⟨w1.heap.size, 4, none⟩) (by simp)).trans (by simp)), (hB.cell (p := ⟨w1.heap.size, 5, none⟩) (by simp; omega)).trans ((hb2.cell (p := ⟨w1.heap.size, 5, none⟩) (by simp)).trans (by simp)), (hB.cell (p := ⟨w1.heap.size, 6, none⟩) (by simp; omega)).trans ((hb2.cell (p := ⟨w1.heap.size, 6, none⟩) (by simp)).trans (by simp)), (hB.cell (p := ⟨w1.heap.size, 7, none⟩) (by simp; omega)).trans ((hb2.cell (p := ⟨w1.heap.size, 7, none⟩) (by simp)).trans (by simp))⟩
    have hR : W.cell? ⟨w.heap.size, 0, none⟩ = some (.bool false) := (hB.cell (p := ⟨w.heap.size, 0, none⟩) (by have := hb1.size; simp at this; simp; omega)).trans ((hb2.cell (p := ⟨w.heap.size, 0, none⟩) (by have := hb1.size; simp at this; simp; omega)).trans ((((Below.refl _ w1).alloc (Nat.le_refl _) _).cell (p := ⟨w.heap.size, 0, none⟩) (by have := hb1.size; simp at this; simp; omega)).trans ((hb1.cell (p := ⟨w.heap.size, 0, none⟩) (by simp)).trans (by simp))))
    have hRf : W.frozen? ⟨w.heap.size, 0, none⟩ = false := (hB.frozen (p := ⟨w.heap.size, 0, none⟩) (by have := hb1.size; simp at this; simp; omega)).trans ((hb2.frozen (p := ⟨w.heap.size, 0, none⟩) (by have := hb1.size; simp at this; simp; omega)).trans ((((Below.refl _ w1).alloc (Nat.le_refl _) _).frozen (p := ⟨w.heap.size, 0, none⟩) (by have := hb1.size; simp at this; simp; omega)).trans ((hb1.frozen (p := ⟨w.heap.size, 0, none⟩) (by simp)).trans (by simp))))
    have hbW : Below w.heap.size w W := below_step hbw2 hB
    have hl8 : (tl n).length ≤ 8 := by rw [tl_length]; exact cnt_le n
    have hcl := Lib.hid (tl_length n)
    have HW := Lib.hid hB
    have HbW := Lib.hid hbW
    have hsz1 : w.heap.size < w1.heap.size := by have := hb1.size; simp at this; omega
    have hHl : w1.heap.size < W.heap.size := by omega
    have hG : 0 < W.heap.size := by omega
    have hg2 : g2 < W.heap.size := by omega
    have hRl : w.heap.size < W.heap.size := by omega
    obtain ⟨q0, q1, q2, q3, q4, q5, q6, q7⟩ := hq
    obtain ⟨t0, t1, t2, t3, t4, t5, t6, t7⟩ := hTW
    clear H1 H2 r2' hrow hrow2 hT2 bN bX hb1 hb2 hb3 hbw1 hbw1' hbw2 HA HL RL RH hB hbW hv hi hq0 hq1 hq2 hbX
    have hS0' : W.drew.cell? ⟨w1.heap.size, 0, none⟩ = some (.bool p0) ∧ W.drew.cell? ⟨w1.heap.size, 1, none⟩ = some (.bool p1) ∧ W.drew.cell? ⟨w1.heap.size, 2, none⟩ = some (.bool p2) ∧ W.drew.cell? ⟨w1.heap.size, 3, none⟩ = some (.bool p3) ∧ W.drew.cell? ⟨w1.heap.size, 4, none⟩ = some (.bool p4) ∧ W.drew.cell? ⟨w1.heap.size, 5, none⟩ = some (.bool p5) ∧ W.drew.cell? ⟨w1.heap.size, 6, none⟩ = some (.bool p6) ∧ W.drew.cell? ⟨w1.heap.size, 7, none⟩ = some (.bool p7) ∧ W.drew.cell? ⟨0, 62, none⟩ = some (.int .u8 7) ∧ W.drew.cell? ⟨0, 51, none⟩ = some (.int .u8 15) ∧ W.drew.cell? ⟨0, 46, none⟩ = some (.int .u8 23) ∧ W.drew.cell? ⟨0, 54, none⟩ = some (.int .u8 31) ∧ W.drew.cell? ⟨0, 25, none⟩ = some (.int .u8 39) ∧ W.drew.cell? ⟨0, 17, none⟩ = some (.int .u8 47) ∧ W.drew.cell? ⟨0, 33, none⟩ = some (.int .u8 55) ∧ W.drew.cell? ⟨0, 32, none⟩ = some (.int .u8 63) ∧ W.drew.cell? ⟨(w2.heap.size + 1), 0, none⟩ = some (.slice (some ⟨g1, 0, none⟩) (tl n).length c1) ∧ (∀ j, j < (tl n).length → W.drew.cell? ⟨g1, j, none⟩ = some (.int .i64 ((tl n)[j]?.getD 0 : Nat))) ∧ (∀ j, j < (tl n).length → W.drew.cell? ⟨g2, j, none⟩ = some (.int .i64 ((tl n)[j]?.getD 0 : Nat))) ∧ W.drew.cell? ⟨w.heap.size, 0, none⟩ = some (valAt (W.drew) ⟨w.heap.size, 0, none⟩) ∧ W.drew.frozen? ⟨w.heap.size, 0, none⟩ = false ∧ W.drew.heap[D]? = some (.deferred (some [])) ∧ w1.heap.size < W.drew.heap.size ∧ 0 < W.drew.heap.size ∧ (w2.heap.size + 1) < W.drew.heap.size ∧ g1 < W.drew.heap.size ∧ g2 < W.drew.heap.size ∧ w.heap.size < W.drew.heap.size := keptM (Below.refl W.heap.size W).drew (by refine ⟨?_, ?_, ?_, ?_, ?_, ?_, ?_, ?_, ?_, ?_, ?_, ?_, ?_, ?_, ?_, ?_, ?_, ?_, ?_, ?_, ?_, ?_, ?_, ?_, ?_, ?_, ?_, ?_⟩ <;> first | assumption | exact valAt_of hR)
    have HS0 := Lib.hid hS0'
    have hRH : w.heap.size < w1.heap.size := hsz1
    have hRX : w.heap.size < w2.heap.size + 1 := by omega
    have hRG : 0 < w.heap.size := hG0
    have hR1 : w.heap.size < g1 := by omega
    have hR2 : w.heap.size < g2 := by omega
    have hRD : w.heap.size < D := by simp at hD; omega
    have hkc : (tl n).length ≠ 0 → W.cell? ⟨g2, 0, none⟩ = some (.int .i64 ((tl n)[0]?.getD 0 : Nat)) := fun h => r2 0 (by omega)
    clear hS0' r1 r2
    have CC := Lib.hid (fun wx => hcl.out ▸ count_any n hn wx)
    by_cases hlen : (tl n).length ≤ 0
    · have ht0 : tl n = [] := List.eq_nil_of_length_eq_zero (by omega)
      have hf := first_nil n ht0
      have CF := Lib.hid (fun wx (h : TabOk wx) => hf ▸ first_any n hn wx h)
      clear ht0 hf hkc
      go_wp2_with fail
      go_region_held3 (fun w' => w'.cell? ⟨w1.heap.size, 0, none⟩ = some (.bool p0) ∧ w'.cell? ⟨w1.heap.size, 1, none⟩ = some (.bool p1) ∧ w'.cell? ⟨w1.heap.size, 2, none⟩ = some (.bool p2) ∧ w'.cell? ⟨w1.heap.size, 3, none⟩ = some (.bool p3) ∧ w'.cell? ⟨w1.heap.size, 4, none⟩ = some (.bool p4) ∧ w'.cell? ⟨w1.heap.size, 5, none⟩ = some (.bool p5) ∧ w'.cell? ⟨w1.heap.size, 6, none⟩ = some (.bool p6) ∧ w'.cell? ⟨w1.heap.size, 7, none⟩ = some (.bool p7) ∧ w'.cell? ⟨0, 62, none⟩ = some (.int .u8 7) ∧ w'.cell? ⟨0, 51, none⟩ = some (.int .u8 15) ∧ w'.cell? ⟨0, 46, none⟩ = some (.int .u8 23) ∧ w'.cell? ⟨0, 54, none⟩ = some (.int .u8 31) ∧ w'.cell? ⟨0, 25, none⟩ = some (.int .u8 39) ∧ w'.cell? ⟨0, 17, none⟩ = some (.int .u8 47) ∧ w'.cell? ⟨0, 33, none⟩ = some (.int .u8 55) ∧ w'.cell? ⟨0, 32, none⟩ = some (.int .u8 63) ∧ w'.cell? ⟨(w2.heap.size + 1), 0, none⟩ = some (.slice (some ⟨g1, 0, none⟩) (tl n).length c1) ∧ (∀ j, j < (tl n).length → w'.cell? ⟨g1, j, none⟩ = some (.int .i64 ((tl n)[j]?.getD 0 : Nat))) ∧ (∀ j, j < (tl n).length → w'.cell? ⟨g2, j, none⟩ = some (.int .i64 ((tl n)[j]?.getD 0 : Nat))) ∧ w'.cell? ⟨w.heap.size, 0, none⟩ = some (valAt w' ⟨w.heap.size, 0, none⟩) ∧ w'.frozen? ⟨w.heap.size, 0, none⟩ = false ∧ w'.heap[D]? = some (.deferred (some [])) ∧ w1.heap.size < w'.heap.size ∧ 0 < w'.heap.size ∧ (w2.heap.size + 1) < w'.heap.size ∧ g1 < w'.heap.size ∧ g2 < w'.heap.size ∧ w.heap.size < w'.heap.size)
        (first | assumption | exact HS0.out | exact keptM hbx (by assumption) | exact keptS _ hRH hRG hRX hR1 hR2 hRD (by assumption) | go_keep)
        (first | (go_at_call 17; refine (equal_any n b hn hb _).mono ?_; rintro e w' ⟨rfl, rfl⟩)
               | (go_at_call 19; refine (ref_equal' n b hn _).mono ?_; rintro e w' ⟨rfl, hbx⟩)
               | (go_at_call 18; (with_reducible refine (ref_mask_eq n b _).mono ?_); rintro e w' ⟨rfl, hbx⟩)
               | (go_at_call 18; (with_reducible refine (RM.out _).mono ?_); rintro e w' ⟨rfl, hbx⟩)
               | (go_at_call 20; refine (high_any n hn _).mono ?_; rintro e w' ⟨rfl, rfl⟩)
               | (go_at_call 21; refine (CF.out _ (tabM (by assumption))).mono ?_; rintro e w' ⟨rfl, rfl⟩)
               | (go_at_call 22; refine (CC.out _).mono ?_; rintro e w' ⟨rfl, rfl⟩)
               | (go_at_call 23; refine (same_ints (tl n) hl8 g1 c1 g2 c2 _ (rowsM (by assumption)).1 (rowsM (by assumption)).2).mono ?_; rintro e w' ⟨rfl, rfl⟩))
      have hM := defM (W := w'.setCell ⟨w.heap.size, 0, none⟩ (.bool true)) (R := w.heap.size) (D := D) (by assumption)
      obtain ⟨hK', hcR⟩ := hM
      have hcR' := set_same hcR
      have hfin : Below w.heap.size w (w'.setCell ⟨w.heap.size, 0, none⟩ (.bool true)) := by
        refine Below.setCell ?_ (by simp) _
        refine below_step ?_ (by assumption)
        refine below_step ?_ (by assumption)
        refine below_step ?_ (by assumption)
        exact HbW.out.drew
      have hDl : w.heap.size ≤ D := by omega
      clear hcR
      go_wp2
      refine ⟨by simp, .inl ⟨_, _, rfl, run_takeDeferred hK', ?_⟩⟩
      have hc5 := cell_kept hcR' (grownBy_putObj' _ D (.deferred none)) (fun r e => by cases e; exact ⟨_, hK', rfl⟩)
      refine ⟨.bool true, ?_, rfl, hfin.grown (grownBy_putObj' _ D (.deferred none)) hfin.size (fun r e => by cases e; exact hDl)⟩
      simp [results, Tryd.f4, go_sem, hc5]
    · have hpos : 0 < (tl n).length := by omega
      have hf : ∃ k : Nat, firstI n = (k : Int) ∧ W.cell? ⟨g2, 0, none⟩ = some (.int .i64 (k : Nat)) := by
        have hc0 := hkc (by omega)
        cases htl : tl n with
        | nil => rw [htl] at hpos; simp at hpos
        | cons k r =>
          rw [htl] at hc0
          exact ⟨k, (first_tl n k r htl).1, by simpa using hc0⟩
      obtain ⟨k, hfk, hk0⟩ := hf
      have CF := Lib.hid (fun wx (h : TabOk wx) => hfk ▸ first_any n hn wx h)
      clear hfk hlen hkc
      go_wp2_with fail
      go_region_held3 (fun w' => w'.cell? ⟨w1.heap.size, 0, none⟩ = some (.bool p0) ∧ w'.cell? ⟨w1.heap.size, 1, none⟩ = some (.bool p1) ∧ w'.cell? ⟨w1.heap.size, 2, none⟩ = some (.bool p2) ∧ w'.cell? ⟨w1.heap.size, 3, none⟩ = some (.bool p3) ∧ w'.cell? ⟨w1.heap.size, 4, none⟩ = some (.bool p4) ∧ w'.cell? ⟨w1.heap.size, 5, none⟩ = some (.bool p5) ∧ w'.cell? ⟨w1.heap.size, 6, none⟩ = some (.bool p6) ∧ w'.cell? ⟨w1.heap.size, 7, none⟩ = some (.bool p7) ∧ w'.cell? ⟨0, 62, none⟩ = some (.int .u8 7) ∧ w'.cell? ⟨0, 51, none⟩ = some (.int .u8 15) ∧ w'.cell? ⟨0, 46, none⟩ = some (.int .u8 23) ∧ w'.cell? ⟨0, 54, none⟩ = some (.int .u8 31) ∧ w'.cell? ⟨0, 25, none⟩ = some (.int .u8 39) ∧ w'.cell? ⟨0, 17, none⟩ = some (.int .u8 47) ∧ w'.cell? ⟨0, 33, none⟩ = some (.int .u8 55) ∧ w'.cell? ⟨0, 32, none⟩ = some (.int .u8 63) ∧ w'.cell? ⟨(w2.heap.size + 1), 0, none⟩ = some (.slice (some ⟨g1, 0, none⟩) (tl n).length c1) ∧ (∀ j, j < (tl n).length → w'.cell? ⟨g1, j, none⟩ = some (.int .i64 ((tl n)[j]?.getD 0 : Nat))) ∧ (∀ j, j < (tl n).length → w'.cell? ⟨g2, j, none⟩ = some (.int .i64 ((tl n)[j]?.getD 0 : Nat))) ∧ w'.cell? ⟨w.heap.size, 0, none⟩ = some (valAt w' ⟨w.heap.size, 0, none⟩) ∧ w'.frozen? ⟨w.heap.size, 0, none⟩ = false ∧ w'.heap[D]? = some (.deferred (some [])) ∧ w1.heap.size < w'.heap.size ∧ 0 < w'.heap.size ∧ (w2.heap.size + 1) < w'.heap.size ∧ g1 < w'.heap.size ∧ g2 < w'.heap.size ∧ w.heap.size < w'.heap.size)
        (first | assumption | exact HS0.out | exact keptM hbx (by assumption) | exact keptS _ hRH hRG hRX hR1 hR2 hRD (by assumption) | go_keep)
        (first | (go_at_call 17; refine (equal_any n b hn hb _).mono ?_; rintro e w' ⟨rfl, rfl⟩)
               | (go_at_call 19; refine (ref_equal' n b hn _).mono ?_; rintro e w' ⟨rfl, hbx⟩)
               | (go_at_call 18; (with_reducible refine (ref_mask_eq n b _).mono ?_); rintro e w' ⟨rfl, hbx⟩)
               | (go_at_call 18; (with_reducible refine (RM.out _).mono ?_); rintro e w' ⟨rfl, hbx⟩)
               | (go_at_call 20; refine (high_any n hn _).mono ?_; rintro e w' ⟨rfl, rfl⟩)
               | (go_at_call 21; refine (CF.out _ (tabM (by assumption))).mono ?_; rintro e w' ⟨rfl, rfl⟩)
               | (go_at_call 22; refine (CC.out _).mono ?_; rintro e w' ⟨rfl, rfl⟩)
               | (go_at_call 23; refine (same_ints (tl n) hl8 g1 c1 g2 c2 _ (rowsM (by assumption)).1 (rowsM (by assumption)).2).mono ?_; rintro e w' ⟨rfl, rfl⟩))
      have hM := defM (W := w'.setCell ⟨w.heap.size, 0, none⟩ (.bool true)) (R := w.heap.size) (D := D) (by assumption)
      obtain ⟨hK', hcR⟩ := hM
      have hcR' := set_same hcR
      have hfin : Below w.heap.size w (w'.setCell ⟨w.heap.size, 0, none⟩ (.bool true)) := by
        refine Below.setCell ?_ (by simp) _
        refine below_step ?_ (by assumption)
        refine below_step ?_ (by assumption)
        refine below_step ?_ (by assumption)
        exact HbW.out.drew
      have hDl : w.heap.size ≤ D := by omega
      clear hcR
      go_wp2
      refine ⟨by simp, .inl ⟨_, _, rfl, run_takeDeferred hK', ?_⟩⟩
      have hc5 := cell_kept hcR' (grownBy_putObj' _ D (.deferred none)) (fun r e => by cases e; exact ⟨_, hK', rfl⟩)
      refine ⟨.bool true, ?_, rfl, hfin.grown (grownBy_putObj' _ D (.deferred none)) hfin.size (fun r e => by cases e; exact hDl)⟩
      simp [results, Tryd.f4, go_sem, hc5]
  case stop =>
    rintro D c pre W _ _ h _
    exact h.elim

theorem masks_any (n b : Nat) (hn : n < 18446744073709551616) (hb : b < 256) (w : World) (hA : ∀ w', Below w.heap.size w w' → TabOk w') :
    Calls Tryd.prog 4 #[.int .u64 n, .int .u8 b] w fun e w' => e = .returned (.bool true) ∧ Below w.heap.size w w' :=
  masks_core n b (decide (128 ≤ ((ln n 0 : Nat) : Int))) (decide (128 ≤ ((ln n 1 : Nat) : Int))) (decide (128 ≤ ((ln n 2 : Nat) : Int))) (decide (128 ≤ ((ln n 3 : Nat) : Int))) (decide (128 ≤ ((ln n 4 : Nat) : Int))) (decide (128 ≤ ((ln n 5 : Nat) : Int))) (decide (128 ≤ ((ln n 6 : Nat) : Int))) (decide (128 ≤ ((ln n 7 : Nat) : Int))) hn hb w hA (fun wx => ref_high n hn wx) (fun wx => ref_list' n wx) (fun wx => ref_mask_hi n wx)
end Go.Proofs.YthmkmnjhbnfioaaDoor.swar
