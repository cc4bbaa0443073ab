/- The document's own Ends: a prefix's least and greatest hash, bit by bit. -/
import Derived.Test.YtiohlgkdlaiofaaDoorSplitRef
namespace Go.Proofs.YtiohlgkdlaiofaaDoor.split
open Go.ChangeShapes Go.WideShapes Go.ChangeAt Go.RowKit

/-- sixty-four numbers in cells -/
def rowOf (f : Nat → Nat) : Array Value := ((List.range 64).map fun j => Value.int .i64 ((f j : Nat) : Int)).toArray
theorem rowOf_size (f : Nat → Nat) : (rowOf f).size = 64 := by simp [rowOf]
theorem rowOf_at (f : Nat → Nat) (j : Nat) (hj : j < 64) : (rowOf f)[j]? = some (.int .i64 ((f j : Nat) : Int)) := by simp [rowOf, hj]
theorem rowOf_set (f g : Nat → Nat) (k : Nat) (hk : ∀ j, j < 64 → g j = if j = k then g k else f j) : (rowOf f).setIfInBounds k (.int .i64 ((g k : Nat) : Int)) = rowOf g := by
  apply Array.ext_getElem?
  intro i
  by_cases hi : i < 64
  · rw [rowOf_at g i hi, hk i hi]
    by_cases e : i = k
    · subst e; simp [rowOf_size, hi]
    · rw [Array.getElem?_setIfInBounds_ne (fun e' => e e'.symm), rowOf_at f i hi, if_neg e]
  · rw [Array.getElem?_eq_none (by rw [Array.size_setIfInBounds, rowOf_size]; omega), Array.getElem?_eq_none (by rw [rowOf_size]; omega)]
theorem zeroA_row : zeroA = rowOf (fun _ => 0) := by
  apply Array.ext_getElem?
  intro i
  by_cases hi : i < 64
  · rw [rowOf_at _ i hi]; simp [zeroA, hi]
  · rw [Array.getElem?_eq_none (by rw [zeroA_size]; omega), Array.getElem?_eq_none (by rw [rowOf_size]; omega)]
theorem rowOf_cell {f : Nat → Nat} {W : World} {g : Nat} {t : TypeId} {fr : Nat × Nat} (hg : W.heap[g]? = some (.cells (rowOf f) t fr)) (j : Nat) (hj : j < 64) : W.cell? ⟨g, j, none⟩ = some (.int .i64 ((f j : Nat) : Int)) := by
  rw [cell_of_row _ _ j _ _ _ hg]; exact rowOf_at f j hj

/-- the least hash's bits, filled from the last one of the prefix down to k -/
def loF (p d k j : Nat) : Nat := if k ≤ j ∧ j < d then p / 2 ^ (d - 1 - j) % 2 else 0
/-- the greatest one's; behind the prefix ones as far as m -/
def hiF (p d k m j : Nat) : Nat := if d ≤ j then (if j < m then 1 else 0) else loF p d k j
theorem loF_lt (p d k j : Nat) : loF p d k j < 2 := by unfold loF; split <;> omega
theorem hiF_lt (p d k m j : Nat) : hiF p d k m j < 2 := by
  unfold hiF; split
  · split <;> omega
  · exact loF_lt p d k j
theorem loF_at (p d k : Nat) (hk : k < d) : loF p d k k = p / 2 ^ (d - (k + 1)) % 2 := by
  unfold loF; rw [if_pos ⟨Nat.le_refl _, hk⟩, show d - 1 - k = d - (k + 1) by omega]
theorem loF_next (p d k j : Nat) : loF p d k j = if j = k then loF p d k k else loF p d (k + 1) j := by
  split
  · rename_i e; rw [e]
  · unfold loF
    have e : (k ≤ j ∧ j < d) = (k + 1 ≤ j ∧ j < d) := by apply propext; constructor <;> (rintro ⟨a, b⟩; exact ⟨by omega, b⟩)
    simp only [e]
theorem hiF_next (p d k j : Nat) : hiF p d k d j = if j = k then hiF p d k d k else hiF p d (k + 1) d j := by
  by_cases e : j = k
  · rw [if_pos e, e]
  · rw [if_neg e]; unfold hiF
    by_cases h : d ≤ j
    · rw [if_pos h, if_pos h]
    · rw [if_neg h, if_neg h, loF_next, if_neg e]
theorem hiF_lo (p d k : Nat) (hk : k < d) : hiF p d k d k = loF p d k k := by unfold hiF; rw [if_neg (by omega)]
theorem hiF_up (p d m j : Nat) : hiF p d 0 (m + 1) j = if j = m then hiF p d 0 (m + 1) m else hiF p d 0 m j := by
  by_cases e : j = m
  · rw [if_pos e, e]
  · rw [if_neg e]; unfold hiF
    by_cases h : d ≤ j
    · rw [if_pos h, if_pos h]
      have e2 : (j < m + 1) = (j < m) := by apply propext; omega
      simp only [e2]
    · rw [if_neg h, if_neg h]
theorem hiF_one (p d m : Nat) (hm : d ≤ m) : hiF p d 0 (m + 1) m = 1 := by unfold hiF; rw [if_pos hm, if_pos (by omega)]
theorem loF_start (p d j : Nat) : loF p d d j = 0 := by unfold loF; rw [if_neg (by omega)]
theorem hiF_start (p d j : Nat) : hiF p d d d j = 0 := by
  unfold hiF; split
  · rw [if_neg (by omega)]
  · exact loF_start p d j
theorem num_pre (p d : Nat) (b : Nat → Nat) (hp : p < 2 ^ d) (hb : ∀ j, j < d → b j = p / 2 ^ (d - 1 - j) % 2) : num b d = p := by
  rw [num_congr b _ d hb, num_div p d d (Nat.le_refl _) hp, Nat.sub_self]; simp
theorem num_lo (p d : Nat) (hd : d ≤ 16) (hp : p < 2 ^ d) : num (loF p d 0) 64 = lowN p d := by
  have h := num_zeros (loF p d 0) d (64 - d) (fun j h1 h2 => by unfold loF; rw [if_neg (by omega)])
  rw [show d + (64 - d) = 64 by omega, num_pre p d _ hp (fun j hj => by unfold loF; rw [if_pos ⟨Nat.zero_le _, hj⟩])] at h
  exact h
theorem num_hi (p d : Nat) (hd : d ≤ 16) (hp : p < 2 ^ d) : num (hiF p d 0 64) 64 = lowN p d + (2 ^ (64 - d) - 1) := by
  have h := num_ones (hiF p d 0 64) d (64 - d) (fun j h1 h2 => by unfold hiF; rw [if_pos h1, if_pos (by omega)])
  rw [show d + (64 - d) = 64 by omega, num_pre p d _ hp (fun j hj => by unfold hiF loF; rw [if_neg (by omega), if_pos ⟨Nat.zero_le _, hj⟩])] at h
  exact h
/-- what is in memory while Ends fills the two -/
structure EndsOk (p d k m : Nat) (w W : World) : Prop where
  below : Below w.heap.size w W
  lo : W.heap[w.heap.size]? = some (.cells (rowOf (loF p d k)) 24 (0, 0))
  hi : W.heap[w.heap.size + 1]? = some (.cells (rowOf (hiF p d k m)) 24 (0, 0))
theorem EndsOk.start (p d : Nat) (w : World) : EndsOk p d d d w ((w.alloc (.cells zeroA 24)).alloc (.cells zeroA 24)) := by
  have e1 : rowOf (loF p d d) = zeroA := by rw [zeroA_row]; congr 1; funext j; exact loF_start p d j
  have e2 : rowOf (hiF p d d d) = zeroA := by rw [zeroA_row]; congr 1; funext j; exact hiF_start p d j
  exact ⟨((Below.refl _ _).alloc (Nat.le_refl _) _).alloc (by simp) _, by rw [e1]; exact heap_alloc2_old w _ _, by rw [e2]; exact heap_alloc2_new w _ _⟩
theorem EndsOk.down {p d k : Nat} {w W : World} (h : EndsOk p d (k + 1) d w W) (hk : k < d) :
    EndsOk p d k d w ((W.setCell ⟨w.heap.size, k, none⟩ (.int .i64 ((loF p d k k : Nat) : Int))).setCell ⟨w.heap.size + 1, k, none⟩ (.int .i64 ((loF p d k k : Nat) : Int))) := by
  have s1 := heap_setCell_same W w.heap.size k _ _ (.int .i64 ((loF p d k k : Nat) : Int)) h.lo
  have s2 : (W.setCell ⟨w.heap.size, k, none⟩ (.int .i64 ((loF p d k k : Nat) : Int))).heap[w.heap.size + 1]? = _ := (heap_setCell_other _ _ _ _ (by simp)).trans h.hi
  have s3 := heap_setCell_same _ (w.heap.size + 1) k _ _ (.int .i64 ((loF p d k k : Nat) : Int)) s2
  refine ⟨(h.below.setCell (Nat.le_refl _) _).setCell (by simp) _, ?_, ?_⟩
  · rw [heap_setCell_other _ _ _ _ (by simp), s1, rowOf_set (loF p d (k + 1)) (loF p d k) k (fun j _ => loF_next p d k j)]
  · rw [s3, ← hiF_lo p d k hk, rowOf_set (hiF p d (k + 1) d) (hiF p d k d) k (fun j _ => hiF_next p d k j)]
theorem EndsOk.up {p d m : Nat} {w W : World} (h : EndsOk p d 0 m w W) (hm : d ≤ m) :
    EndsOk p d 0 (m + 1) w (W.setCell ⟨w.heap.size + 1, m, none⟩ (.int .i64 1)) := by
  have s3 := heap_setCell_same _ (w.heap.size + 1) m _ _ (.int .i64 1) h.hi
  refine ⟨h.below.setCell (by simp) _, ?_, ?_⟩
  · rw [heap_setCell_other _ _ _ _ (by simp)]; exact h.lo
  · have e : (1 : Int) = ((hiF p d 0 (m + 1) m : Nat) : Int) := by rw [hiF_one p d m hm]; rfl
    rw [s3, e, rowOf_set (hiF p d 0 m) (hiF p d 0 (m + 1)) m (fun j _ => hiF_up p d m j)]
theorem EndsOk.lo_cell {p d k m : Nat} {w W : World} (h : EndsOk p d k m w W) (j : Nat) (hj : j < 64) : ∃ v, W.cell? ⟨w.heap.size, j, none⟩ = some v := ⟨_, rowOf_cell h.lo j hj⟩
theorem EndsOk.hi_cell {p d k m : Nat} {w W : World} (h : EndsOk p d k m w W) (j : Nat) (hj : j < 64) : ∃ v, W.cell? ⟨w.heap.size + 1, j, none⟩ = some v := ⟨_, rowOf_cell h.hi j hj⟩
end Go.Proofs.YtiohlgkdlaiofaaDoor.split
