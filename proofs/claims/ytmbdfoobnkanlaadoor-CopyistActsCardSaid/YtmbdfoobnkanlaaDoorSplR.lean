/- SplR: several texts in one: plain facts and laws for the walks. No program is named. -/
import Derived.Test.YtmbdfoobnkanlaaDoorRows
import Derived.Test.YtmbdfoobnkanlaaDoorSplLess
import Derived.WalkKit
import Derived.ProofKit
import Derived.Deep.WholeRow
import Derived.Laws.CopyOwn
import Derived.LoopTactic
import Derived.Lib.Hide
import Derived.Test.YtmbdfoobnkanlaaDoorErrC
import Derived.Deep.QuietTactic

/-! ### The document's own functions for layer 3: a hash's bits, the number of so many bits, the top, the bit. -/
namespace Go.Proofs.YtmbdfoobnkanlaaDoor.split
open Go.ChangeShapes Go.WideShapes Go.ChangeAt Go.RowKit

theorem below_step {w W W' : World} (h : Below w.heap.size w W) (h' : Below W.heap.size W W') : Below w.heap.size w W' := h.trans (h'.mono h.size)
/-- so many bits of a hash, in cells -/
def bitsA (h : Nat) : Array Value := ((List.range 64).map fun j => Value.int .i64 ((bitN h j : Nat) : Int)).toArray
theorem bitsA_size (h : Nat) : (bitsA h).size = 64 := by simp [bitsA]
theorem bitsA_at (h j : Nat) (hj : j < 64) : (bitsA h)[j]? = some (.int .i64 ((bitN h j : Nat) : Int)) := by simp [bitsA, hj]
theorem bitsA_of (h : Nat) (cs : Array Value) (hs : cs.size = 64) (hc : ∀ j, j < 64 → cs[j]? = some (.int .i64 ((bitN h j : Nat) : Int))) : cs = bitsA h := by
  apply Array.ext_getElem?
  intro i
  by_cases hi : i < 64
  · rw [hc i hi, bitsA_at h i hi]
  · rw [Array.getElem?_eq_none (by omega), Array.getElem?_eq_none (by rw [bitsA_size]; omega)]

theorem addr_add (g i j : Nat) : (⟨g, i, none⟩ : Addr).add j = ⟨g, i + j, none⟩ := by simp [Addr.add]
theorem number_any (b : Nat → Nat) (s : Option Addr) (n cap : Nat) (w : World) (hn : n ≤ 64) (hb : ∀ j, j < n → b j < 2)
    (hc : ∀ j, j < n → ∃ x, s = some x ∧ w.cell? (x.add j) = some (.int .i64 ((b j : Nat) : Int))) :
    Calls Tryd.prog 52 #[.slice s n cap] w fun e w' => e = .returned (.int .u64 ((num b n : Nat) : Int)) ∧ w = w' := by
  go_enter Tryd.func52, Tryd.ntmps52
  go_wp2
  go_loopw [8, 3] (fun i s wr => ∃ j : Nat, j ≤ n ∧ i = .int .i64 j ∧ s = .int .u64 ((num b j : Nat) : Int) ∧ wr = w) (fun i _ _ => n - (intOf i).toNat)
  case atStart => exact ⟨0, by omega, rfl, rfl, rfl⟩
  case round =>
    obtain ⟨j, hj, rfl, rfl, rfl⟩ := hrel
    rcases Nat.lt_or_ge j n with hjn | hjn
    · obtain ⟨x, rfl, hx⟩ := hc j hjn
      have hji : (j : Int) < (n : Int) := by omega
      have h2 := hb j hjn
      have h3 : num b (j + 1) < 18446744073709551616 := num_lt64 b (j + 1) (by omega) (fun i hi => hb i (by omega))
      rw [num_succ] at h3
      go_wp2
      go_roundw
      case rel => exact ⟨j + 1, by omega, by simp, by rw [num_succ]; simp⟩
      case measure => simp [intOf]; omega
    · obtain rfl : j = n := by omega
      go_wp2
      go_ret
      exact ⟨rfl, rfl⟩

/-- what is in memory behind so many rounds of Bits -/
structure BitsOk (h k : Nat) (w W : World) : Prop where
  below : Below w.heap.size w W
  out : ∃ z, W.heap[w.heap.size]? = some (.cells z 112 (0, 0)) ∧ z.size = 64
  row : ∃ cs : Array Value, W.heap[w.heap.size + 1]? = some (.cells cs 112 (0, 0)) ∧ cs.size = 64 ∧ (∀ j, k ≤ j → j < 64 → cs[j]? = some (.int .i64 ((bitN h j : Nat) : Int)))
theorem BitsOk.cell {h k j : Nat} {w W : World} (b : BitsOk h k w W) (hj : j < 64) : ∃ v, W.cell? ⟨w.heap.size + 1, j, none⟩ = some v := by
  obtain ⟨cs, h1, h2, _⟩ := b.row
  exact ⟨cs[j], by rw [cell_of_row _ _ j cs _ _ h1, Array.getElem?_eq_getElem (by omega)]⟩
theorem BitsOk.frozen {h k j : Nat} {w W : World} (b : BitsOk h k w W) : W.frozen? ⟨w.heap.size + 1, j, none⟩ = false := by
  obtain ⟨cs, h1, _⟩ := b.row
  exact frozen_of_row _ _ j cs _ h1
theorem BitsOk.next {h k : Nat} {w W : World} (b : BitsOk h (k + 1) w W) (hk : k < 64) : BitsOk h k w (W.setCell ⟨w.heap.size + 1, k, none⟩ (.int .i64 ((bitN h k : Nat) : Int))) := by
  obtain ⟨cs, h1, h2, h3⟩ := b.row
  obtain ⟨z, z1, z2⟩ := b.out
  refine ⟨b.below.setCell (by simp) _, ⟨z, ?_, z2⟩, ⟨_, heap_setCell_same W _ k cs _ _ h1, by simpa using h2, fun j hj hj2 => ?_⟩⟩
  · rw [heap_setCell_other _ _ _ _ (by simp)]; exact z1
  · rcases Nat.eq_or_lt_of_le hj with rfl | hlt
    · simp [h2, hk]
    · rw [Array.getElem?_setIfInBounds_ne (by omega)]; exact h3 j (by omega) hj2
theorem info64 (cs : Array Value) (h : cs.size = 64) : (Tryd.prog.info? 112).map (·.size) = some cs.size := by rw [h]; kernel_rfl
/-- sixty-four noughts -/
def zeroA : Array Value := Array.replicate 64 (.int .i64 0)
theorem zeroA_size : zeroA.size = 64 := by simp [zeroA]
theorem zeroA_one : zeroA.all (·.oneCell') = true := by
  rw [Array.all_eq_true_iff_forall_mem]
  intro v hv
  unfold zeroA at hv
  rw [Array.eq_of_mem_replicate hv]; rfl
theorem bitsA_one (h : Nat) : (bitsA h).all (·.oneCell') = true := by simp [bitsA, Value.oneCell']
theorem BitsOk.start (h : Nat) (w : World) (A B : Array Value) (hA : A.size = 64) : BitsOk h 64 w (((w.alloc (.cells A 112)).alloc (.cells B 112)).setRow (w.heap.size + 1) zeroA) := by
  have hB := heap_alloc2_new w (.cells A 112) (.cells B 112)
  refine ⟨?_, ⟨A, ?_, hA⟩, ⟨zeroA, ?_, zeroA_size, fun j h1 h2 => by omega⟩⟩
  · exact below_setRow (((Below.refl _ _).alloc (Nat.le_refl _) _).alloc (by simp) _) (by omega) _
  · rw [setRow_other _ _ _ _ (by omega)]; exact heap_alloc2_old w _ _
  · exact setRow_heap _ _ _ _ _ _ hB
set_option maxRecDepth 100000 in
theorem bits_any (h : Nat) (hh : h < 18446744073709551616) (w : World) :
    Calls Tryd.prog 53 #[.int .u64 h] w fun e w' => e = .returned (.agg (bitsA h)) ∧ Below w.heap.size w w' := by
  go_enter Tryd.func53, Tryd.ntmps53
  go_wp2_with (refine wpList_store_row (by rfl) 112 _ _ (by rfl) (w.heap.size + 1) zeroA (by rfl) (by rfl) 112 _ (heap_alloc2_new _ _ _) (info64 _ zeroA_size) (by rfl) zeroA_one ?_)
  go_loopw [4, 0] (fun i s wr => ∃ k : Nat, k ≤ 64 ∧ i = .int .i64 ((k : Int) - 1) ∧ s = .int .u64 ((h / 2 ^ (64 - k) : Nat) : Int) ∧ BitsOk h k w wr) (fun i _ _ => (intOf i + 1).toNat)
  case atStart =>
    exact ⟨64, by omega, rfl, by simp, BitsOk.start h w _ _ (by rfl)⟩
  case round =>
    obtain ⟨k, hk, rfl, rfl, hB⟩ := hrel
    cases k with
    | zero =>
      obtain ⟨cs, r1, r2, r3⟩ := hB.row
      obtain ⟨z, z1, z2⟩ := hB.out
      obtain rfl := bitsA_of h cs r2 (fun j hj => r3 j (by omega) hj)
      have HB := Lib.hid hB
      have R1 := Lib.hid r1
      have Z1 := Lib.hid z1
      clear hB r1 z1 r3
      go_wp2_with (first
        | (refine wpList_load_row (by rfl) 112 _ (by rfl) _ (by rfl) _ _ _ (.array 64 3) R1.out (by kernel_rfl) (by rfl) (info64 _ r2) ?_)
        | (refine wpList_store_row (by rfl) 112 _ _ (by rfl) w.heap.size (bitsA h) (by rfl) (by rfl) 112 _ Z1.out (info64 _ r2) (z2.trans r2.symm) (bitsA_one h) ?_))
      have hl : w.heap.size < wr.heap.size := (Array.getElem?_eq_some_iff.1 Z1.out).1
      refine bodyPost_ret (v := .agg (bitsA h)) (results_cell_row (p := 2) (ty := 112) (by rfl) _ _ w.heap.size 112 (bitsA h) (0, 0) (.array 64 3) (by rfl) (setRow_heap _ _ _ _ _ _ Z1.out) (by kernel_rfl) (by rfl) (info64 _ r2)) rfl ⟨rfl, ?_⟩
      exact below_setRow HB.out.below (Nat.le_refl _) _
    | succ k =>
      have e1 : ((k + 1 : Nat) : Int) - 1 = (k : Int) := by omega
      rw [e1]
      obtain ⟨v, hv⟩ := hB.cell (j := k) (by omega)
      have hf := hB.frozen (j := k)
      have hk64 : (k : Int) < 64 := by omega
      have hB' := Lib.hid hB
      clear hB e1
      have hlt : h / 2 ^ (63 - k) < 18446744073709551616 := Nat.lt_of_le_of_lt (Nat.div_le_self _ _) hh
      have q1 : IntKind.u64.wrap (((h : Int) / 2 ^ (63 - k)).tdiv 2) = ((h / 2 ^ (64 - k) : Nat) : Int) := by
        rw [show ((h : Int) / 2 ^ (63 - k)) = ((h / 2 ^ (63 - k) : Nat) : Int) by simp, show 64 - k = (63 - k) + 1 by omega, Nat.pow_succ, ← Nat.div_div_eq_div_mul]
        generalize h / 2 ^ (63 - k) = y at hlt
        rw [IntKind.wrap_u64, Int.tdiv_eq_ediv_of_nonneg (by omega)]; omega
      have q2 : wrap64 (((h : Int) / 2 ^ (63 - k)).tmod 2) = ((bitN h k : Nat) : Int) := by
        unfold bitN
        rw [show ((h : Int) / 2 ^ (63 - k)) = ((h / 2 ^ (63 - k) : Nat) : Int) by simp]
        generalize h / 2 ^ (63 - k) = y
        rw [Int.tmod_eq_emod_of_nonneg (by omega), Go.IntWalk.wrap64_in _ (by omega)]; omega
      have Q1 := Lib.hid q1
      have Q2 := Lib.hid q2
      clear q1 q2
      go_wp2
      go_roundw
      case rel => exact ⟨k, by omega, rfl, by rw [Q1.out], by rw [Q2.out]; exact hB'.out.next (by omega)⟩
      case measure => simp [intOf]
/-- the row of a hash's bits in memory, read as a slice from some place on -/
theorem bitsA_cell {h : Nat} {W : World} {g : Nat} {t : TypeId} {fr : Nat × Nat} (hg : W.heap[g]? = some (.cells (bitsA h) t fr)) (j : Nat) (hj : j < 64) : W.cell? ⟨g, j, none⟩ = some (.int .i64 ((bitN h j : Nat) : Int)) := by
  rw [cell_of_row _ _ j _ _ _ hg]; exact bitsA_at h j hj
theorem index_bits (h d : Nat) (hd : d < 64) (w : World) : (Instr.index 112 (.agg (bitsA h)) (.int .i64 d)).run Tryd.prog w = .ok (.int .i64 ((bitN h d : Nat) : Int)) w := by
  have e := bitsA_at h d hd
  simp [Instr.index, asIntOf, part, hd, e, go_sem]
theorem rtop_yes (h d : Nat) (hh : h < 18446744073709551616) (hd : d ≤ 16) (w : World) :
    Calls Tryd.prog 46 #[.int .u64 h, .int .i64 d] w fun e w' => e = .returned (.tuple #[.int .i64 ((h / 2 ^ (64 - d) : Nat) : Int), .int .i64 0]) ∧ Below w.heap.size w w' := by
  have h1 : decide ((d : Int) < 0) = false := decide_eq_false (by omega)
  have h2 : decide (16 < (d : Int)) = false := decide_eq_false (by omega)
  have hd64 : (d : Int) ≤ 64 := by omega
  go_enter Tryd.func46, Tryd.ntmps46
  go_wp2_with (first
    | (go_at_call 53; refine (bits_any h hh _).mono ?_; rintro e w1 ⟨rfl, hb1⟩)
    | (refine wpList_store_row (by rfl) 112 _ _ (by rfl) w1.heap.size (bitsA h) (by rfl) (by rfl) 112 _ (heap_alloc_new _ _) (info64 _ (bitsA_size h)) (by rw [bitsA_size]; rfl) (bitsA_one h) ?_; rw [World.setRow_alloc_new])
    | (go_at_call 52; refine (number_any (bitN h) _ d _ _ (by omega) (fun j _ => bitN_lt h j) (fun j hj => ⟨_, rfl, by rw [addr_add, Nat.zero_add]; exact bitsA_cell (heap_alloc_new _ _) j (by omega)⟩)).mono ?_; rintro e w' ⟨rfl, rfl⟩))
  go_ret2
  have e : wrap64 ((num (bitN h) d : Nat) : Int) = ((h / 2 ^ (64 - d) : Nat) : Int) := by
    rw [num_top h d hh (by omega)]; exact i64_nat _ (by have := top_small h d hh hd; omega)
  exact ⟨by rw [e]; rfl, below_step hb1 ((Below.refl _ _).alloc (Nat.le_refl _) _)⟩
theorem rtop_no (h : Nat) (i : Int) (hi : i < 0 ∨ 16 < i) (w : World) :
    Calls Tryd.prog 46 #[.int .u64 h, .int .i64 i] w fun e w' => e = .returned (.tuple #[.int .i64 0, .int .i64 1]) ∧ w = w' := by
  rcases hi with hi | hi
  · have h1 : decide (i < 0) = true := decide_eq_true hi
    go_enter Tryd.func46, Tryd.ntmps46
    go_wp2
    all_goals (go_ret2; exact ⟨rfl, rfl⟩)
  · have h1 : decide (i < 0) = false := decide_eq_false (by omega)
    have h2 : decide (16 < i) = true := decide_eq_true hi
    go_enter Tryd.func46, Tryd.ntmps46
    go_wp2
    all_goals (go_ret2; exact ⟨rfl, rfl⟩)
end Go.Proofs.YtmbdfoobnkanlaaDoor.split

/-! ### The document's own Ends: a prefix's least and greatest hash, bit by bit. -/
namespace Go.Proofs.YtmbdfoobnkanlaaDoor.split
open Go.ChangeShapes Go.WideShapes Go.ChangeAt Go.RowKit

/-- sixty-four numbers in cells -/
def rowOf (f : Nat → Nat) : Array Value := ((List.range 64).map fun j => Value.int .i64 ((f j : Nat) : Int)).toArray
theorem rowOf_size (f : Nat → Nat) : (rowOf f).size = 64 := by simp [rowOf]
theorem rowOf_at (f : Nat → Nat) (j : Nat) (hj : j < 64) : (rowOf f)[j]? = some (.int .i64 ((f j : Nat) : Int)) := by simp [rowOf, hj]
theorem rowOf_set (f g : Nat → Nat) (k : Nat) (hk : ∀ j, j < 64 → g j = if j = k then g k else f j) : (rowOf f).setIfInBounds k (.int .i64 ((g k : Nat) : Int)) = rowOf g := by
  apply Array.ext_getElem?
  intro i
  by_cases hi : i < 64
  · rw [rowOf_at g i hi, hk i hi]
    by_cases e : i = k
    · subst e; simp [rowOf_size, hi]
    · rw [Array.getElem?_setIfInBounds_ne (fun e' => e e'.symm), rowOf_at f i hi, if_neg e]
  · rw [Array.getElem?_eq_none (by rw [Array.size_setIfInBounds, rowOf_size]; omega), Array.getElem?_eq_none (by rw [rowOf_size]; omega)]
theorem zeroA_row : zeroA = rowOf (fun _ => 0) := by
  apply Array.ext_getElem?
  intro i
  by_cases hi : i < 64
  · rw [rowOf_at _ i hi]; simp [zeroA, hi]
  · rw [Array.getElem?_eq_none (by rw [zeroA_size]; omega), Array.getElem?_eq_none (by rw [rowOf_size]; omega)]
theorem rowOf_cell {f : Nat → Nat} {W : World} {g : Nat} {t : TypeId} {fr : Nat × Nat} (hg : W.heap[g]? = some (.cells (rowOf f) t fr)) (j : Nat) (hj : j < 64) : W.cell? ⟨g, j, none⟩ = some (.int .i64 ((f j : Nat) : Int)) := by
  rw [cell_of_row _ _ j _ _ _ hg]; exact rowOf_at f j hj

/-- the least hash's bits, filled from the last one of the prefix down to k -/
def loF (p d k j : Nat) : Nat := if k ≤ j ∧ j < d then p / 2 ^ (d - 1 - j) % 2 else 0
/-- the greatest one's; behind the prefix ones as far as m -/
def hiF (p d k m j : Nat) : Nat := if d ≤ j then (if j < m then 1 else 0) else loF p d k j
theorem loF_lt (p d k j : Nat) : loF p d k j < 2 := by unfold loF; split <;> omega
theorem hiF_lt (p d k m j : Nat) : hiF p d k m j < 2 := by
  unfold hiF; split
  · split <;> omega
  · exact loF_lt p d k j
theorem loF_at (p d k : Nat) (hk : k < d) : loF p d k k = p / 2 ^ (d - (k + 1)) % 2 := by
  unfold loF; rw [if_pos ⟨Nat.le_refl _, hk⟩, show d - 1 - k = d - (k + 1) by omega]
theorem loF_next (p d k j : Nat) : loF p d k j = if j = k then loF p d k k else loF p d (k + 1) j := by
  split
  · rename_i e; rw [e]
  · unfold loF
    have e : (k ≤ j ∧ j < d) = (k + 1 ≤ j ∧ j < d) := by apply propext; constructor <;> (rintro ⟨a, b⟩; exact ⟨by omega, b⟩)
    simp only [e]
theorem hiF_next (p d k j : Nat) : hiF p d k d j = if j = k then hiF p d k d k else hiF p d (k + 1) d j := by
  by_cases e : j = k
  · rw [if_pos e, e]
  · rw [if_neg e]; unfold hiF
    by_cases h : d ≤ j
    · rw [if_pos h, if_pos h]
    · rw [if_neg h, if_neg h, loF_next, if_neg e]
theorem hiF_lo (p d k : Nat) (hk : k < d) : hiF p d k d k = loF p d k k := by unfold hiF; rw [if_neg (by omega)]
theorem hiF_up (p d m j : Nat) : hiF p d 0 (m + 1) j = if j = m then hiF p d 0 (m + 1) m else hiF p d 0 m j := by
  by_cases e : j = m
  · rw [if_pos e, e]
  · rw [if_neg e]; unfold hiF
    by_cases h : d ≤ j
    · rw [if_pos h, if_pos h]
      have e2 : (j < m + 1) = (j < m) := by apply propext; omega
      simp only [e2]
    · rw [if_neg h, if_neg h]
theorem hiF_one (p d m : Nat) (hm : d ≤ m) : hiF p d 0 (m + 1) m = 1 := by unfold hiF; rw [if_pos hm, if_pos (by omega)]
theorem loF_start (p d j : Nat) : loF p d d j = 0 := by unfold loF; rw [if_neg (by omega)]
theorem hiF_start (p d j : Nat) : hiF p d d d j = 0 := by
  unfold hiF; split
  · rw [if_neg (by omega)]
  · exact loF_start p d j
theorem num_pre (p d : Nat) (b : Nat → Nat) (hp : p < 2 ^ d) (hb : ∀ j, j < d → b j = p / 2 ^ (d - 1 - j) % 2) : num b d = p := by
  rw [num_congr b _ d hb, num_div p d d (Nat.le_refl _) hp, Nat.sub_self]; simp
theorem num_lo (p d : Nat) (hd : d ≤ 16) (hp : p < 2 ^ d) : num (loF p d 0) 64 = lowN p d := by
  have h := num_zeros (loF p d 0) d (64 - d) (fun j h1 h2 => by unfold loF; rw [if_neg (by omega)])
  rw [show d + (64 - d) = 64 by omega, num_pre p d _ hp (fun j hj => by unfold loF; rw [if_pos ⟨Nat.zero_le _, hj⟩])] at h
  exact h
theorem num_hi (p d : Nat) (hd : d ≤ 16) (hp : p < 2 ^ d) : num (hiF p d 0 64) 64 = lowN p d + (2 ^ (64 - d) - 1) := by
  have h := num_ones (hiF p d 0 64) d (64 - d) (fun j h1 h2 => by unfold hiF; rw [if_pos h1, if_pos (by omega)])
  rw [show d + (64 - d) = 64 by omega, num_pre p d _ hp (fun j hj => by unfold hiF loF; rw [if_neg (by omega), if_pos ⟨Nat.zero_le _, hj⟩])] at h
  exact h
/-- what is in memory while Ends fills the two -/
structure EndsOk (p d k m : Nat) (w W : World) : Prop where
  below : Below w.heap.size w W
  lo : W.heap[w.heap.size]? = some (.cells (rowOf (loF p d k)) 112 (0, 0))
  hi : W.heap[w.heap.size + 1]? = some (.cells (rowOf (hiF p d k m)) 112 (0, 0))
theorem EndsOk.start (p d : Nat) (w : World) : EndsOk p d d d w ((w.alloc (.cells zeroA 112)).alloc (.cells zeroA 112)) := by
  have e1 : rowOf (loF p d d) = zeroA := by rw [zeroA_row]; congr 1; funext j; exact loF_start p d j
  have e2 : rowOf (hiF p d d d) = zeroA := by rw [zeroA_row]; congr 1; funext j; exact hiF_start p d j
  exact ⟨((Below.refl _ _).alloc (Nat.le_refl _) _).alloc (by simp) _, by rw [e1]; exact heap_alloc2_old w _ _, by rw [e2]; exact heap_alloc2_new w _ _⟩
theorem EndsOk.down {p d k : Nat} {w W : World} (h : EndsOk p d (k + 1) d w W) (hk : k < d) :
    EndsOk p d k d w ((W.setCell ⟨w.heap.size, k, none⟩ (.int .i64 ((loF p d k k : Nat) : Int))).setCell ⟨w.heap.size + 1, k, none⟩ (.int .i64 ((loF p d k k : Nat) : Int))) := by
  have s1 := heap_setCell_same W w.heap.size k _ _ (.int .i64 ((loF p d k k : Nat) : Int)) h.lo
  have s2 : (W.setCell ⟨w.heap.size, k, none⟩ (.int .i64 ((loF p d k k : Nat) : Int))).heap[w.heap.size + 1]? = _ := (heap_setCell_other _ _ _ _ (by simp)).trans h.hi
  have s3 := heap_setCell_same _ (w.heap.size + 1) k _ _ (.int .i64 ((loF p d k k : Nat) : Int)) s2
  refine ⟨(h.below.setCell (Nat.le_refl _) _).setCell (by simp) _, ?_, ?_⟩
  · rw [heap_setCell_other _ _ _ _ (by simp), s1, rowOf_set (loF p d (k + 1)) (loF p d k) k (fun j _ => loF_next p d k j)]
  · rw [s3, ← hiF_lo p d k hk, rowOf_set (hiF p d (k + 1) d) (hiF p d k d) k (fun j _ => hiF_next p d k j)]
theorem EndsOk.up {p d m : Nat} {w W : World} (h : EndsOk p d 0 m w W) (hm : d ≤ m) :
    EndsOk p d 0 (m + 1) w (W.setCell ⟨w.heap.size + 1, m, none⟩ (.int .i64 1)) := by
  have s3 := heap_setCell_same _ (w.heap.size + 1) m _ _ (.int .i64 1) h.hi
  refine ⟨h.below.setCell (by simp) _, ?_, ?_⟩
  · rw [heap_setCell_other _ _ _ _ (by simp)]; exact h.lo
  · have e : (1 : Int) = ((hiF p d 0 (m + 1) m : Nat) : Int) := by rw [hiF_one p d m hm]; rfl
    rw [s3, e, rowOf_set (hiF p d 0 m) (hiF p d 0 (m + 1)) m (fun j _ => hiF_up p d m j)]
theorem EndsOk.lo_cell {p d k m : Nat} {w W : World} (h : EndsOk p d k m w W) (j : Nat) (hj : j < 64) : ∃ v, W.cell? ⟨w.heap.size, j, none⟩ = some v := ⟨_, rowOf_cell h.lo j hj⟩
theorem EndsOk.hi_cell {p d k m : Nat} {w W : World} (h : EndsOk p d k m w W) (j : Nat) (hj : j < 64) : ∃ v, W.cell? ⟨w.heap.size + 1, j, none⟩ = some v := ⟨_, rowOf_cell h.hi j hj⟩
end Go.Proofs.YtmbdfoobnkanlaaDoor.split

/-! ### The laws' first look (alive), and what the walks of layer 3 share. -/
namespace Go.Proofs.YtmbdfoobnkanlaaDoor.split
open Go.ChangeShapes Go.WideShapes Go.ChangeAt Go.RowKit errs

theorem below_drewN {w w' : World} {q : Nat} (h : Below (w.drewN q).heap.size (w.drewN q) w') : Below w.heap.size w w' := ⟨h.os, h.tape, h.output, h.size, h.block⟩
theorem below_drew {w w' : World} (h : Below w.drew.heap.size w.drew w') : Below w.heap.size w w' := ⟨h.os, h.tape, h.output, h.size, h.block⟩
theorem drewN_below (w : World) (q : Nat) : Below w.heap.size w (w.drewN q) := ⟨rfl, rfl, rfl, Nat.le_refl _, fun _ _ => rfl⟩
theorem quiet_same {f : FuncId} {args : Array Value} {w : World} {n : Nat} {v : Value} (h : Calls Tryd.prog f args (w.drewN n) fun e w' => e = .returned v ∧ w.drewN n = w') : Calls Tryd.prog f args (w.drewN n) fun e w'' => e = .returned v ∧ ∃ m, w'' = w.drewN m :=
  Calls.quiet_of_same (h.mono fun _ _ ⟨he, hw⟩ => ⟨he, hw.symm⟩)
theorem num_range (a : String → Addr) (w : World) (h : ErrsOk names a w) :
    Calls Tryd.prog 7 #[errV (a "ambler/api.ErrRange")] w fun e w' => e = .returned (.int .i64 1) ∧ Below w.heap.size w w' := num_at a 0 (by decide) w h
theorem errs_drew {a : String → Addr} {W : World} (h : ErrsOk names a W) : ErrsOk names a W.drew := ⟨h.cell, h.row, h.ne⟩
end Go.Proofs.YtmbdfoobnkanlaaDoor.split

/-! ### The document's own Ends: the walk. -/
namespace Go.Proofs.YtmbdfoobnkanlaaDoor.split
open Go.ChangeShapes Go.WideShapes Go.ChangeAt Go.RowKit

theorem setRow_same {w : World} {g : Nat} {cs : Array Value} {t : TypeId} {fr : Nat × Nat} (hg : w.heap[g]? = some (.cells cs t fr)) : w.setRow g cs = w := by
  unfold World.setRow
  refine (congrArg (fun h => ({ w with heap := h } : World)) ?_).trans rfl
  apply Array.ext_getElem?
  intro i
  rw [Array.getElem?_modify]
  by_cases h : g = i
  · subst h; rw [if_pos rfl, hg]; rfl
  · rw [if_neg h]
/-- a store of what is there -/
theorem wpList_store_same {P : Program} {ops : Array Oper} {rest : List Oper} {o : Oper} {a : Act} {w : World} {Q : Exit → Act → World → Prop} (hgd : o.guard = none) (ty : TypeId) (x y : Operand) (ho : o.op = .store ty x y)
    (g : Nat) (cells : Array Value) (hx : a.eval x = .pointer (some ⟨g, 0, none⟩)) (hy : a.eval y = .agg cells)
    (t : TypeId) (hg : w.heap[g]? = some (.cells cells t (0, 0))) (hi : (P.info? ty).map (·.size) = some cells.size) (h1 : cells.all (·.oneCell') = true)
    (h : wpList P ops Q rest (a.put o.dst undef) w) : wpList P ops Q (o :: rest) a w :=
  wpList_store_row hgd ty x y ho g cells hx hy t cells hg hi rfl h1 (by rw [setRow_same hg]; exact h)
theorem pow2_small (j d : Nat) (hj : j ≤ d) (hd : d ≤ 16) : 2 ^ j ≤ 65536 := Nat.le_trans (Nat.pow_le_pow_right (by decide) hj) (pow_small d hd)
theorem pow2_step (j d : Nat) (hj : j ≤ d) (hd : d ≤ 16) : wrap64 (((2 ^ j : Nat) : Int) * 2) = ((2 ^ (j + 1) : Nat) : Int) := by
  have := pow2_small j d hj hd
  rw [show (((2 ^ j : Nat) : Int) * 2) = ((2 ^ (j + 1) : Nat) : Int) by rw [Nat.pow_succ]; omega, i64_nat _ (by rw [Nat.pow_succ]; omega)]
theorem rends_deep (p i : Int) (h : i < 0 ∨ 16 < i) (w : World) :
    Calls Tryd.prog 45 #[.int .i64 p, .int .i64 i] w fun e w' => e = .returned (.tuple #[.int .u64 0, .int .u64 0, .int .i64 1]) ∧ w = w' := by
  rcases h with h | h
  · have h1 : decide (i < 0) = true := decide_eq_true h
    go_enter Tryd.func45, Tryd.ntmps45
    go_wp2
    all_goals (go_ret3; exact ⟨rfl, rfl⟩)
  · have h1 : decide (i < 0) = false := decide_eq_false (by omega)
    have h2 : decide (16 < i) = true := decide_eq_true h
    go_enter Tryd.func45, Tryd.ntmps45
    go_wp2
    all_goals (go_ret3; exact ⟨rfl, rfl⟩)
theorem rends_neg (p : Int) (d : Nat) (hd : d ≤ 16) (hp : p < 0) (w : World) :
    Calls Tryd.prog 45 #[.int .i64 p, .int .i64 d] w fun e w' => e = .returned (.tuple #[.int .u64 0, .int .u64 0, .int .i64 1]) ∧ w = w' := by
  have h1 : decide ((d : Int) < 0) = false := decide_eq_false (by omega)
  have h2 : decide (16 < (d : Int)) = false := decide_eq_false (by omega)
  have h3 : decide (p < 0) = true := decide_eq_true hp
  go_enter Tryd.func45, Tryd.ntmps45
  go_wp2
  all_goals (go_ret3; exact ⟨rfl, rfl⟩)
theorem rends_big (p d : Nat) (hd : d ≤ 16) (hp : 2 ^ d ≤ p) (w : World) :
    Calls Tryd.prog 45 #[.int .i64 p, .int .i64 d] w fun e w' => e = .returned (.tuple #[.int .u64 0, .int .u64 0, .int .i64 1]) ∧ w = w' := by
  have h1 : decide ((d : Int) < 0) = false := decide_eq_false (by omega)
  have h2 : decide (16 < (d : Int)) = false := decide_eq_false (by omega)
  have h3 : decide ((p : Int) < 0) = false := decide_eq_false (by omega)
  go_enter Tryd.func45, Tryd.ntmps45
  go_wp2
  go_loopw [8, 7] (fun i s wr => ∃ j : Nat, j ≤ d ∧ i = .int .i64 j ∧ s = .int .i64 ((2 ^ j : Nat) : Int) ∧ wr = w) (fun i _ _ => d - (intOf i).toNat)
  case atStart => exact ⟨0, by omega, rfl, rfl, rfl⟩
  case round =>
    obtain ⟨j, hj, rfl, rfl, rfl⟩ := hrel
    have hs := Lib.hid (pow2_step j d hj hd)
    have hpp := Lib.hid hp
    clear hp
    rcases Nat.lt_or_ge j d with hjd | hjd
    · have hjd' : (j : Int) < (d : Int) := by omega
      generalize ((2 ^ j : Nat) : Int) = x at hs
      go_wp2
      go_roundw
      case rel => exact ⟨j + 1, by omega, by simp, by rw [hs.out], trivial⟩
      case measure => simp [intOf]; omega
    · obtain rfl : j = d := by omega
      have hge : decide (((2 ^ j : Nat) : Int) ≤ (p : Int)) = true := decide_eq_true (by have := hpp.out; omega)
      generalize ((2 ^ j : Nat) : Int) = x at hs hge
      go_wp2
      all_goals (go_ret3; exact ⟨rfl, rfl⟩)
theorem number_row (f : Nat → Nat) (hf : ∀ j, f j < 2) (g : Nat) (W : World) (hg : W.heap[g]? = some (.cells (rowOf f) 112 (0, 0))) :
    Calls Tryd.prog 52 #[.slice (some ⟨g, 0, none⟩) 64 64] W fun e w' => e = .returned (.int .u64 ((num f 64 : Nat) : Int)) ∧ W = w' :=
  number_any f (some ⟨g, 0, none⟩) 64 64 W (by decide) (fun j _ => hf j) (fun j hj => ⟨_, rfl, by rw [addr_add, Nat.zero_add]; exact rowOf_cell hg j hj⟩)
theorem ends_lo (p d : Nat) (hd : d ≤ 16) (hp : p < 2 ^ d) (g : Nat) (W : World) (n : Nat) (hg : W.heap[g]? = some (.cells (rowOf (loF p d 0)) 112 (0, 0))) :
    Calls Tryd.prog 52 #[.slice (some ⟨g, 0, none⟩) 64 64] (W.drewN n) fun e w' => e = .returned (.int .u64 ((lowN p d : Nat) : Int)) ∧ ∃ m, w' = W.drewN m := by
  have c := number_row (loF p d 0) (loF_lt p d 0) g (W.drewN n) hg
  rw [num_lo p d hd hp] at c
  exact quiet_same c
theorem ends_hi (p d : Nat) (hd : d ≤ 16) (hp : p < 2 ^ d) (g : Nat) (W : World) (n : Nat) (hg : W.heap[g]? = some (.cells (rowOf (hiF p d 0 64)) 112 (0, 0))) :
    Calls Tryd.prog 52 #[.slice (some ⟨g, 0, none⟩) 64 64] (W.drewN n) fun e w' => e = .returned (.int .u64 ((lowN p d + (2 ^ (64 - d) - 1) : Nat) : Int)) ∧ ∃ m, w' = W.drewN m := by
  have c := number_row (hiF p d 0 64) (hiF_lt p d 0 64) g (W.drewN n) hg
  rw [num_hi p d hd hp] at c
  exact quiet_same c
set_option maxRecDepth 100000 in
theorem rends_yes (p d : Nat) (hd : d ≤ 16) (hp : p < 2 ^ d) (w : World) :
    Calls Tryd.prog 45 #[.int .i64 p, .int .i64 d] w fun e w' => e = .returned (.tuple #[.int .u64 ((lowN p d : Nat) : Int), .int .u64 ((lowN p d + (2 ^ (64 - d) - 1) : Nat) : Int), .int .i64 0]) ∧ Below w.heap.size w w' := by
  have h1 : decide ((d : Int) < 0) = false := decide_eq_false (by omega)
  have h2 : decide (16 < (d : Int)) = false := decide_eq_false (by omega)
  have h3 : decide ((p : Int) < 0) = false := decide_eq_false (by omega)
  go_enter Tryd.func45, Tryd.ntmps45
  go_wp2
  go_loopw [8, 7] (fun i s wr => ∃ j : Nat, j ≤ d ∧ i = .int .i64 j ∧ s = .int .i64 ((2 ^ j : Nat) : Int) ∧ wr = w) (fun i _ _ => d - (intOf i).toNat)
  case atStart => exact ⟨0, by omega, rfl, rfl, rfl⟩
  case round =>
    obtain ⟨j, hj, rfl, rfl, hwr⟩ := hrel
    have hwr' := hwr.symm
    subst hwr'
    clear hwr
    have hs := Lib.hid (pow2_step j d hj hd)
    have hpp := Lib.hid hp
    clear hp
    rcases Nat.lt_or_ge j d with hjd | hjd
    · have hjd' : (j : Int) < (d : Int) := by omega
      generalize ((2 ^ j : Nat) : Int) = x at hs
      go_wp2
      go_roundw
      case rel => exact ⟨j + 1, by omega, by simp, by rw [hs.out], trivial⟩
      case measure => simp [intOf]; omega
    · obtain rfl : j = d := by omega
      have hge : decide (((2 ^ j : Nat) : Int) ≤ (p : Int)) = false := decide_eq_false (by have := hpp.out; omega)
      generalize ((2 ^ j : Nat) : Int) = x at hs hge
      go_wp2_with (first
        | (refine wpList_store_same (by rfl) 112 _ _ (by rfl) w.heap.size zeroA (by rfl) (by rfl) 112 (heap_alloc2_old w _ _) (info64 _ zeroA_size) zeroA_one ?_)
        | (refine wpList_store_same (by rfl) 112 _ _ (by rfl) (w.heap.size + 1) zeroA (by rfl) (by rfl) 112 (heap_alloc2_new w _ _) (info64 _ zeroA_size) zeroA_one ?_))
      have hE0 := EndsOk.start p j w
      have hE : EndsOk p j j j w _ := hE0
      clear hE0 hge hs
      go_loopw [12, 11] (fun i s W => ∃ k : Nat, k ≤ j ∧ i = .int .i64 ((k : Int) - 1) ∧ s = .int .i64 ((p / 2 ^ (j - k) : Nat) : Int) ∧ EndsOk p j k j w W) (fun i _ _ => (intOf i + 1).toNat)
      case atStart => exact ⟨j, by omega, rfl, by simp, hE⟩
      case round =>
        obtain ⟨k, hk, rfl, rfl, hE⟩ := hrel
        cases k with
        | zero =>
          have HE := Lib.hid hE
          clear hE
          go_wp2
          have hpr := hpp.out
          clear hpp hE
          go_loopw [13] (fun i W => ∃ m : Nat, j ≤ m ∧ m ≤ 64 ∧ i = .int .i64 m ∧ EndsOk p j 0 m w W) (fun i _ => 64 - (intOf i).toNat)
          case atStart => exact ⟨j, by omega, by omega, rfl, HE.out⟩
          case round =>
            obtain ⟨m, hm, hm64, rfl, hE⟩ := hrel
            rcases Nat.lt_or_ge m 64 with hlt | hge
            · obtain ⟨v2, c2⟩ := hE.hi_cell m hlt
              have f2 := frozen_of_row _ _ m _ _ hE.hi
              have hlt' : (m : Int) < 64 := by omega
              have HE := Lib.hid hE
              clear hE hpr
              go_wp2
              go_roundw
              case rel => exact ⟨m + 1, by omega, by omega, by simp, HE.out.up hm⟩
              case measure => simp [intOf]; omega
            · obtain rfl : m = 64 := by omega
              have c1 := fun n => ends_lo p j hd hpr w.heap.size wr n hE.lo
              have c2 := fun n => ends_hi p j hd hpr (w.heap.size + 1) wr n hE.hi
              have HB := Lib.hid hE.below
              clear hE hpr
              go_wp2_with fail
              go_quiet ((first
                | (go_at_call 52; (with_reducible exact c1 _))
                | (go_at_call 52; (with_reducible exact c2 _))))
              go_wp2
              go_ret3
              exact ⟨rfl, HB.out.trans ((drewN_below wr nq).mono HB.out.size)⟩
        | succ k =>
          obtain ⟨y, hy⟩ : ∃ y, p / 2 ^ (j - (k + 1)) = y := ⟨_, rfl⟩
          have hys : y < 65536 := by
            have h1 : y ≤ p := by rw [← hy]; exact Nat.div_le_self _ _
            have h2 := hpp.out
            have h3 := pow_small j hd
            omega
          have q1 : ((y : Nat) : Int) / 2 = ((p / 2 ^ (j - k) : Nat) : Int) := by
            rw [show j - k = (j - (k + 1)) + 1 by omega, Nat.pow_succ, ← Nat.div_div_eq_div_mul, hy]; omega
          have q2 : ((y : Nat) : Int) % 2 = ((loF p j k k : Nat) : Int) := by
            rw [loF_at p j k (by omega), hy]; omega
          have e1 : ((k + 1 : Nat) : Int) - 1 = (k : Int) := by omega
          rw [e1, hy]
          obtain ⟨v1, c1⟩ := hE.lo_cell k (by omega)
          obtain ⟨v2, c2⟩ := hE.hi_cell k (by omega)
          have f1 := frozen_of_row _ _ k _ _ hE.lo
          have f2 := frozen_of_row _ _ k _ _ hE.hi
          have hk64 : (k : Int) < 64 := by omega
          have HE := Lib.hid hE
          have Q1 := Lib.hid q1
          have Q2 := Lib.hid q2
          clear hE e1 q1 q2 hy
          go_wp2
          go_roundw
          case rel => exact ⟨k, by omega, rfl, by rw [Q1.out], by rw [Q2.out]; exact HE.out.down (by omega)⟩
          case measure => simp [intOf]
end Go.Proofs.YtmbdfoobnkanlaaDoor.split

/-! ### SplitEnds: the walk. -/
namespace Go.Proofs.YtmbdfoobnkanlaaDoor.split
open Go.ChangeShapes Go.WideShapes Go.ChangeAt Go.RowKit errs

theorem rends_no (p i : Int) (h : NoPrefix p i) (w : World) :
    Calls Tryd.prog 45 #[.int .i64 p, .int .i64 i] w fun e w' => e = .returned (.tuple #[.int .u64 0, .int .u64 0, .int .i64 1]) ∧ w = w' := by
  by_cases hi : i < 0 ∨ 16 < i
  · exact rends_deep p i hi w
  · obtain ⟨d, rfl⟩ := Int.eq_ofNat_of_zero_le (show 0 ≤ i by omega)
    by_cases hp : p < 0
    · exact rends_neg p d (by omega) hp w
    · obtain ⟨n, rfl⟩ := Int.eq_ofNat_of_zero_le (show 0 ≤ p by omega)
      refine rends_big n d (by omega) ?_ w
      rcases h with h | h | h | h
      · omega
      · omega
      · omega
      · rw [Int.toNat_natCast] at h; exact_mod_cast h
end Go.Proofs.YtmbdfoobnkanlaaDoor.split
