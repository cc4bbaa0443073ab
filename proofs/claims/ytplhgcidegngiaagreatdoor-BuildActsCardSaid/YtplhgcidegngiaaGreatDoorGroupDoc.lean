/- GroupDoc: several texts in one: plain facts and laws for the walks. No program is named. -/
import Derived.Test.YtplhgcidegngiaaGreatDoorGroupFns
import Derived.Test.YtplhgcidegngiaaGreatDoorGroupEnts
import Derived.Deep.WholeRow
import Derived.LoopTactic

/-! ### group: the document's group (amblerref08): eight cells in a row; what its methods come to. -/
namespace Go.Proofs.YtplhgcidegngiaaGreatDoor.group
open Go.ChangeShapes Go.WideShapes Go.ChangeAt Go.RowKit swar trap under meter tail
set_option linter.unusedSimpArgs false
set_option linter.unusedVariables false

def cel (s : Sl) : Array Value := #[.int .i64 (s.kind : Nat), .int .u64 (s.key : Nat), .int .u64 (s.val : Nat), .int .u64 (s.hash : Nat)]
/-- eight cells in a row -/
def rrow (g : Gp) : Array Value := #[.int .i64 ((g 0).kind : Nat), .int .u64 ((g 0).key : Nat), .int .u64 ((g 0).val : Nat), .int .u64 ((g 0).hash : Nat), .int .i64 ((g 1).kind : Nat), .int .u64 ((g 1).key : Nat), .int .u64 ((g 1).val : Nat), .int .u64 ((g 1).hash : Nat), .int .i64 ((g 2).kind : Nat), .int .u64 ((g 2).key : Nat), .int .u64 ((g 2).val : Nat), .int .u64 ((g 2).hash : Nat), .int .i64 ((g 3).kind : Nat), .int .u64 ((g 3).key : Nat), .int .u64 ((g 3).val : Nat), .int .u64 ((g 3).hash : Nat), .int .i64 ((g 4).kind : Nat), .int .u64 ((g 4).key : Nat), .int .u64 ((g 4).val : Nat), .int .u64 ((g 4).hash : Nat), .int .i64 ((g 5).kind : Nat), .int .u64 ((g 5).key : Nat), .int .u64 ((g 5).val : Nat), .int .u64 ((g 5).hash : Nat), .int .i64 ((g 6).kind : Nat), .int .u64 ((g 6).key : Nat), .int .u64 ((g 6).val : Nat), .int .u64 ((g 6).hash : Nat), .int .i64 ((g 7).kind : Nat), .int .u64 ((g 7).key : Nat), .int .u64 ((g 7).val : Nat), .int .u64 ((g 7).hash : Nat)]
theorem rrow_size (g : Gp) : (rrow g).size = 32 := rfl
theorem rrow_0 (g : Gp) {i : Nat} (hi : i < 8) : (rrow g)[i * 4]? = some (.int .i64 ((g i).kind : Nat)) := by
  rcases lane8 hi with rfl | rfl | rfl | rfl | rfl | rfl | rfl | rfl <;> rfl
theorem rrow_1 (g : Gp) {i : Nat} (hi : i < 8) : (rrow g)[i * 4 + 1]? = some (.int .u64 ((g i).key : Nat)) := by
  rcases lane8 hi with rfl | rfl | rfl | rfl | rfl | rfl | rfl | rfl <;> rfl
theorem rrow_2 (g : Gp) {i : Nat} (hi : i < 8) : (rrow g)[i * 4 + 2]? = some (.int .u64 ((g i).val : Nat)) := by
  rcases lane8 hi with rfl | rfl | rfl | rfl | rfl | rfl | rfl | rfl <;> rfl
theorem rrow_3 (g : Gp) {i : Nat} (hi : i < 8) : (rrow g)[i * 4 + 3]? = some (.int .u64 ((g i).hash : Nat)) := by
  rcases lane8 hi with rfl | rfl | rfl | rfl | rfl | rfl | rfl | rfl <;> rfl
theorem rrow_put (g : Gp) {i : Nat} (hi : i < 8) (s : Sl) : ((((rrow g).setIfInBounds (i * 4) (.int .i64 (s.kind : Nat))).setIfInBounds (i * 4 + 1) (.int .u64 (s.key : Nat))).setIfInBounds (i * 4 + 2) (.int .u64 (s.val : Nat))).setIfInBounds (i * 4 + 3) (.int .u64 (s.hash : Nat)) = rrow (g.put i s) := by
  rcases lane8 hi with rfl | rfl | rfl | rfl | rfl | rfl | rfl | rfl <;> rfl
theorem rrow_val (g : Gp) {i : Nat} (hi : i < 8) (v : Nat) : (rrow g).setIfInBounds (i * 4 + 2) (.int .u64 (v : Nat)) = rrow (g.put i { g i with val := v }) := by
  rcases lane8 hi with rfl | rfl | rfl | rfl | rfl | rfl | rfl | rfl <;> rfl
theorem rrow_kind (g : Gp) {i : Nat} (hi : i < 8) (k : Nat) : (rrow g).setIfInBounds (i * 4) (.int .i64 (k : Nat)) = rrow (g.put i { g i with kind := k }) := by
  rcases lane8 hi with rfl | rfl | rfl | rfl | rfl | rfl | rfl | rfl <;> rfl
theorem past_put {R : Nat} {x w : World} (h : Past [R] x w) (p0 p1 p2 p3 : Nat) (v0 v1 v2 v3 : Value) : Past [R] x ((((w.setCell ⟨R, p0, none⟩ v0).setCell ⟨R, p1, none⟩ v1).setCell ⟨R, p2, none⟩ v2).setCell ⟨R, p3, none⟩ v3) :=
  (((h.store (p := ⟨R, p0, none⟩) (.inl (by simp)) _).store (p := ⟨R, p1, none⟩) (.inl (by simp)) _).store (p := ⟨R, p2, none⟩) (.inl (by simp)) _).store (p := ⟨R, p3, none⟩) (.inl (by simp)) _
/-! ### New -/
def half (k : Nat) : Gp := fun j => if j < k then .empty else ⟨0, 0, 0, 0⟩
theorem half_put {k : Nat} (hk : k < 8) : (half k).put k { half k k with kind := 1 } = half (k + 1) := by
  funext j; unfold half Gp.put
  by_cases h : j = k
  · subst h; simp [Sl.empty]
  · by_cases h2 : j < k
    · simp [h, h2]; omega
    · simp [h, h2]; omega
theorem rrow_half : rrow (half 8) = rrow .new := rfl
/-! ### Put, Set, Erase -/
theorem kd3 (g : Gp) (i : Nat) : ((((g i).kind : Nat) : Int) == 3) = is 3 g i := by
  unfold is; rw [Bool.eq_iff_iff, decide_eq_true_eq, beq_iff_eq]; omega
theorem kd2 (g : Gp) (i : Nat) : ((((g i).kind : Nat) : Int) == 2) = is 2 g i := by
  unfold is; rw [Bool.eq_iff_iff, decide_eq_true_eq, beq_iff_eq]; omega
theorem kd1 (g : Gp) (i : Nat) : ((((g i).kind : Nat) : Int) == 1) = is 1 g i := by
  unfold is; rw [Bool.eq_iff_iff, decide_eq_true_eq, beq_iff_eq]; omega
/-! ### what is looked at, slot by slot -/
def cntTo (n : Nat) (g : Gp) : Nat → Nat
  | 0 => 0
  | k + 1 => cntTo n g k + (is n g k).toNat
theorem cntTo_le (n : Nat) (g : Gp) : ∀ k, cntTo n g k ≤ k
  | 0 => Nat.le_refl _
  | k + 1 => by have := cntTo_le n g k; have : (is n g k).toNat ≤ 1 := by cases is n g k <;> decide
                unfold cntTo; omega
theorem cntTo_all (n : Nat) (g : Gp) : cntTo n g 8 = count n g := by simp only [cntTo, count, cntB]; omega
/-! ### Text -/
def preT (g : Gp) : Nat → ByteArray
  | 0 => ⟨#[]⟩
  | j + 1 => (preT g j).push (ctrl.sgB (byt (g j)))
theorem preT_all (g : Gp) : preT g 8 = ctrl.textN (word g) := by
  unfold ctrl.textN
  rw [ln_word g (by decide), ln_word g (by decide), ln_word g (by decide), ln_word g (by decide), ln_word g (by decide), ln_word g (by decide), ln_word g (by decide), ln_word g (by decide)]
  rfl
theorem preT_size (g : Gp) : ∀ j, (preT g j).size = j
  | 0 => rfl
  | j + 1 => by rw [preT, ByteArray.size_push, preT_size g j]
theorem preT_step (g : Gp) (j : Nat) {c : UInt8} {X : ByteArray} (hs : ctrl.sgB (byt (g j)) = c) (hX : X = ⟨#[c]⟩) : preT g j ++ X = preT g (j + 1) := by
  rw [hX, preT, hs]
  apply ByteArray.ext; simp
theorem sgB_3 {s : Sl} (h : s.kind = 3) : ctrl.sgB (byt s) = 35 := by
  have : byt s < 128 := by unfold byt; rw [if_pos h]; omega
  unfold ctrl.sgB; rw [if_pos this]
theorem sgB_2 {s : Sl} (h : s.kind = 2) : ctrl.sgB (byt s) = 120 := by
  have : byt s = 254 := by unfold byt; rw [if_neg (by omega), if_pos h]
  rw [this]; rfl
theorem sgB_1 {s : Sl} (h : s.kind = 1) : ctrl.sgB (byt s) = 46 := by
  have : byt s = 128 := by unfold byt; rw [if_neg (by omega), if_neg (by omega)]
  rw [this]; rfl
end Go.Proofs.YtplhgcidegngiaaGreatDoor.group

/-! ### group: the entries of the document's group; two lists of entries that are the same (amblernum.SameEntries). -/
namespace Go.Proofs.YtplhgcidegngiaaGreatDoor.group
open Go.ChangeShapes Go.WideShapes Go.ChangeAt Go.RowKit Go.Shelf swar trap under meter tail
set_option linter.unusedSimpArgs false
set_option linter.unusedVariables false

/-- an entry's cells behind an address -/
def ECells (x : Addr) (j : Nat) (e : Sl) (W : World) : Prop :=
  W.cell? (x.add (j * 3)) = some (.int .u64 (e.key : Nat)) ∧ W.cell? ⟨(x.add (j * 3)).block, (x.add (j * 3)).off + 1, none⟩ = some (.int .u64 (e.val : Nat)) ∧ W.cell? ⟨(x.add (j * 3)).block, (x.add (j * 3)).off + 2, none⟩ = some (.int .u64 (e.hash : Nat))
theorem ECells.read {x : Addr} {j : Nat} {e : Sl} {W W' : World} (h : ECells x j e W) (hb : Below W.heap.size W W') : ECells x j e W' :=
  have c : ∀ {p v}, W.cell? p = some v → W'.cell? p = some v := fun {p v} hc => (hb.cell (World.block_lt_of_cell? W p hc)).trans hc
  ⟨c h.1, c h.2.1, c h.2.2⟩
/-- a slice holds so many entries -/
def RowsAt (o : Option Addr) (f : Nat → Sl) (n : Nat) (W : World) : Prop := ∀ j, j < n → ∃ x, o = some x ∧ ECells x j (f j) W
theorem RowsAt.read {o : Option Addr} {f : Nat → Sl} {n : Nat} {W W' : World} (h : RowsAt o f n W) (hb : Below W.heap.size W W') : RowsAt o f n W' := fun j hj => by
  obtain ⟨x, e, hc⟩ := h j hj; exact ⟨x, e, hc.read hb⟩
theorem Kept.rows {base : Nat} {W : World} {v : Value} {g : Gp} {l : List Nat} (h : Kept base W v g l) : ∃ o c, v = .slice o l.length c ∧ RowsAt o (fun j => g (l.getD j 0)) l.length W := by
  obtain ⟨hl, h⟩ := h
  rcases h with ⟨rfl, hn⟩ | ⟨B, c, cur, rfl, _, hB, hn, _, hs, ht⟩
  · exact ⟨none, 0, by rw [hn], fun j hj => by omega⟩
  · refine ⟨_, _, rfl, fun j hj => ⟨_, rfl, ?_⟩⟩
    have hadd : (⟨B, 0, none⟩ : Addr).add (j * 3) = ⟨B, j * 3, none⟩ := by unfold Addr.add; split <;> simp_all
    have hc : ∀ d, d < 3 → W.cell? ⟨B, j * 3 + d, none⟩ = (ent (g (l.getD j 0)))[d]? := fun d hd => by
      rw [cell_of_row _ _ _ _ _ _ hB]
      have h1 := rows_at g l j d hj hd
      rw [List.getD_eq_getElem?_getD, List.getElem?_eq_getElem hj, Option.getD_some]
      rw [← h1, ← ht, List.getElem?_take, if_pos (by omega)]
      simp
    unfold ECells
    rw [hadd]
    exact ⟨hc 0 (by decide), hc 1 (by decide), hc 2 (by decide)⟩
theorem fulls_succ (g : Gp) (k : Nat) : (List.range (k + 1)).filter (is 3 g) = (List.range k).filter (is 3 g) ++ if is 3 g k = true then [k] else [] := by
  rw [List.range_succ, List.filter_append]; simp [List.filter]; split <;> simp_all
theorem fulls_range (g : Gp) : (List.range 8).filter (is 3 g) = fulls g := rfl
theorem range_len (g : Gp) (k : Nat) : ((List.range k).filter (is 3 g)).length ≤ k := by have := List.length_filter_le (is 3 g) (List.range k); simpa using this
end Go.Proofs.YtplhgcidegngiaaGreatDoor.group
