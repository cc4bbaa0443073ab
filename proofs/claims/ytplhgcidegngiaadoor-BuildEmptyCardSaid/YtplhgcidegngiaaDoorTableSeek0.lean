/- table: Seek. -/
import Derived.Test.YtplhgcidegngiaaDoorTablePlace
import Derived.Test.YtplhgcidegngiaaDoorProbeWalkF
import Derived.Test.YtplhgcidegngiaaDoorGroupFns
import Derived.Test.YtplhgcidegngiaaDoorKit
namespace Go.Proofs.YtplhgcidegngiaaDoor.table
open Go.ChangeShapes Go.WideShapes Go.ChangeAt Go.RowKit Go.Shelf swar under trap meter group probe lens tail call
attribute [local go_sem] Oper.semAt_some stage.pureUpon move.stepUpon
set_option linter.unusedSimpArgs false
set_option linter.unusedVariables false

theorem LnStep.belowD {d : List Nat} {L : Ln} {m : Mt} {w W W' : World} {D : Nat} (h : LnStep d L m w W) (hb : Below D W W') (hD : w.heap.size ≤ D) (hd : ∀ b ∈ L.d, b < w.heap.size) : LnStep d L m w W' := by
  have k : Past (d ++ L.d) w W' := ⟨hb.os.trans h.past.os, hb.tape.trans h.past.tape, hb.output.trans h.past.output, Nat.le_trans h.past.size hb.size, fun j hj hn => (hb.block j (by omega)).trans (h.past.block j hj hn)⟩
  cases L with
  | nil => exact ⟨k, trivial, trivial⟩
  | pr B o => exact ⟨k, h.side.trans (Side.of_block (hb.block B (Nat.lt_of_lt_of_le (hd B (by simp [Ln.d])) hD))), MAt.of_block h.at' (hb.block B (Nat.lt_of_lt_of_le (hd B (by simp [Ln.d])) hD))⟩
  | vi B o => exact ⟨k, h.side.trans (Side.of_block (hb.block B (Nat.lt_of_lt_of_le (hd B (by simp [Ln.d])) hD))), MAt.of_block h.at' (hb.block B (Nat.lt_of_lt_of_le (hd B (by simp [Ln.d])) hD))⟩
theorem keeps_from {d : List Nat} {B : Nat} {W W' : World} (h : Past d W W') (hd : ∀ b ∈ d, b < B) : KeepsFrom B W W' :=
  ⟨h.size, fun k o hB hk ho => (h.block k (Array.getElem?_eq_some_iff.1 hk).1 fun e => by have := hd k e; omega).trans hk⟩
/-- the groups that were seen, as places -/
def lastA (B : Nat) (l : List Nat) : Option Addr := if l = [] then none else some ⟨B, lastOf l * 25, none⟩
def roomA (t : Tb) (B : Nat) (l : List Nat) : Option Addr := if l = [] then none else some ⟨B, roomOf (free t) l * 25, none⟩
theorem lastA_snoc (B : Nat) (l : List Nat) (x : Nat) : lastA B (l ++ [x]) = some ⟨B, x * 25, none⟩ := by unfold lastA; rw [if_neg (by simp), lastOf_snoc]
theorem roomA_yes {t : Tb} {l : List Nat} (h : l.any (free t) = true) (B x : Nat) : roomA t B (l ++ [x]) = roomA t B l := by
  have hl : l ≠ [] := by intro e; rw [e] at h; cases h
  unfold roomA; rw [if_neg (by simp), if_neg hl, roomOf_snoc, if_pos h]
theorem roomA_no {t : Tb} {l : List Nat} (h : l.any (free t) = false) (B x : Nat) : roomA t B (l ++ [x]) = some ⟨B, x * 25, none⟩ := by
  unfold roomA; rw [if_neg (by simp), roomOf_snoc, h]; rfl
/-- what lies in memory between two rounds: the boxes from x on -/
structure SK (T key h n : Nat) (L : Ln) (m : Mt) (w : World) (x k : Nat) (lp rp : Option Addr) (rm : Bool) (W : World) : Prop where
  ln : LnStep [] L (L.see m k) w W
  ct : W.cell? ⟨x, 0, none⟩ = some (.pointer (some ⟨T, 0, none⟩))
  cl : W.cell? ⟨x + 1, 0, none⟩ = some (.pointer L.p)
  ck : W.cell? ⟨x + 1 + 1, 0, none⟩ = some (.int .u64 (key : Nat))
  ch : W.cell? ⟨x + 1 + 1 + 1, 0, none⟩ = some (.int .u64 (h : Nat))
  r0 : W.cell? ⟨x + 1 + 1 + 1 + 1, 0, none⟩ = some (.pointer none)
  r1 : W.cell? ⟨x + 1 + 1 + 1 + 1, 1, none⟩ = some (.int .u64 0)
  r2 : W.cell? ⟨x + 1 + 1 + 1 + 1, 2, none⟩ = some (.int .u64 0)
  r3 : W.cell? ⟨x + 1 + 1 + 1 + 1, 3, none⟩ = some (.pointer none)
  r4 : W.cell? ⟨x + 1 + 1 + 1 + 1, 4, none⟩ = some (.pointer none)
  rf : ∀ i, W.frozen? ⟨x + 1 + 1 + 1 + 1, i, none⟩ = false
  s0 : W.cell? ⟨x + 1 + 1 + 1 + 1 + 1, 0, none⟩ = some (.pointer (some ⟨T, 0, none⟩))
  s1 : W.cell? ⟨x + 1 + 1 + 1 + 1 + 1, 1, none⟩ = some (.int .u64 (key : Nat))
  s2 : W.cell? ⟨x + 1 + 1 + 1 + 1 + 1, 2, none⟩ = some (.int .u64 (h : Nat))
  s3 : W.cell? ⟨x + 1 + 1 + 1 + 1 + 1, 3, none⟩ = some (.pointer lp)
  s4 : W.cell? ⟨x + 1 + 1 + 1 + 1 + 1, 4, none⟩ = some (.pointer rp)
  sf : ∀ i, W.frozen? ⟨x + 1 + 1 + 1 + 1 + 1, i, none⟩ = false
  rm : W.cell? ⟨x + 1 + 1 + 1 + 1 + 1 + 1, 0, none⟩ = some (.bool rm)
  rmf : W.frozen? ⟨x + 1 + 1 + 1 + 1 + 1 + 1, 0, none⟩ = false
  wh : W.cell? ⟨x + 1 + 1 + 1 + 1 + 1 + 1 + 1, 0, none⟩ = some (.int .u64 ((h / 128 : Nat) : Int))
  wg : W.cell? ⟨x + 1 + 1 + 1 + 1 + 1 + 1 + 1 + 1, 0, none⟩ = some (.int .i64 (n : Nat))
section
variable {T key h n : Nat} {L : Ln} {m : Mt} {w : World} {x k : Nat} {lp rp : Option Addr} {rm : Bool} {W W' : World}
theorem SK.lt (s : SK T key h n L m w x k lp rp rm W) : x + 9 ≤ W.heap.size := by have := World.block_lt_of_cell? W _ s.wg; simp at this; omega
theorem SK.of_blocks (s : SK T key h n L m w x k lp rp rm W) {k' : Nat} (hl : LnStep [] L (L.see m k') w W') (hb : ∀ i, x ≤ i → i < x + 9 → W'.heap[i]? = W.heap[i]?) : SK T key h n L m w x k' lp rp rm W' := by
  have c : ∀ {i j v}, x ≤ i → i < x + 9 → W.cell? ⟨i, j, none⟩ = some v → W'.cell? ⟨i, j, none⟩ = some v := fun h1 h2 hc => (World.cell?_of_block (w := W) (hb _ h1 h2)).trans hc
  have f : ∀ {i j}, x ≤ i → i < x + 9 → W.frozen? ⟨i, j, none⟩ = false → W'.frozen? ⟨i, j, none⟩ = false := fun h1 h2 hc => (World.frozen?_of_block (w := W) (hb _ h1 h2)).trans hc
  exact ⟨hl, c (by omega) (by omega) s.ct, c (by omega) (by omega) s.cl, c (by omega) (by omega) s.ck, c (by omega) (by omega) s.ch, c (by omega) (by omega) s.r0, c (by omega) (by omega) s.r1, c (by omega) (by omega) s.r2, c (by omega) (by omega) s.r3, c (by omega) (by omega) s.r4, fun i => f (by omega) (by omega) (s.rf i), c (by omega) (by omega) s.s0, c (by omega) (by omega) s.s1, c (by omega) (by omega) s.s2, c (by omega) (by omega) s.s3, c (by omega) (by omega) s.s4, fun i => f (by omega) (by omega) (s.sf i), c (by omega) (by omega) s.rm, f (by omega) (by omega) s.rmf, c (by omega) (by omega) s.wh, c (by omega) (by omega) s.wg⟩
theorem SK.below (s : SK T key h n L m w x k lp rp rm W) {D : Nat} (hb : Below D W W') (hx : w.heap.size ≤ x) (hD : x + 9 ≤ D) (hd : ∀ b ∈ L.d, b < w.heap.size) : SK T key h n L m w x k lp rp rm W' :=
  s.of_blocks (LnStep.belowD s.ln hb (by omega) hd) fun i _ h2 => hb.block i (by omega)
theorem SK.look (s : SK T key h n L m w x k lp rp rm W) (hx : w.heap.size ≤ x) (hd : ∀ b ∈ L.d, b < w.heap.size) (hs : LnStep [] L (L.one (L.see m k)) W W') : SK T key h n L m w x (k + 1) lp rp rm W' :=
  s.of_blocks (s.ln.trans hs) fun i h1 h2 => hs.past.block i (by have := s.lt; omega) (by simp; intro e; have := hd i e; omega)
theorem off_b {a b i j : Nat} (h : a ≠ b) : (⟨a, i, none⟩ : Addr) ≠ ⟨b, j, none⟩ := by intro e; injection e with e _ _; exact h e
/-- a store into the spot's box -/
theorem SK.setLast (s : SK T key h n L m w x k lp rp rm W) (hx : w.heap.size ≤ x) (hd : ∀ b ∈ L.d, b < w.heap.size) (p : Option Addr) : SK T key h n L m w x k p rp rm (W.setCell ⟨x + 1 + 1 + 1 + 1 + 1, 3, none⟩ (.pointer p)) := by
  have o : ∀ {b j v}, b ≠ x + 1 + 1 + 1 + 1 + 1 → W.cell? ⟨b, j, none⟩ = some v → (W.setCell ⟨x + 1 + 1 + 1 + 1 + 1, 3, none⟩ (.pointer p)).cell? ⟨b, j, none⟩ = some v := fun hb hc => (World.cell?_setCell_other _ _ _ _ (off_b (Ne.symm hb))).trans hc
  have o' : ∀ {j v}, j ≠ 3 → W.cell? ⟨x + 1 + 1 + 1 + 1 + 1, j, none⟩ = some v → (W.setCell ⟨x + 1 + 1 + 1 + 1 + 1, 3, none⟩ (.pointer p)).cell? ⟨x + 1 + 1 + 1 + 1 + 1, j, none⟩ = some v := fun hb hc => (World.cell?_setCell_other _ _ _ _ (off_ne (Ne.symm hb))).trans hc
  exact ⟨s.ln.newset hd (by simp; omega) _, o (by omega) s.ct, o (by omega) s.cl, o (by omega) s.ck, o (by omega) s.ch, o (by omega) s.r0, o (by omega) s.r1, o (by omega) s.r2, o (by omega) s.r3, o (by omega) s.r4, fun i => by rw [World.frozen?_setCell]; exact s.rf i, o' (by decide) s.s0, o' (by decide) s.s1, o' (by decide) s.s2, World.cell?_setCell_same' _ _ _ (by rw [s.s3]; rfl), o' (by decide) s.s4, fun i => by rw [World.frozen?_setCell]; exact s.sf i, o (by omega) s.rm, by rw [World.frozen?_setCell]; exact s.rmf, o (by omega) s.wh, o (by omega) s.wg⟩
theorem SK.setRoom (s : SK T key h n L m w x k lp rp rm W) (hx : w.heap.size ≤ x) (hd : ∀ b ∈ L.d, b < w.heap.size) (p : Option Addr) : SK T key h n L m w x k lp p rm (W.setCell ⟨x + 1 + 1 + 1 + 1 + 1, 4, none⟩ (.pointer p)) := by
  have o : ∀ {b j v}, b ≠ x + 1 + 1 + 1 + 1 + 1 → W.cell? ⟨b, j, none⟩ = some v → (W.setCell ⟨x + 1 + 1 + 1 + 1 + 1, 4, none⟩ (.pointer p)).cell? ⟨b, j, none⟩ = some v := fun hb hc => (World.cell?_setCell_other _ _ _ _ (off_b (Ne.symm hb))).trans hc
  have o' : ∀ {j v}, j ≠ 4 → W.cell? ⟨x + 1 + 1 + 1 + 1 + 1, j, none⟩ = some v → (W.setCell ⟨x + 1 + 1 + 1 + 1 + 1, 4, none⟩ (.pointer p)).cell? ⟨x + 1 + 1 + 1 + 1 + 1, j, none⟩ = some v := fun hb hc => (World.cell?_setCell_other _ _ _ _ (off_ne (Ne.symm hb))).trans hc
  exact ⟨s.ln.newset hd (by simp; omega) _, o (by omega) s.ct, o (by omega) s.cl, o (by omega) s.ck, o (by omega) s.ch, o (by omega) s.r0, o (by omega) s.r1, o (by omega) s.r2, o (by omega) s.r3, o (by omega) s.r4, fun i => by rw [World.frozen?_setCell]; exact s.rf i, o' (by decide) s.s0, o' (by decide) s.s1, o' (by decide) s.s2, o' (by decide) s.s3, World.cell?_setCell_same' _ _ _ (by rw [s.s4]; rfl), fun i => by rw [World.frozen?_setCell]; exact s.sf i, o (by omega) s.rm, by rw [World.frozen?_setCell]; exact s.rmf, o (by omega) s.wh, o (by omega) s.wg⟩
theorem SK.setRm (s : SK T key h n L m w x k lp rp rm W) (hx : w.heap.size ≤ x) (hd : ∀ b ∈ L.d, b < w.heap.size) (b' : Bool) : SK T key h n L m w x k lp rp b' (W.setCell ⟨x + 1 + 1 + 1 + 1 + 1 + 1, 0, none⟩ (.bool b')) := by
  have o : ∀ {b j v}, b ≠ x + 1 + 1 + 1 + 1 + 1 + 1 → W.cell? ⟨b, j, none⟩ = some v → (W.setCell ⟨x + 1 + 1 + 1 + 1 + 1 + 1, 0, none⟩ (.bool b')).cell? ⟨b, j, none⟩ = some v := fun hb hc => (World.cell?_setCell_other _ _ _ _ (off_b (Ne.symm hb))).trans hc
  exact ⟨s.ln.newset hd (by simp; omega) _, o (by omega) s.ct, o (by omega) s.cl, o (by omega) s.ck, o (by omega) s.ch, o (by omega) s.r0, o (by omega) s.r1, o (by omega) s.r2, o (by omega) s.r3, o (by omega) s.r4, fun i => by rw [World.frozen?_setCell]; exact s.rf i, o (by omega) s.s0, o (by omega) s.s1, o (by omega) s.s2, o (by omega) s.s3, o (by omega) s.s4, fun i => by rw [World.frozen?_setCell]; exact s.sf i, World.cell?_setCell_same' _ _ _ (by rw [s.rm]; rfl), by rw [World.frozen?_setCell]; exact s.rmf, o (by omega) s.wh, o (by omega) s.wg⟩
theorem SK.keepB (s : SK T key h n L m w x k lp rp rm W) {k' : Nat} {lp' rp' : Option Addr} {rm' : Bool} (s' : SK T key h n L m w x k' lp' rp' rm' W') : KeepB (x + 1 + 1 + 1 + 1 + 1 + 1 + 1 + 1) (x + 1 + 1 + 1 + 1 + 1 + 1 + 1) W W' := ⟨s'.wg.trans s.wg.symm, s'.wh.trans s.wh.symm⟩
end
/-- the boxes ahead of the loop, the walk's two among them -/
def seekObjs (T key h n : Nat) (L : Ln) : List Obj :=
  [.cells #[.pointer (some ⟨T, 0, none⟩)] 29 (0, 0), .cells #[.pointer L.p] 44 (0, 0), .cells #[.int .u64 (key : Nat)] 39 (0, 0), .cells #[.int .u64 (h : Nat)] 39 (0, 0),
   .cells #[.pointer none, .int .u64 0, .int .u64 0, .pointer none, .pointer none] 68 (0, 0), .cells #[.pointer (some ⟨T, 0, none⟩), .int .u64 (key : Nat), .int .u64 (h : Nat), .pointer none, .pointer none] 68 (0, 0), .cells #[.bool false] 4 (0, 0)]
def walkObjs (h n : Nat) : List Obj := [.cells #[.int .u64 ((h / 128 : Nat) : Int)] 39 (0, 0), .cells #[.int .i64 (n : Nat)] 3 (0, 0)]
theorem SK.start (T key h n : Nat) (L : Ln) (m : Mt) (w : World) (hL : LnAt L m w) (q : Nat) : SK T key h n L m w w.heap.size 0 none none false (allocs ((allocs w (seekObjs T key h n L)).drewN q) (walkObjs h n)) := by
  have hz : ((allocs w (seekObjs T key h n L)).drewN q).heap.size = w.heap.size + 7 := allocs_size (seekObjs T key h n L) w
  have hb2 := allocs_below (walkObjs h n) ((allocs w (seekObjs T key h n L)).drewN q)
  have hb1 : Below w.heap.size w ((allocs w (seekObjs T key h n L)).drewN q) := under.below_step (allocs_below _ w) (below_drewN' _ q)
  have c : ∀ i (c : Array Value) (ty : TypeId), (seekObjs T key h n L)[i]? = some (.cells c ty (0, 0)) → ∀ b, b = w.heap.size + i → ∀ j v, c[j]? = some v → (allocs ((allocs w (seekObjs T key h n L)).drewN q) (walkObjs h n)).cell? ⟨b, j, none⟩ = some v := fun i c ty hc b hb j v hv => by
    have h1 : ((allocs w (seekObjs T key h n L)).drewN q).cell? ⟨b, j, none⟩ = some v := (allocs_cell _ w i hc b hb j).trans hv
    exact keepc hb2 h1
  have f : ∀ i (c : Array Value) (ty : TypeId), (seekObjs T key h n L)[i]? = some (.cells c ty (0, 0)) → ∀ b, b = w.heap.size + i → i < 7 → ∀ j, (allocs ((allocs w (seekObjs T key h n L)).drewN q) (walkObjs h n)).frozen? ⟨b, j, none⟩ = false := fun i c ty hc b hb hi j => by
    have h1 : ((allocs w (seekObjs T key h n L)).drewN q).frozen? ⟨b, j, none⟩ = false := allocs_frozen _ w i hc b hb j
    exact (hb2.frozen (by rw [hz]; show b < _; omega)).trans h1
  have d : ∀ i (c : Array Value) (ty : TypeId), (walkObjs h n)[i]? = some (.cells c ty (0, 0)) → ∀ b, b = w.heap.size + 7 + i → ∀ j, (allocs ((allocs w (seekObjs T key h n L)).drewN q) (walkObjs h n)).cell? ⟨b, j, none⟩ = c[j]? := fun i c ty hc b hb j => allocs_cell _ _ i hc b (by rw [hz]; exact hb) j
  exact ⟨.of [] hL (under.below_step hb1 hb2), c 0 _ _ rfl _ (by omega) 0 _ rfl, c 1 _ _ rfl _ (by omega) 0 _ rfl, c 2 _ _ rfl _ (by omega) 0 _ rfl, c 3 _ _ rfl _ (by omega) 0 _ rfl, c 4 _ _ rfl _ (by omega) 0 _ rfl, c 4 _ _ rfl _ (by omega) 1 _ rfl, c 4 _ _ rfl _ (by omega) 2 _ rfl, c 4 _ _ rfl _ (by omega) 3 _ rfl, c 4 _ _ rfl _ (by omega) 4 _ rfl, f 4 _ _ rfl _ (by omega) (by decide), c 5 _ _ rfl _ (by omega) 0 _ rfl, c 5 _ _ rfl _ (by omega) 1 _ rfl, c 5 _ _ rfl _ (by omega) 2 _ rfl, c 5 _ _ rfl _ (by omega) 3 _ rfl, c 5 _ _ rfl _ (by omega) 4 _ rfl, f 5 _ _ rfl _ (by omega) (by decide), c 6 _ _ rfl _ (by omega) 0 _ rfl, f 6 _ _ rfl _ (by omega) (by decide) 0, d 0 _ _ rfl _ (by omega) 0, d 1 _ _ rfl _ (by omega) 0⟩
end Go.Proofs.YtplhgcidegngiaaDoor.table
