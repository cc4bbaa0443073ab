/- table: Least. -/
import Derived.Test.YtibcokiijlamcaaGreatDoorTabSeek
import Derived.Test.YtibcokiijlamcaaGreatDoorTabMath
import Derived.LoopTactic
namespace Go.Proofs.YtibcokiijlamcaaGreatDoor.table
open Go.ChangeShapes Go.WideShapes Go.ChangeAt Go.RowKit Go.Shelf swar under trap meter group probe lens tail call split
attribute [local go_sem] Oper.semAt_some stage.pureUpon move.stepUpon
set_option linter.unusedSimpArgs false
set_option linter.unusedVariables false

/-- an entry's cells behind an address -/
def ECells (x : Addr) (j : Nat) (e : Sl) (W : World) : Prop :=
  W.cell? (x.add (j * 3)) = some (.int .u64 (e.key : Nat)) ∧ W.cell? ⟨(x.add (j * 3)).block, (x.add (j * 3)).off + 1, none⟩ = some (.int .u64 (e.val : Nat)) ∧ W.cell? ⟨(x.add (j * 3)).block, (x.add (j * 3)).off + 2, none⟩ = some (.int .u64 (e.hash : Nat))
theorem ECells.read {x : Addr} {j : Nat} {e : Sl} {W W' : World} (h : ECells x j e W) (hb : Below W.heap.size W W') : ECells x j e W' := ⟨keepc hb h.1, keepc hb h.2.1, keepc hb h.2.2⟩
/-- a slice holds the entries of a list, in a block from b on -/
def ListAt (b : Nat) (o : Option Addr) (l : List Sl) (W : World) : Prop := ∀ j (hj : j < l.length), ∃ x, o = some x ∧ b ≤ (x.add (j * 3)).block ∧ ECells x j l[j] W
theorem ListAt.read {b : Nat} {o : Option Addr} {l : List Sl} {W W' : World} (h : ListAt b o l W) (hb : Below W.heap.size W W') : ListAt b o l W' := fun j hj => by
  obtain ⟨x, e, h1, hc⟩ := h j hj; exact ⟨x, e, h1, hc.read hb⟩
theorem Kept.list {base : Nat} {W : World} {v : Value} {g : Gp} {l : List Nat} (h : group.Kept base W v g l) : ∃ o c, v = .slice o l.length c ∧ ListAt base o (l.map g) W := by
  obtain ⟨hl, h⟩ := h
  rcases h with ⟨rfl, hn⟩ | ⟨B, c, cur, rfl, hbase, hB, hn, _, hs, ht⟩
  · exact ⟨none, 0, by rw [hn], fun j hj => by rw [List.length_map] at hj; omega⟩
  · have hadd : ∀ j, (⟨B, 0, none⟩ : Addr).add (j * 3) = ⟨B, j * 3, none⟩ := fun j => by unfold Addr.add; split <;> simp_all
    refine ⟨_, _, rfl, fun j hj => ⟨_, rfl, by rw [hadd]; exact hbase, ?_⟩⟩
    rw [List.length_map] at hj
    have hc : ∀ d, d < 3 → W.cell? ⟨B, j * 3 + d, none⟩ = (ent (g l[j]))[d]? := fun d hd => by
      rw [cell_of_row _ _ _ _ _ _ hB]
      have h1 := rows_at g l j d hj hd
      rw [← h1, ← ht, List.getElem?_take, if_pos (by omega)]
      simp
    rw [List.getElem_map]
    unfold ECells
    rw [hadd]
    exact ⟨hc 0 (by decide), hc 1 (by decide), hc 2 (by decide)⟩
def sK (s : Option Sl) : Nat := match s with | some e => e.key | none => 0
def sV (s : Option Sl) : Nat := match s with | some e => e.val | none => 0
def sH (s : Option Sl) : Nat := match s with | some e => e.hash | none => 0
/-- what lies in memory between two rounds: the boxes from x on -/
structure LK (key hash : Nat) (L : Ln) (m : Mt) (w : World) (x k : Nat) (s : Option Sl) (W : World) : Prop where
  ln : LnStep [] L (L.see m k) w W
  cl : W.cell? ⟨x, 0, none⟩ = some (.pointer L.p)
  r : EBox (x + 1) 0 0 0 W
  f : EBox (x + 1 + 1) key 0 hash W
  b : EBox (x + 1 + 1 + 1) (sK s) (sV s) (sH s) W
section
variable {key hash : Nat} {L : Ln} {m : Mt} {w : World} {x k : Nat} {s : Option Sl} {W W' : World}
theorem LK.read (h : LK key hash L m w x k s W) (hb : Below W.heap.size W W') : LK key hash L m w x k s W' := ⟨h.ln.below hb, keepc hb h.cl, h.r.keep hb, h.f.keep hb, h.b.keep hb⟩
theorem LK.look (h : LK key hash L m w x k s W) (hx : w.heap.size ≤ x) (hd : ∀ b ∈ L.d, b < w.heap.size) (hs : LnStep [] L (L.one (L.see m k)) W W') : LK key hash L m w x (k + 1) s W' := by
  have n : ∀ b, x ≤ b → b ∉ ([] ++ L.d) := fun b hb he => by have := hd b (by simpa using he); omega
  exact ⟨h.ln.trans hs, hs.past.cell h.cl (n _ (by omega)), h.r.past hs.past (n _ (by omega)), h.f.past hs.past (n _ (by omega)), h.b.past hs.past (n _ (by omega))⟩
theorem EBox.set {X a b c : Nat} {w : World} (h : EBox X a b c w) (a' b' c' : Nat) : EBox X a' b' c' (set3 X a' b' c' w) := by
  obtain ⟨h0, h1, h2, hf⟩ := h
  refine ⟨?_, ?_, ?_, fun i => by unfold set3; simp [go_sem, hf]⟩ <;> unfold set3 <;> simp [World.cell?_setCell_same', World.cell?_setCell_other, h0, h1, h2]
theorem EBox.other {X Y a b c : Nat} {w : World} (h : EBox X a b c w) (hne : X ≠ Y) (a' b' c' : Nat) : EBox X a b c (set3 Y a' b' c' w) :=
  ⟨by rw [set3_other hne]; exact h.c0, by rw [set3_other hne]; exact h.c1, by rw [set3_other hne]; exact h.c2, fun i => by unfold set3; rw [World.frozen?_setCell, World.frozen?_setCell, World.frozen?_setCell]; exact h.fz i⟩
theorem LK.set (h : LK key hash L m w x k s W) (hx : w.heap.size ≤ x) (hd : ∀ b ∈ L.d, b < w.heap.size) (e : Sl) : LK key hash L m w x k (some e) (set3 (x + 1 + 1 + 1) e.key e.val e.hash W) :=
  ⟨((h.ln.newset hd (by simp; omega) _).newset hd (by simp; omega) _).newset hd (by simp; omega) _, by rw [set3_other (by omega)]; exact h.cl, h.r.other (by omega) _ _ _, h.f.other (by omega) _ _ _, h.b.set _ _ _⟩
theorem ListAt.set {b : Nat} {o : Option Addr} {l : List Sl} {W : World} (h : ListAt b o l W) {X a' b' c' : Nat} (hX : X < b) : ListAt b o l (set3 X a' b' c' W) := fun j hj => by
  obtain ⟨x, e, h1, h2, h3, h4⟩ := h j hj
  have n0 : ∀ {p : Addr} {i : Nat}, p.block = (x.add (j * 3)).block → (⟨X, i, none⟩ : Addr) ≠ p := fun hp e => by rw [← e] at hp; simp at hp; omega
  have n1 : ∀ p : Addr, p.block = (x.add (j * 3)).block → (set3 X a' b' c' W).cell? p = W.cell? p := fun p hp => by
    unfold set3; rw [World.cell?_setCell_other _ _ _ _ (n0 hp), World.cell?_setCell_other _ _ _ _ (n0 hp), World.cell?_setCell_other _ _ _ _ (n0 hp)]
  exact ⟨x, e, h1, (n1 _ rfl).trans h2, (n1 ⟨_, _, none⟩ rfl).trans h3, (n1 ⟨_, _, none⟩ rfl).trans h4⟩
end
/-- the boxes, when they are new -/
abbrev boxE (k v h : Nat) (w : World) : World := w.alloc (.cells #[.int .u64 (k : Nat), .int .u64 (v : Nat), .int .u64 (h : Nat)] 60)
abbrev boxes (key hash : Nat) (L : Ln) (w : World) : World := boxE 0 0 0 (boxE key 0 hash (boxE 0 0 0 (w.alloc (.cells #[.pointer L.p] 66))))
theorem boxes_below (key hash : Nat) (L : Ln) (w : World) : Below w.heap.size w (boxes key hash L w) := under.below_step (under.below_step (under.below_step (new_block w _) (new_block _ _)) (new_block _ _)) (new_block _ _)
theorem LK.new (key hash : Nat) {L : Ln} {m : Mt} {w : World} (h : LnAt L m w) : LK key hash L m w w.heap.size 0 none (boxes key hash L w) := by
  have e0 : (w.alloc (.cells #[.pointer L.p] 66)).cell? ⟨w.heap.size, 0, none⟩ = some (.pointer L.p) := by
    rw [cell_of_row _ _ _ _ _ _ (World.alloc_heap_new w (.cells #[.pointer L.p] 66))]; rfl
  have e1 := EBox.new 0 0 0 (w.alloc (.cells #[.pointer L.p] 66))
  have e2 := EBox.new key 0 hash (boxE 0 0 0 (w.alloc (.cells #[.pointer L.p] 66)))
  have e3 := EBox.new 0 0 0 (boxE key 0 hash (boxE 0 0 0 (w.alloc (.cells #[.pointer L.p] 66))))
  have b1 := new_block (w.alloc (.cells #[.pointer L.p] 66)) (.cells #[.int .u64 (0 : Nat), .int .u64 (0 : Nat), .int .u64 (0 : Nat)] 60)
  have b2 := new_block (boxE 0 0 0 (w.alloc (.cells #[.pointer L.p] 66))) (.cells #[.int .u64 (key : Nat), .int .u64 (0 : Nat), .int .u64 (hash : Nat)] 60)
  have b3 := new_block (boxE key 0 hash (boxE 0 0 0 (w.alloc (.cells #[.pointer L.p] 66)))) (.cells #[.int .u64 (0 : Nat), .int .u64 (0 : Nat), .int .u64 (0 : Nat)] 60)
  have hL : L.see m 0 = m := by cases L <;> rfl
  rw [World.size_alloc] at e1 e2 e3
  rw [World.size_alloc] at e2 e3
  rw [World.size_alloc] at e3
  refine ⟨?_, keepc b3 (keepc b2 (keepc b1 e0)), (e1.keep b2).keep b3, e2.keep b3, e3⟩
  rw [hL]
  exact .of [] h (boxes_below key hash L w)
end Go.Proofs.YtibcokiijlamcaaGreatDoor.table
