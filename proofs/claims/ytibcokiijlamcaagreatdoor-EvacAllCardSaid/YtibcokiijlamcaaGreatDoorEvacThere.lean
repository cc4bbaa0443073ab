/- evac: which entries there are, and in which table each one is. -/
import Derived.Test.YtibcokiijlamcaaGreatDoorEvacRun
import Derived.Test.YtibcokiijlamcaaGreatDoorMovex
import Derived.Test.YtibcokiijlamcaaGreatDoorSoundB
namespace Go.Proofs.YtibcokiijlamcaaGreatDoor.evac
open Go.ChangeShapes Go.WideShapes Go.ChangeAt Go.RowKit Go.Shelf swar under trap meter group probe lens tail call table
set_option linter.unusedSimpArgs false
set_option linter.unusedVariables false

/-- the entry of a key -/
def entK (hz : Nat → Nat) (key : Nat) : Sl := ⟨3, key, key + 5, hz key⟩
/-- where what is there is found -/
structure Seen (hz : Nat → Nat) (lh N d : Nat) (U : Nat → Bool) (t : Nat → Tb) : Prop where
  ex : ∀ key, isThere (t 0) key (hz key) = true → isThere (t (tgt N d (hz key))) key (hz key) = false
  un : ∀ key, U key = (isThere (t 0) key (hz key) || isThere (t (tgt N d (hz key))) key (hz key))
  e0 : ∀ key, isThere (t 0) key (hz key) = true → entOf (t 0) key (hz key) = entK hz key
  e1 : ∀ key, isThere (t (tgt N d (hz key))) key (hz key) = true → entOf (t (tgt N d (hz key))) key (hz key) = entK hz key
section
variable {hz : Nat → Nat} {lh N d next : Nat} {U : Nat → Bool} {t : Nat → Tb}
theorem Jn.seen (hN : N = 2 ∨ N = 3) (h : Jn hz lh N d next U t) : Seen hz lh N d U t := by
  obtain ⟨M, s⟩ := h.st
  have h0 : 0 < N := by omega
  have r0 := fun key => (s.rep 0 h0).rep.there key
  have r1 := fun key => (s.rep _ (tgt_lt hN d (hz key))).rep.there key
  refine ⟨fun key hk => ?_, fun key => ?_, fun key hk => ?_, fun key hk => ?_⟩
  · rw [r0] at hk
    rw [r1, s.one key hk]; rfl
  · rw [r0, r1]; exact s.un key
  · rw [r0] at hk
    obtain ⟨v, hv⟩ := Option.isSome_iff_exists.1 hk
    rw [(s.rep 0 h0).rep.ent hv, s.val 0 h0 key v hv]; rfl
  · rw [r1] at hk
    obtain ⟨v, hv⟩ := Option.isSome_iff_exists.1 hk
    rw [(s.rep _ (tgt_lt hN d (hz key))).rep.ent hv, s.val _ (tgt_lt hN d (hz key)) key v hv]; rfl
/-- how many entries so many tables have -/
def sl (t : Nat → Tb) : Nat → Int
  | 0 => 0
  | j + 1 => sl t j + (t j).len
theorem Jn.sum (hN : N = 2 ∨ N = 3) (h : Jn hz lh N d next U t) : sl t N = ((List.range lh).countP U : Nat) := by
  obtain ⟨M, s⟩ := h.st
  have := s.sum hN
  rcases hN with rfl | rfl
  · rw [if_neg (by decide)] at this
    show 0 + (t 0).len + (t 1).len = _
    omega
  · rw [if_pos rfl] at this
    show 0 + (t 0).len + (t 1).len + (t 2).len = _
    omega
theorem Jn.inv (h : Jn hz lh N d next U t) : ∀ i, i < N → Inv hz (t i) := by
  obtain ⟨M, s⟩ := h.st
  exact fun i hi => (s.rep i hi).rep.1
theorem Jn.none (hN : N = 2 ∨ N = 3) (h : Jn hz lh N d (t 0).n U t) : (t 0).len = 0 := by
  obtain ⟨M, s⟩ := h.st
  exact h.off.none (s.rep 0 (by omega))
/-- the keys that are there -/
def ksU (U : Nat → Bool) (j : Nat) : List Nat := (List.range j).filter U
theorem ksU_succ (U : Nat → Bool) (j : Nat) : ksU U (j + 1) = if U j = true then ksU U j ++ [j] else ksU U j := by
  unfold ksU
  rw [List.range_succ, List.filter_append]
  by_cases h : U j = true
  · rw [if_pos h]; simp [h]
  · rw [if_neg h]; simp [h]
theorem ksU_length (U : Nat → Bool) (j : Nat) : (ksU U j).length = (List.range j).countP U := (List.countP_eq_length_filter).symm
theorem ksU_len_le (U : Nat → Bool) (j : Nat) : (ksU U j).length ≤ j := by
  have := List.length_filter_le U (List.range j)
  rw [List.length_range] at this; exact this
theorem ksU_mem {e : Sl} (h : e ∈ (ksU U lh).map (entK hz)) : ∃ key, key < lh ∧ U key = true ∧ e = entK hz key := by
  obtain ⟨key, hk, rfl⟩ := List.mem_map.1 h
  obtain ⟨h1, h2⟩ := List.mem_filter.1 hk
  exact ⟨key, List.mem_range.1 h1, h2, rfl⟩
end
/-- a slice holds the entries of a list, in a block from lo on, below hi -/
def LAt (lo hi : Nat) (o : Option Addr) (l : List Sl) (W : World) : Prop := ∀ j (hj : j < l.length), ∃ x, o = some x ∧ lo ≤ (x.add (j * 3)).block ∧ (x.add (j * 3)).block < hi ∧ table.ECells x j l[j] W
theorem LAt.of {lo : Nat} {o : Option Addr} {l : List Sl} {W : World} (h : ListAt lo o l W) : LAt lo W.heap.size o l W := fun j hj => by
  obtain ⟨x, h1, h2, h3⟩ := h j hj
  exact ⟨x, h1, h2, World.block_lt_of_cell? W _ h3.1, h3⟩
theorem LAt.past {lo hi : Nat} {o : Option Addr} {l : List Sl} {W W' : World} {d : List Nat} (h : LAt lo hi o l W) (hp : Past d W W') (hd : ∀ b ∈ d, b < lo ∨ hi ≤ b) : LAt lo hi o l W' := fun j hj => by
  obtain ⟨x, h1, h2, h3, c0, c1, c2⟩ := h j hj
  have hn : (x.add (j * 3)).block ∉ d := fun e => by rcases hd _ e with e | e <;> omega
  have hb := hp.block _ (World.block_lt_of_cell? W _ c0) hn
  exact ⟨x, h1, h2, h3, (World.cell?_of_block (w := W) hb).trans c0, hp.cell c1 hn, hp.cell c2 hn⟩
theorem LAt.read {lo hi : Nat} {o : Option Addr} {l : List Sl} {W W' : World} (h : LAt lo hi o l W) (hb : Below W.heap.size W W') : LAt lo hi o l W' := fun j hj => by
  obtain ⟨x, h1, h2, h3, c⟩ := h j hj
  exact ⟨x, h1, h2, h3, c.read hb⟩
/-! ### what is found, and a box of it, in one region -/
structure FS where
  al : Option Nat
  st : Bool
structure FD (w : World) (k v h : Nat) (s : FS) (W : World) : Prop where
  bel : Below w.heap.size w W
  box : ∀ b, s.al = some b → w.heap.size ≤ b ∧ ∃ x y z, EBox b x y z W ∧ (s.st = true → x = k ∧ y = v ∧ z = h)
theorem FD.start (w : World) (k v h : Nat) {W : World} (hb : Below w.heap.size w W) : FD w k v h ⟨none, false⟩ W := ⟨hb, fun b e => by cases e⟩
theorem FD.read {w : World} {k v h : Nat} {s : FS} {W W' : World} (hd : FD w k v h s W) (hb : Below W.heap.size W W') : FD w k v h s W' :=
  ⟨under.below_step hd.bel hb, fun b e => by obtain ⟨h1, x, y, z, h2, h3⟩ := hd.box b e; exact ⟨h1, x, y, z, h2.keep hb, h3⟩⟩
theorem FD.put {w : World} {k v h : Nat} {s : FS} {W : World} (hd : FD w k v h s W) : FD w k v h ⟨some W.heap.size, false⟩ (W.alloc (.cells #[.int .u64 0, .int .u64 0, .int .u64 0] 60)) :=
  ⟨under.below_step hd.bel (new_block W _), fun b e => by cases e; exact ⟨hd.bel.size, 0, 0, 0, EBox.new 0 0 0 W, fun e => by cases e⟩⟩
theorem FD.set {w : World} {k v h b : Nat} {s : Bool} {W : World} (hd : FD w k v h ⟨some b, s⟩ W) : FD w k v h ⟨some b, true⟩ (set3 b k v h W) := by
  obtain ⟨h1, x, y, z, h2, h3⟩ := hd.box b rfl
  refine ⟨?_, fun b' e => by cases e; exact ⟨h1, k, v, h, h2.set _ _ _, fun _ => ⟨rfl, rfl, rfl⟩⟩⟩
  exact bset (bset (bset hd.bel b 0 h1 _) b 1 h1 _) b 2 h1 _
/-- the marked operations: number ia makes the box, number ib stores, the others yield what f tells -/
def FM (f : Nat → Value) (ia ib k : Nat) (s : FS) (v : Value) (s' : FS) : Prop :=
  if k = ia then ∃ b, v = .pointer (some ⟨b, 0, none⟩) ∧ s' = ⟨some b, false⟩ else if k = ib then v = undef ∧ s' = ⟨s.al, true⟩ else v = f k ∧ s' = s
theorem FM.some (f : Nat → Value) (ia ib k : Nat) (s : FS) : ∃ v s', FM f ia ib k s v s' := by
  unfold FM
  split
  · exact ⟨_, _, 0, rfl, rfl⟩
  · split
    · exact ⟨_, _, rfl, rfl⟩
    · exact ⟨_, _, rfl, rfl⟩
theorem FM.free (f : Nat → Value) (ia ib i : Nat) (h1 : i ≠ ia) (h2 : i ≠ ib) (s : FS) (u : Value) (sj : FS) (v : Value) (s2 : FS) (ha : FM f ia ib ia s u sj) (hb : FM f ia ib i sj v s2) : ∃ s', FM f ia ib i s v s' ∧ FM f ia ib ia s' u s2 := by
  unfold FM at *
  rw [if_pos rfl] at ha
  rw [if_neg h1, if_neg h2] at hb
  obtain ⟨b, rfl, rfl⟩ := ha
  obtain ⟨rfl, rfl⟩ := hb
  refine ⟨s, ?_, ?_⟩
  · rw [if_neg h1, if_neg h2]; exact ⟨rfl, rfl⟩
  · rw [if_pos rfl]; exact ⟨b, rfl, rfl⟩
end Go.Proofs.YtibcokiijlamcaaGreatDoor.evac
