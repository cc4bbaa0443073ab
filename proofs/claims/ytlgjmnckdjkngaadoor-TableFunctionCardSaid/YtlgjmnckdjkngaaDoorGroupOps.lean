/- group: what is done to a group, at every number: what it holds behind it, the error's number; the methods' contracts so. -/
import Derived.Test.YtlgjmnckdjkngaaDoorGroupAlive
namespace Go.Proofs.YtlgjmnckdjkngaaDoor.group
open Go.ChangeShapes Go.WideShapes Go.ChangeAt Go.RowKit swar trap under meter tail
set_option linter.unusedSimpArgs false
set_option linter.unusedVariables false

/-- is there a slot of the number -/
def inR (i : Int) : Bool := decide (0 ≤ i) && decide (i < 8)
def fullAt (g : Gp) (i : Int) : Bool := inR i && is 3 g i.toNat
def atS (g : Gp) (i : Int) : Sl := if inR i = true then g i.toNat else .empty
def putE (g : Gp) (i : Int) : Nat := if inR i = true then (if is 3 g i.toNat = true then 5 else 0) else 1
def putB (g : Gp) (i : Int) : Bool := inR i && is 2 g i.toNat
def putG (g : Gp) (i : Int) (s : Sl) : Gp := if putE g i = 0 then g.put i.toNat s else g
def valE (g : Gp) (i : Int) : Nat := if inR i = true then (if is 3 g i.toNat = true then 0 else 5) else 1
def valG (g : Gp) (i : Int) (v : Nat) : Gp := if fullAt g i = true then g.put i.toNat { g i.toNat with val := v } else g
def eraB (g : Gp) (i : Int) : Bool := fullAt g i && !opens g
def eraG (g : Gp) (i : Int) : Gp := if fullAt g i = true then g.put i.toNat (erased g) else g
theorem putE_le (g : Gp) (i : Int) : putE g i ≤ 16 := by unfold putE; split; split <;> omega; omega
theorem valE_le (g : Gp) (i : Int) : valE g i ≤ 16 := by unfold valE; split; split <;> omega; omega
theorem inR_cases (i : Int) : (inR i = false ∧ (i < 0 ∨ 8 ≤ i)) ∨ (inR i = true ∧ ∃ k : Nat, k < 8 ∧ i = k) := by
  by_cases h0 : 0 ≤ i
  · by_cases h8 : i < 8
    · exact .inr ⟨by simp [inR, h0, h8], i.toNat, by omega, by omega⟩
    · exact .inl ⟨by simp [inR, h8], .inr (by omega)⟩
  · exact .inl ⟨by simp [inR, h0], .inl (by omega)⟩
theorem inR_nat {k : Nat} (h : k < 8) : inR (k : Int) = true := by simp [inR]; omega
theorem toNat_nat (k : Nat) : ((k : Int)).toNat = k := by omega
theorem fullAt_nat (g : Gp) {k : Nat} (h : k < 8) : fullAt g (k : Int) = is 3 g k := by simp [fullAt, inR_nat h]
theorem is_excl {g : Gp} {k : Nat} (h : is 3 g k = true) : is 2 g k = false := by
  unfold is at h ⊢; have := of_decide_eq_true h; simp [this]
theorem is_excl1 {g : Gp} {k : Nat} (h : is 3 g k = true) : is 1 g k = false := by
  unfold is at h ⊢; have := of_decide_eq_true h; simp [this]
/-- the two errors of the slots, in their variables -/
structure Errs2 (a : String → Addr) (w : World) : Prop where
  range : w.cell? ⟨0, 0, none⟩ = some (errs.errV (a "ambler/api.ErrRange"))
  state : w.cell? ⟨4, 0, none⟩ = some (errs.errV (a "ambler/api.ErrState"))
theorem Errs2.below {a : String → Addr} {w W : World} (h : Errs2 a w) (hb : Below w.heap.size w W) : Errs2 a W :=
  ⟨(hb.cell (World.block_lt_of_cell? w _ h.range)).trans h.range, (hb.cell (World.block_lt_of_cell? w _ h.state)).trans h.state⟩
theorem at_any (a : String → Addr) (B o : Nat) (g : Gp) (i : Int) (hg : g.Ok) (w : World) (h : GAt B o g w) (hE : Errs2 a w) :
    Calls Tryd.prog 53 #[.agg #[.pointer (some ⟨B, o, none⟩)], .int .i64 i] w fun e w' => e = .returned (.tuple #[entV (atS g i).key (atS g i).val (atS g i).hash, .bool (fullAt g i)]) ∧ Below w.heap.size w w' := by
  rcases inR_cases i with ⟨hr, hi⟩ | ⟨hr, k, hk, rfl⟩
  · have c := at_off B o i hi w _ hE.range
    simpa [atS, fullAt, hr, Sl.empty] using c
  · have c := at_is B o g k hk hg w h _ hE.state
    simpa [atS, fullAt, hr] using c
theorem put_any (a : String → Addr) (B o : Nat) (g : Gp) (i : Int) (k v h : Nat) (hh : h < 18446744073709551616) (hg : g.Ok) (w : World) (ha : GAt B o g w) (hE : Errs2 a w) :
    Calls Tryd.prog 75 #[.agg #[.pointer (some ⟨B, o, none⟩)], .int .i64 i, entV k v h] w fun e w' => e = .returned (.tuple #[.bool (putB g i), errAt a (putE g i)]) ∧ GStep B o (putG g i ⟨3, k, v, h⟩) w w' := by
  rcases inR_cases i with ⟨hr, hi⟩ | ⟨hr, j, hj, rfl⟩
  · refine (put_off B o i k v h hi w _ hE.range).mono fun e w' ⟨he, hb⟩ => ?_
    have e1 : putE g i = 1 := by simp [putE, hr]
    have e2 : putB g i = false := by simp [putB, hr]
    have e3 : putG g i ⟨3, k, v, h⟩ = g := by simp [putG, e1]
    rw [e1, e2, e3]
    exact ⟨he, .of ha hb⟩
  · cases hf : is 3 g j
    · refine (put_free B o g j k v h hh hj hg hf w ha _ hE.state).mono fun e w' ⟨he, hb⟩ => ?_
      have e1 : putE g (j : Int) = 0 := by simp [putE, hr, hf]
      have e2 : putB g (j : Int) = is 2 g j := by simp [putB, hr]
      have e3 : putG g (j : Int) ⟨3, k, v, h⟩ = g.put j ⟨3, k, v, h⟩ := by simp [putG, e1]
      rw [e1, e2, e3]
      exact ⟨he, hb⟩
    · refine (put_full B o g j k v h hj hg hf w ha _ hE.state).mono fun e w' ⟨he, hb⟩ => ?_
      have e1 : putE g (j : Int) = 5 := by simp [putE, hr, hf]
      have e2 : putB g (j : Int) = false := by simp [putB, hr, is_excl hf]
      have e3 : putG g (j : Int) ⟨3, k, v, h⟩ = g := by simp [putG, e1]
      rw [e1, e2, e3]
      exact ⟨he, .of ha hb⟩
theorem val_any (a : String → Addr) (B o : Nat) (g : Gp) (i : Int) (v : Nat) (hg : g.Ok) (w : World) (ha : GAt B o g w) (hE : Errs2 a w) :
    Calls Tryd.prog 55 #[.agg #[.pointer (some ⟨B, o, none⟩)], .int .i64 i, .int .u64 v] w fun e w' => e = .returned (errAt a (valE g i)) ∧ GStep B o (valG g i v) w w' := by
  rcases inR_cases i with ⟨hr, hi⟩ | ⟨hr, j, hj, rfl⟩
  · refine (val_off B o i v hi w _ hE.range).mono fun e w' ⟨he, hb⟩ => ?_
    have e1 : valE g i = 1 := by simp [valE, hr]
    have e3 : valG g i v = g := by simp [valG, fullAt, hr]
    rw [e1, e3]
    exact ⟨he, .of ha hb⟩
  · cases hf : is 3 g j
    · refine (val_free B o g j v hj hg hf w ha _ hE.state).mono fun e w' ⟨he, hb⟩ => ?_
      have e1 : valE g (j : Int) = 5 := by simp [valE, hr, hf]
      have e3 : valG g (j : Int) v = g := by simp [valG, fullAt, hr, hf]
      rw [e1, e3]
      exact ⟨he, .of ha hb⟩
    · refine (val_full B o g j v hj hg hf w ha _ hE.state).mono fun e w' ⟨he, hb⟩ => ?_
      have e1 : valE g (j : Int) = 0 := by simp [valE, hr, hf]
      have e3 : valG g (j : Int) v = g.put j { g j with val := v } := by simp [valG, fullAt, hr, hf]
      rw [e1, e3]
      exact ⟨he, hb⟩
theorem erase_any (a : String → Addr) (B o : Nat) (g : Gp) (i : Int) (hg : g.Ok) (w : World) (ha : GAt B o g w) (hE : Errs2 a w) :
    Calls Tryd.prog 76 #[.agg #[.pointer (some ⟨B, o, none⟩)], .int .i64 i] w fun e w' => e = .returned (.tuple #[.bool (eraB g i), errAt a (valE g i)]) ∧ GStep B o (eraG g i) w w' := by
  rcases inR_cases i with ⟨hr, hi⟩ | ⟨hr, j, hj, rfl⟩
  · refine (erase_off B o i hi w _ hE.range).mono fun e w' ⟨he, hb⟩ => ?_
    have e1 : valE g i = 1 := by simp [valE, hr]
    have e2 : eraB g i = false := by simp [eraB, fullAt, hr]
    have e3 : eraG g i = g := by simp [eraG, fullAt, hr]
    rw [e1, e2, e3]
    exact ⟨he, .of ha hb⟩
  · cases hf : is 3 g j
    · refine (erase_free B o g j hj hg hf w ha _ hE.state).mono fun e w' ⟨he, hb⟩ => ?_
      have e1 : valE g (j : Int) = 5 := by simp [valE, hr, hf]
      have e2 : eraB g (j : Int) = false := by simp [eraB, fullAt, hr, hf]
      have e3 : eraG g (j : Int) = g := by simp [eraG, fullAt, hr, hf]
      rw [e1, e2, e3]
      exact ⟨he, .of ha hb⟩
    · refine (erase_full B o g j hj hg hf w ha _ hE.state).mono fun e w' ⟨he, hb⟩ => ?_
      have e1 : valE g (j : Int) = 0 := by simp [valE, hr, hf]
      have e2 : eraB g (j : Int) = !opens g := by simp [eraB, fullAt, hr, hf]
      have e3 : eraG g (j : Int) = g.put j (erased g) := by simp [eraG, fullAt, hr, hf]
      rw [e1, e2, e3]
      exact ⟨he, hb⟩
theorem atS_ok {g : Gp} (h : g.Ok) (i : Int) : (atS g i).Ok := by unfold atS; split; exact h _; exact .of_empty
/-! ### they keep a group right -/
theorem Gp.Ok.putG {g : Gp} (h : g.Ok) (i : Int) {k v n : Nat} (hk : k < 18446744073709551616) (hv : v < 18446744073709551616) (hn : n < 18446744073709551616) : (putG g i ⟨3, k, v, n⟩).Ok := by
  unfold group.putG; split; exact h.put _ (.of_full hk hv hn); exact h
theorem Gp.Ok.valG {g : Gp} (h : g.Ok) (i : Int) {v : Nat} (hv : v < 18446744073709551616) : (valG g i v).Ok := by
  unfold group.valG; split
  · next hf =>
    have h3 : (g i.toNat).kind = 3 := by
      unfold fullAt at hf; rw [Bool.and_eq_true] at hf; exact of_decide_eq_true hf.2
    exact h.put _ ⟨(h _).kind, (h _).key, hv, (h _).hash, fun e => absurd h3 e⟩
  · exact h
theorem Gp.Ok.eraG {g : Gp} (h : g.Ok) (i : Int) : (eraG g i).Ok := by
  unfold group.eraG; split; exact h.put _ (erased_ok g); exact h
/-! ### what the law says of them -/
theorem is_put (n : Nat) (g : Gp) (i k : Nat) (s : Sl) : is n (g.put i s) k = if k = i then decide (s.kind = n) else is n g k := by
  unfold is Gp.put; split <;> rfl
theorem cntB_put {p q : Nat → Bool} {i : Nat} (hi : i < 8) (h : ∀ k, k ≠ i → q k = p k) : cntB q + (p i).toNat = cntB p + (q i).toNat := by
  unfold cntB
  rcases lane8 hi with rfl | rfl | rfl | rfl | rfl | rfl | rfl | rfl
  · rw [h 1 (by decide), h 2 (by decide), h 3 (by decide), h 4 (by decide), h 5 (by decide), h 6 (by decide), h 7 (by decide)]; omega
  · rw [h 0 (by decide), h 2 (by decide), h 3 (by decide), h 4 (by decide), h 5 (by decide), h 6 (by decide), h 7 (by decide)]; omega
  · rw [h 0 (by decide), h 1 (by decide), h 3 (by decide), h 4 (by decide), h 5 (by decide), h 6 (by decide), h 7 (by decide)]; omega
  · rw [h 0 (by decide), h 1 (by decide), h 2 (by decide), h 4 (by decide), h 5 (by decide), h 6 (by decide), h 7 (by decide)]; omega
  · rw [h 0 (by decide), h 1 (by decide), h 2 (by decide), h 3 (by decide), h 5 (by decide), h 6 (by decide), h 7 (by decide)]; omega
  · rw [h 0 (by decide), h 1 (by decide), h 2 (by decide), h 3 (by decide), h 4 (by decide), h 6 (by decide), h 7 (by decide)]; omega
  · rw [h 0 (by decide), h 1 (by decide), h 2 (by decide), h 3 (by decide), h 4 (by decide), h 5 (by decide), h 7 (by decide)]; omega
  · rw [h 0 (by decide), h 1 (by decide), h 2 (by decide), h 3 (by decide), h 4 (by decide), h 5 (by decide), h 6 (by decide)]; omega
theorem count_put (n : Nat) (g : Gp) {i : Nat} (hi : i < 8) (s : Sl) : count n (g.put i s) + (is n g i).toNat = count n g + (decide (s.kind = n)).toNat := by
  have h := cntB_put (p := is n g) (q := is n (g.put i s)) hi (fun k hk => by rw [is_put, if_neg hk])
  rw [is_put, if_pos rfl] at h
  exact h
theorem putE_zero {g : Gp} {i : Int} (h : putE g i = 0) : ∃ k : Nat, k < 8 ∧ i = k ∧ is 3 g k = false := by
  rcases inR_cases i with ⟨hr, _⟩ | ⟨hr, k, hk, rfl⟩
  · simp [putE, hr] at h
  · refine ⟨k, hk, rfl, ?_⟩
    cases hf : is 3 g k
    · rfl
    · simp [putE, hr, hf] at h
theorem fullAt_true {g : Gp} {i : Int} (h : fullAt g i = true) : ∃ k : Nat, k < 8 ∧ i = k ∧ is 3 g k = true := by
  rcases inR_cases i with ⟨hr, _⟩ | ⟨hr, k, hk, rfl⟩
  · simp [fullAt, hr] at h
  · exact ⟨k, hk, rfl, by simpa [fullAt, hr] using h⟩
theorem valE_zero (g : Gp) (i : Int) : valE g i = 0 ↔ fullAt g i = true := by
  unfold valE fullAt; cases inR i <;> cases is 3 g i.toNat <;> simp
theorem valE_pos {g : Gp} {i : Int} (h : fullAt g i = false) : ∃ pe, valE g i = pe + 1 := by
  refine ⟨valE g i - 1, ?_⟩
  have h2 : ¬ valE g i = 0 := fun e => by rw [(valE_zero g i).1 e] at h; cases h
  omega
theorem hit_put_ne (key h : Nat) (g : Gp) {i k : Nat} (s : Sl) (hk : k ≠ i) : hit key h (g.put i s) k = hit key h g k := by unfold hit isH; rw [put_ne g s hk]
theorem put_found {g : Gp} {i : Int} {key v h : Nat} (hf : find key h g < 0) (hp : putE g i = 0) : find key h (putG g i ⟨3, key, v, h⟩) = i ∧ count 3 (putG g i ⟨3, key, v, h⟩) = count 3 g + 1 := by
  obtain ⟨k, hk, rfl, h3⟩ := putE_zero hp
  have e : putG g (k : Int) ⟨3, key, v, h⟩ = g.put k ⟨3, key, v, h⟩ := by simp [putG, hp]
  rw [e]
  constructor
  · rcases scan_is (hit key h g) with ⟨_, hn⟩ | ⟨j, hj, hs, _⟩
    · refine scan_at hk (fun m hm => ?_) ?_
      · rw [hit_put_ne key h g _ (by omega)]; exact hn m (by omega)
      · unfold hit isH; rw [put_same]; simp
    · unfold find at hf; rw [hs] at hf; omega
  · have c := count_put 3 g hk ⟨3, key, v, h⟩
    rw [h3] at c
    simpa using c
theorem val_said (g : Gp) (i : Int) (v : Nat) : (fullAt (valG g i v) i = true → (atS (valG g i v) i).val = v) ∧ count 3 (valG g i v) = count 3 g := by
  cases hf : fullAt g i
  · have e : valG g i v = g := by simp [valG, hf]
    rw [e, hf]
    exact ⟨fun h => (by cases h), rfl⟩
  · obtain ⟨k, hk, rfl, h3⟩ := fullAt_true hf
    have e : valG g (k : Int) v = g.put k { g k with val := v } := by simp [valG, hf]
    rw [e]
    refine ⟨fun _ => by simp [atS, inR_nat hk, put_same], ?_⟩
    have c := count_put 3 g hk { g k with val := v }
    rw [show decide (({ g k with val := v } : Sl).kind = 3) = is 3 g k from rfl] at c
    omega
theorem erase_said {g : Gp} {i : Int} (hf : fullAt g i = true) : find (atS g i).key (atS g i).hash (eraG g i) ≠ i ∧ eraB g i = !opens g ∧ count 3 (eraG g i) + 1 = count 3 g := by
  obtain ⟨k, hk, rfl, h3⟩ := fullAt_true hf
  have e : eraG g (k : Int) = g.put k (erased g) := by simp [eraG, hf]
  have en : (erased g).kind ≠ 3 := by unfold erased; split <;> decide
  rw [e]
  refine ⟨fun hx => ?_, by simp [eraB, hf], ?_⟩
  · rcases scan_is (hit (atS g (k : Int)).key (atS g (k : Int)).hash (g.put k (erased g))) with ⟨hs, _⟩ | ⟨j, hj, hs, hh, _⟩
    · unfold find at hx; rw [hs] at hx; omega
    · unfold find at hx
      rw [hs] at hx
      obtain rfl : j = k := by omega
      unfold hit isH at hh
      rw [put_same] at hh
      simp [en] at hh
  · have c := count_put 3 g hk (erased g)
    rw [h3, decide_eq_false en] at c
    simpa using c
theorem opens_put {g : Gp} {k : Nat} {s : Sl} (h : opens g = false) (hs : s.kind ≠ 1) : opens (g.put k s) = false := by
  cases ho : opens (g.put k s)
  · rfl
  · obtain ⟨j, hj, h1⟩ := (opens_iff _).1 ho
    by_cases e : j = k
    · subst e; rw [put_same] at h1; exact absurd h1 hs
    · rw [put_ne g s e] at h1
      rw [(opens_iff g).2 ⟨j, hj, h1⟩] at h; cases h
theorem opens_putG {g : Gp} {i : Int} {k v n : Nat} (h : opens g = false) : opens (putG g i ⟨3, k, v, n⟩) = false := by
  unfold putG; split; exact opens_put h (by show 3 ≠ 1; decide); exact h
theorem opens_valG {g : Gp} {i : Int} {v : Nat} (h : opens g = false) : opens (valG g i v) = false := by
  cases hf : fullAt g i
  · rw [show valG g i v = g by simp [valG, hf]]; exact h
  · obtain ⟨k, hk, rfl, h3⟩ := fullAt_true hf
    rw [show valG g (k : Int) v = g.put k { g k with val := v } by simp [valG, hf]]
    have h3' : (g k).kind = 3 := of_decide_eq_true h3
    exact opens_put h (by show (g k).kind ≠ 1; omega)
theorem opens_eraG {g : Gp} {i : Int} (h : opens g = false) : opens (eraG g i) = false := by
  unfold eraG; split
  · exact opens_put h (by unfold erased; rw [h]; decide)
  · exact h
end Go.Proofs.YtlgjmnckdjkngaaDoor.group
