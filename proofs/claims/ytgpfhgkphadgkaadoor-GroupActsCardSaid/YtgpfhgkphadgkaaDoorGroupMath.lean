/- group: what a group holds, slot by slot; its control word; the masks and lists of its slots. No program is named. -/
import Derived.Test.YtgpfhgkphadgkaaDoorSwarMath2
import Derived.Test.YtgpfhgkphadgkaaDoorSwarMath3
import Derived.Test.YtgpfhgkphadgkaaDoorCtrlMath
namespace Go.Proofs.YtgpfhgkphadgkaaDoor.group
open swar
set_option linter.unusedVariables false

/-- a slot: empty (1), deleted (2), full (3); its entry -/
structure Sl where
  kind : Nat
  key : Nat
  val : Nat
  hash : Nat
def Sl.empty : Sl := ⟨1, 0, 0, 0⟩
def Sl.gone : Sl := ⟨2, 0, 0, 0⟩
structure Sl.Ok (s : Sl) : Prop where
  kind : s.kind = 1 ∨ s.kind = 2 ∨ s.kind = 3
  key : s.key < 18446744073709551616
  val : s.val < 18446744073709551616
  hash : s.hash < 18446744073709551616
  zero : s.kind ≠ 3 → s.key = 0 ∧ s.val = 0 ∧ s.hash = 0
theorem Sl.Ok.of_empty : Sl.empty.Ok := ⟨.inl rfl, by decide, by decide, by decide, fun _ => ⟨rfl, rfl, rfl⟩⟩
theorem Sl.Ok.of_gone : Sl.gone.Ok := ⟨.inr (.inl rfl), by decide, by decide, by decide, fun _ => ⟨rfl, rfl, rfl⟩⟩
theorem Sl.Ok.of_full {k v h : Nat} (hk : k < 18446744073709551616) (hv : v < 18446744073709551616) (hh : h < 18446744073709551616) : (Sl.mk 3 k v h).Ok := ⟨.inr (.inr rfl), hk, hv, hh, fun e => absurd rfl e⟩
/-- a slot's control byte -/
def byt (s : Sl) : Nat := if s.kind = 3 then s.hash % 128 else if s.kind = 2 then 254 else 128
theorem byt_lt (s : Sl) : byt s < 256 := by unfold byt; split; omega; split <;> omega
theorem byt_ok (s : Sl) : okB (byt s) = true := by
  unfold byt okB; split
  · have : s.hash % 128 < 128 := by omega
    simp [this]
  · split <;> decide
theorem byt_3 {s : Sl} (h : s.Ok) : byt s < 128 ↔ s.kind = 3 := by unfold byt; split; omega; split <;> omega
theorem byt_1 {s : Sl} (h : s.Ok) : byt s = 128 ↔ s.kind = 1 := by have := h.kind; unfold byt; split; omega; split <;> omega
theorem byt_2 {s : Sl} (h : s.Ok) : byt s = 254 ↔ s.kind = 2 := by have := h.kind; unfold byt; split; omega; split <;> omega
/-- a group: eight slots -/
abbrev Gp := Nat → Sl
def Gp.new : Gp := fun _ => .empty
def Gp.put (g : Gp) (i : Nat) (s : Sl) : Gp := fun j => if j = i then s else g j
def Gp.Ok (g : Gp) : Prop := ∀ i, (g i).Ok
theorem Gp.Ok.new : Gp.new.Ok := fun _ => .of_empty
theorem Gp.Ok.put {g : Gp} (h : g.Ok) (i : Nat) {s : Sl} (hs : s.Ok) : (g.put i s).Ok := fun j => by unfold Gp.put; split; exact hs; exact h j
theorem put_same (g : Gp) (i : Nat) (s : Sl) : g.put i s i = s := if_pos rfl
theorem put_ne (g : Gp) {i j : Nat} (s : Sl) (h : j ≠ i) : g.put i s j = g j := if_neg h
def word (g : Gp) : Nat := pk8 (byt (g 0)) (byt (g 1)) (byt (g 2)) (byt (g 3)) (byt (g 4)) (byt (g 5)) (byt (g 6)) (byt (g 7))
theorem word_lt (g : Gp) : word g < 18446744073709551616 := pk8_lt (byt_lt _) (byt_lt _) (byt_lt _) (byt_lt _) (byt_lt _) (byt_lt _) (byt_lt _) (byt_lt _)
theorem lane8 {k : Nat} (h : k < 8) : k = 0 ∨ k = 1 ∨ k = 2 ∨ k = 3 ∨ k = 4 ∨ k = 5 ∨ k = 6 ∨ k = 7 := by omega
theorem ln_word (g : Gp) {k : Nat} (hk : k < 8) : ln (word g) k = byt (g k) := by
  obtain ⟨e0, e1, e2, e3, e4, e5, e6, e7⟩ := ln_pk8 (byt_lt (g 0)) (byt_lt (g 1)) (byt_lt (g 2)) (byt_lt (g 3)) (byt_lt (g 4)) (byt_lt (g 5)) (byt_lt (g 6)) (byt_lt (g 7))
  rcases lane8 hk with rfl | rfl | rfl | rfl | rfl | rfl | rfl | rfl <;> assumption
theorem word_new : word .new = 9259542123273814144 := by decide
theorem byt_if (p : Prop) [Decidable p] (s t : Sl) : byt (if p then s else t) = if p then byt s else byt t := by split <;> rfl
theorem word_put (g : Gp) {k : Nat} (hk : k < 8) (s : Sl) : withL (word g) k (byt s) = word (g.put k s) := by
  rw [withL_def, ln_word g (by decide), ln_word g (by decide), ln_word g (by decide), ln_word g (by decide), ln_word g (by decide), ln_word g (by decide), ln_word g (by decide), ln_word g (by decide)]
  unfold word Gp.put
  simp only [byt_if]
  congr 1 <;> (congr 1; simp only [eq_comm])
/-! ### masks -/
def is (n : Nat) (g : Gp) (k : Nat) : Bool := decide ((g k).kind = n)
/-- a full slot with the hash's lower part -/
def isH (h : Nat) (g : Gp) (k : Nat) : Bool := decide ((g k).kind = 3) && decide ((g k).hash % 128 = h % 128)
theorem m_empties {g : Gp} (hg : g.Ok) : eqM (word g) 128 = mkM (is 1 g) := by
  rw [eqM_mk]; refine mkM_congr fun k hk => ?_
  rw [ln_word g hk]; unfold is; rw [decide_eq_decide]; exact byt_1 (hg k)
theorem m_deleteds {g : Gp} (hg : g.Ok) : eqM (word g) 254 = mkM (is 2 g) := by
  rw [eqM_mk]; refine mkM_congr fun k hk => ?_
  rw [ln_word g hk]; unfold is; rw [decide_eq_decide]; exact byt_2 (hg k)
theorem m_frees {g : Gp} (hg : g.Ok) : hiM (word g) = mkM fun k => !is 3 g k := by
  rw [hiM_mk]; refine mkM_congr fun k hk => ?_
  have h := byt_3 (hg k)
  rw [ln_word g hk]; unfold is
  by_cases h3 : (g k).kind = 3
  · simp [h3]; omega
  · simp [h3]; omega
theorem m_fulls {g : Gp} (hg : g.Ok) : hiM (18446744073709551615 - word g) = mkM (is 3 g) := by
  rw [hi_not _ (word_lt g)]; refine mkM_congr fun k hk => ?_
  rw [ln_word g hk]; unfold is; rw [decide_eq_decide]; exact byt_3 (hg k)
theorem m_match (g : Gp) (h : Nat) : eqM (word g) (h % 128) = mkM (isH h g) := by
  rw [eqM_mk]; refine mkM_congr fun k hk => ?_
  rw [ln_word g hk]; unfold isH byt
  by_cases h3 : (g k).kind = 3
  · simp [h3]
  · by_cases h2 : (g k).kind = 2
    · simp [h2]; omega
    · simp [h2, h3]; omega
/-! ### lists of slots -/
abbrev l8 : List Nat := [0, 1, 2, 3, 4, 5, 6, 7]
def headI : List Nat → Int
  | [] => -1
  | k :: _ => k
/-- the least slot that is so; -1: there is none -/
def scan (p : Nat → Bool) : Int := headI (l8.filter p)
theorem tl_mk (p : Nat → Bool) : tl (mkM p) = l8.filter p := by
  unfold tl
  refine List.filter_congr fun k hk => ?_
  have hk8 : k < 8 := by simp at hk; omega
  rw [ln_mk p k hk8]; cases p k <;> decide
theorem first_mk (p : Nat → Bool) : firstI (mkM p) = scan p := by
  unfold firstI scan
  rw [ln_mk p 0 (by decide), ln_mk p 1 (by decide), ln_mk p 2 (by decide), ln_mk p 3 (by decide), ln_mk p 4 (by decide), ln_mk p 5 (by decide), ln_mk p 6 (by decide), ln_mk p 7 (by decide)]
  have e : ∀ b : Bool, (128 ≤ (if b = true then 128 else 0)) ↔ b = true := by intro b; cases b <;> simp
  simp only [e, headI, List.filter]
  cases p 0
  · cases p 1
    · cases p 2
      · cases p 3
        · cases p 4
          · cases p 5
            · cases p 6
              · cases p 7 <;> rfl
              · rfl
            · rfl
          · rfl
        · rfl
      · rfl
    · rfl
  · rfl
theorem scan_none {p : Nat → Bool} (h : ∀ k, k < 8 → p k = false) : scan p = -1 := by
  unfold scan
  rw [show l8.filter p = [] from List.filter_eq_nil_iff.2 fun k hk => by simp [h k (by simp at hk; omega)]]; rfl
/-- the least one, found from below -/
theorem scan_at {p : Nat → Bool} {i : Nat} (hi : i < 8) (h : ∀ k, k < i → p k = false) (hp : p i = true) : scan p = i := by
  unfold scan
  rcases lane8 hi with rfl | rfl | rfl | rfl | rfl | rfl | rfl | rfl
  · simp [hp, headI]
  · simp [h 0 (by decide), hp, headI]
  · simp [h 0 (by decide), h 1 (by decide), hp, headI]
  · simp [h 0 (by decide), h 1 (by decide), h 2 (by decide), hp, headI]
  · simp [h 0 (by decide), h 1 (by decide), h 2 (by decide), h 3 (by decide), hp, headI]
  · simp [h 0 (by decide), h 1 (by decide), h 2 (by decide), h 3 (by decide), h 4 (by decide), hp, headI]
  · simp [h 0 (by decide), h 1 (by decide), h 2 (by decide), h 3 (by decide), h 4 (by decide), h 5 (by decide), hp, headI]
  · simp [h 0 (by decide), h 1 (by decide), h 2 (by decide), h 3 (by decide), h 4 (by decide), h 5 (by decide), h 6 (by decide), hp, headI]
/-- where the least one lies -/
theorem scan_is (p : Nat → Bool) : (scan p = -1 ∧ ∀ k, k < 8 → p k = false) ∨ ∃ i, i < 8 ∧ scan p = (i : Nat) ∧ p i = true ∧ ∀ k, k < i → p k = false := by
  by_cases h : ∀ k, k < 8 → p k = false
  · exact .inl ⟨scan_none h, h⟩
  · have : ∃ i, i < 8 ∧ p i = true ∧ ∀ k, k < i → p k = false := by
      apply Classical.byContradiction
      intro hn
      apply h
      intro k
      induction k using Nat.strongRecOn with
      | _ k ih =>
        intro hk
        cases hp : p k
        · rfl
        · exact absurd ⟨k, hk, hp, fun j hj => ih j hj (by omega)⟩ hn
    obtain ⟨i, hi, hp, hb⟩ := this
    exact .inr ⟨i, hi, scan_at hi hb hp, hp, hb⟩
/-- the list's walk: what comes ahead of the first hit -/
theorem headI_hit {l : List Nat} {r : Nat → Bool} {pre : List Nat} {x : Nat} (h : pre ++ [x] <+: l) (hn : ∀ k ∈ pre, r k = false) (hx : r x = true) : headI (l.filter r) = x := by
  obtain ⟨t, rfl⟩ := h
  rw [List.filter_append, List.filter_append, show pre.filter r = [] from List.filter_eq_nil_iff.2 fun k hk => by simp [hn k hk]]
  simp [hx, headI]
theorem headI_none {l : List Nat} {r : Nat → Bool} (hn : ∀ k ∈ l, r k = false) : headI (l.filter r) = -1 := by
  rw [show l.filter r = [] from List.filter_eq_nil_iff.2 fun k hk => by simp [hn k hk]]; rfl
/-- Find's slot -/
def hit (key h : Nat) (g : Gp) (k : Nat) : Bool := isH h g k && decide ((g k).key = key)
def find (key h : Nat) (g : Gp) : Int := scan (hit key h g)
theorem find_list (key h : Nat) (g : Gp) : find key h g = headI ((l8.filter (isH h g)).filter fun k => decide ((g k).key = key)) := by
  unfold find scan hit
  rw [List.filter_filter]
  congr 1
  refine List.filter_congr fun k _ => ?_
  rw [Bool.and_comm]
def least (g : Gp) : Int := scan fun k => !is 3 g k
def count (n : Nat) (g : Gp) : Nat := cntB (is n g)
theorem cnt_is (n : Nat) (g : Gp) : cnt (mkM (is n g)) = count n g := cnt_mk _
theorem count_le (n : Nat) (g : Gp) : count n g ≤ 8 := by
  have b : ∀ x : Bool, x.toNat ≤ 1 := by intro x; cases x <;> decide
  unfold count cntB
  have := b (is n g 0); have := b (is n g 1); have := b (is n g 2); have := b (is n g 3); have := b (is n g 4); have := b (is n g 5); have := b (is n g 6); have := b (is n g 7)
  omega
/-- is a slot empty -/
def opens (g : Gp) : Bool := is 1 g 0 || is 1 g 1 || is 1 g 2 || is 1 g 3 || is 1 g 4 || is 1 g 5 || is 1 g 6 || is 1 g 7
theorem mk_zero (p : Nat → Bool) : mkM p = 0 ↔ (p 0 || p 1 || p 2 || p 3 || p 4 || p 5 || p 6 || p 7) = false := by
  unfold mkM pk8
  cases p 0 <;> cases p 1 <;> cases p 2 <;> cases p 3 <;> cases p 4 <;> cases p 5 <;> cases p 6 <;> cases p 7 <;> decide
theorem count_zero (n : Nat) (g : Gp) : count n g = 0 ↔ (is n g 0 || is n g 1 || is n g 2 || is n g 3 || is n g 4 || is n g 5 || is n g 6 || is n g 7) = false := by
  unfold count cntB
  cases is n g 0 <;> cases is n g 1 <;> cases is n g 2 <;> cases is n g 3 <;> cases is n g 4 <;> cases is n g 5 <;> cases is n g 6 <;> cases is n g 7 <;> decide
theorem opens_count (g : Gp) : opens g = decide (0 < count 1 g) := by
  have h := count_zero 1 g
  unfold opens
  generalize (is 1 g 0 || is 1 g 1 || is 1 g 2 || is 1 g 3 || is 1 g 4 || is 1 g 5 || is 1 g 6 || is 1 g 7) = b at h ⊢
  cases b
  · rw [h.2 rfl]; rfl
  · rw [eq_comm, decide_eq_true_eq]
    rcases Nat.eq_zero_or_pos (count 1 g) with e | e
    · exact absurd (h.1 e) (by decide)
    · exact e
theorem opens_iff (g : Gp) : opens g = true ↔ ∃ k, k < 8 ∧ (g k).kind = 1 := by
  unfold opens is
  simp only [Bool.or_eq_true, decide_eq_true_eq]
  constructor
  · rintro (((((((h | h) | h) | h) | h) | h) | h) | h)
    · exact ⟨0, by decide, h⟩
    · exact ⟨1, by decide, h⟩
    · exact ⟨2, by decide, h⟩
    · exact ⟨3, by decide, h⟩
    · exact ⟨4, by decide, h⟩
    · exact ⟨5, by decide, h⟩
    · exact ⟨6, by decide, h⟩
    · exact ⟨7, by decide, h⟩
  · rintro ⟨k, hk, h⟩
    rcases lane8 hk with rfl | rfl | rfl | rfl | rfl | rfl | rfl | rfl <;> simp [h]
/-- the full slots, rising -/
def fulls (g : Gp) : List Nat := l8.filter (is 3 g)
theorem fulls_lt {g : Gp} {k : Nat} (h : k ∈ fulls g) : k < 8 := by
  have := (List.mem_filter.1 h).1
  simp at this; omega
theorem fulls_kind {g : Gp} {k : Nat} (h : k ∈ fulls g) : (g k).kind = 3 := by
  have := (List.mem_filter.1 h).2
  exact of_decide_eq_true this
theorem fulls_length (g : Gp) : (fulls g).length ≤ 8 := by
  have h := List.length_filter_le (is 3 g) l8
  simpa [fulls] using h
/-! ### what is done to a group -/
/-- Erase's slot behind it -/
def erased (g : Gp) : Sl := if opens g = true then .empty else .gone
theorem erased_ok (g : Gp) : (erased g).Ok := by unfold erased; split; exact .of_empty; exact .of_gone
end Go.Proofs.YtgpfhgkphadgkaaDoor.group
