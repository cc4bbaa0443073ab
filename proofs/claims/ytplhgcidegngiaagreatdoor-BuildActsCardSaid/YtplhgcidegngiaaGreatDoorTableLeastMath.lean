/- table: the first entry that doesn't come ahead of a hash and key. No function is walked here. -/
import Derived.Test.YtplhgcidegngiaaGreatDoorTablePart
import Derived.Test.YtplhgcidegngiaaGreatDoorLess
namespace Go.Proofs.YtplhgcidegngiaaGreatDoor.table
open group probe swar split
set_option linter.unusedSimpArgs false
set_option linter.unusedVariables false

/-- the entries of a group; of the first k groups -/
def entsG (g : Gp) : List Sl := (fulls g).map g
def ents (t : Tb) (k : Nat) : List Sl := (List.range k).flatMap fun i => entsG (t.gs i)
theorem ents_succ (t : Tb) (k : Nat) : ents t (k + 1) = ents t k ++ entsG (t.gs k) := by simp [ents, List.range_succ]
/-- one more entry -/
def lstep (h k : Nat) (s : Option Sl) (e : Sl) : Option Sl :=
  if lessB e.key e.hash k h = true then s else match s with
    | none => some e
    | some l => if lessB e.key e.hash l.key l.hash = true then some e else some l
def lfold (h k : Nat) (s : Option Sl) (l : List Sl) : Option Sl := l.foldl (lstep h k) s
theorem lfold_append (h k : Nat) (s : Option Sl) (l m : List Sl) : lfold h k s (l ++ m) = lfold h k (lfold h k s l) m := List.foldl_append ..
theorem lfold_snoc (h k : Nat) (s : Option Sl) (l : List Sl) (e : Sl) : lfold h k s (l ++ [e]) = lstep h k (lfold h k s l) e := by rw [lfold_append]; rfl
def leastE (t : Tb) (h k : Nat) : Option Sl := lfold h k none (ents t t.n)
/-- what it is -/
def Good (h k : Nat) (P : List Sl) (s : Option Sl) : Prop := (s = none ∧ ∀ e ∈ P, lessB e.key e.hash k h = true) ∨
    ∃ m, s = some m ∧ m ∈ P ∧ lessB m.key m.hash k h = false ∧ ∀ e ∈ P, lessB e.key e.hash k h = false → lessB e.key e.hash m.key m.hash = false
theorem Good.step {h k : Nat} {P : List Sl} {s : Option Sl} (g : Good h k P s) (e : Sl) : Good h k (P ++ [e]) (lstep h k s e) := by
  cases hl : lessB e.key e.hash k h
  · rcases g with ⟨rfl, h2⟩ | ⟨m, rfl, h2, h3, h4⟩
    · refine .inr ⟨e, ?_, by simp, hl, fun x hx hxl => ?_⟩
      · unfold lstep; rw [hl]; rfl
      · rcases List.mem_append.1 hx with hx | hx
        · rw [h2 x hx] at hxl; cases hxl
        · obtain rfl : x = e := by simpa using hx
          exact lessB_same _ _
    · cases hm : lessB e.key e.hash m.key m.hash
      · refine .inr ⟨m, ?_, by simp [h2], h3, fun x hx hxl => ?_⟩
        · unfold lstep; rw [hl]; simp [hm]
        · rcases List.mem_append.1 hx with hx | hx
          · exact h4 x hx hxl
          · obtain rfl : x = e := by simpa using hx
            exact hm
      · refine .inr ⟨e, ?_, by simp, hl, fun x hx hxl => ?_⟩
        · unfold lstep; rw [hl]; simp [hm]
        · rcases List.mem_append.1 hx with hx | hx
          · have := h4 x hx hxl
            cases hxe : lessB x.key x.hash e.key e.hash
            · rfl
            · rw [lessB_iff] at hxe hm
              rw [Bool.eq_false_iff, Ne, lessB_iff] at this
              omega
          · obtain rfl : x = e := by simpa using hx
            exact lessB_same _ _
  · have e1 : lstep h k s e = s := by unfold lstep; rw [hl]; rfl
    rw [e1]
    rcases g with ⟨h1, h2⟩ | ⟨m, h1, h2, h3, h4⟩
    · refine .inl ⟨h1, fun x hx => ?_⟩
      rcases List.mem_append.1 hx with hx | hx
      · exact h2 x hx
      · obtain rfl : x = e := by simpa using hx
        exact hl
    · refine .inr ⟨m, h1, by simp [h2], h3, fun x hx hxl => ?_⟩
      rcases List.mem_append.1 hx with hx | hx
      · exact h4 x hx hxl
      · obtain rfl : x = e := by simpa using hx
        rw [hl] at hxl; cases hxl
theorem Good.fold {h k : Nat} : ∀ {l P : List Sl} {s : Option Sl}, Good h k P s → Good h k (P ++ l) (lfold h k s l)
  | [], P, s, g => by rw [List.append_nil]; exact g
  | e :: l, P, s, g => by
    have := (g.step e).fold (l := l)
    rw [List.append_assoc] at this
    exact this
theorem leastE_is (t : Tb) (h k : Nat) : Good h k (ents t t.n) (leastE t h k) := by
  have := Good.fold (h := h) (k := k) (l := ents t t.n) (P := []) (s := none) (.inl ⟨rfl, fun e he => by cases he⟩)
  exact this
/-- the entries are what stands -/
theorem mem_ents {t : Tb} {e : Sl} : e ∈ ents t t.n ↔ ∃ i k, i < t.n ∧ k < 8 ∧ (t.gs i k).kind = 3 ∧ t.gs i k = e := by
  unfold ents entsG
  simp only [List.mem_flatMap, List.mem_range, List.mem_map]
  constructor
  · rintro ⟨i, hi, k, hk, rfl⟩
    exact ⟨i, k, hi, fulls_lt hk, fulls_kind hk, rfl⟩
  · rintro ⟨i, k, hi, hk, h3, rfl⟩
    refine ⟨i, hi, k, ?_, rfl⟩
    unfold fulls
    rw [List.mem_filter]
    refine ⟨?_, is_of h3⟩
    simp; omega
end Go.Proofs.YtplhgcidegngiaaGreatDoor.table
