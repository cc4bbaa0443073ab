/- table: how many keys stand, and how many of them ahead of a hash and key. No function is walked here. -/
import Derived.Test.YtibcokiijlamcaaGreatDoorTabMath
import Derived.Test.YtibcokiijlamcaaGreatDoorTableNil
namespace Go.Proofs.YtibcokiijlamcaaGreatDoor.table
open group probe swar split
set_option linter.unusedSimpArgs false
set_option linter.unusedVariables false

def cntM (la : Nat) (M : Nat → Option Nat) : Nat := (List.range la).countP fun k => (M k).isSome
def cntL (la : Nat) (M : Nat → Option Nat) (H : Nat → Nat) (hh ky : Nat) : Nat := (List.range la).countP fun k => (M k).isSome && lessB k (H k) ky hh
theorem countP_same {p q : Nat → Bool} {n : Nat} (h : ∀ k, k < n → q k = p k) : (List.range n).countP q = (List.range n).countP p :=
  List.countP_congr fun k hk => by rw [h k (List.mem_range.1 hk)]
theorem countP_one {p q : Nat → Bool} {a : Nat} (hp : p a = false) (hq : q a = true) (hne : ∀ k, k ≠ a → q k = p k) : ∀ n, a < n → (List.range n).countP q = (List.range n).countP p + 1
  | 0, h => absurd h (Nat.not_lt_zero _)
  | n + 1, h => by
    rw [List.range_succ, List.countP_append, List.countP_append, List.countP_singleton, List.countP_singleton]
    by_cases e : a = n
    · subst e
      rw [hq, hp, countP_same fun k hk => hne k (by omega)]; simp
    · rw [countP_one hp hq hne n (by omega), hne n (Ne.symm e)]; omega
theorem cntM_le (la : Nat) (M : Nat → Option Nat) : cntM la M ≤ la := by
  have := List.countP_le_length (p := fun k => (M k).isSome) (l := List.range la)
  rwa [List.length_range] at this
theorem cntL_le (la : Nat) (M : Nat → Option Nat) (H : Nat → Nat) (hh ky : Nat) : cntL la M H hh ky ≤ la := by
  have := List.countP_le_length (p := fun k => (M k).isSome && lessB k (H k) ky hh) (l := List.range la)
  rwa [List.length_range] at this
theorem cntL_zero (la : Nat) (M : Nat → Option Nat) (H : Nat → Nat) : cntL la M H 0 0 = 0 := by
  unfold cntL
  rw [List.countP_eq_zero]
  intro k _
  have : lessB k (H k) 0 0 = false := by rw [Bool.eq_false_iff, Ne, lessB_iff]; omega
  simp [this]
theorem cntM_none (la : Nat) : cntM la (fun _ => none) = 0 := by
  unfold cntM; rw [List.countP_eq_zero]; simp
theorem cntM_some {la key v : Nat} {M : Nat → Option Nat} (hk : key < la) : cntM la (set M key (some v)) = cntM la M + (if (M key).isSome = true then 0 else 1) := by
  cases h : (M key).isSome
  · exact countP_one (a := key) h (by rw [set_same]; rfl) (fun k e => by rw [set_ne _ _ e]) la hk
  · simp only [if_true, Nat.add_zero]
    refine countP_same fun k _ => ?_
    by_cases e : k = key
    · subst e; rw [set_same, h]; rfl
    · rw [set_ne _ _ e]
theorem cntM_del {la key : Nat} {M : Nat → Option Nat} (hk : key < la) : cntM la M = cntM la (set M key none) + (if (M key).isSome = true then 1 else 0) := by
  cases h : (M key).isSome
  · simp only [Bool.false_eq_true, if_false, Nat.add_zero]
    refine countP_same fun k _ => ?_
    by_cases e : k = key
    · subst e; rw [set_same, h]; rfl
    · rw [set_ne _ _ e]
  · exact countP_one (a := key) (by rw [set_same]; rfl) h (fun k e => by rw [set_ne _ _ e]) la hk
/-- a table of the first la keys, and how many there are -/
structure RepN (H : Nat → Nat) (la : Nat) (t : Tb) (M : Nat → Option Nat) : Prop where
  rep : Rep H t M
  far : ∀ k, la ≤ k → M k = none
  len : t.len = (cntM la M : Nat)
theorem RepN.new {n la : Nat} (hn : okN n) (H : Nat → Nat) : RepN H la (Tb.new n) fun _ => none := ⟨.new hn H, fun _ _ => rfl, by rw [cntM_none]; rfl⟩
theorem RepN.puts {H : Nat → Nat} {la : Nat} {t : Tb} {M : Nat → Option Nat} (h : RepN H la t M) {key v : Nat} (hk : key < la) (hkey : key < 18446744073709551616) (hh : H key < 18446744073709551616) (hv : v < 18446744073709551616) :
    ∃ M', RepN H la (t.puts key (H key) v) M' := by
  obtain ⟨h1, h2⟩ := h.rep.puts hkey hh hv
  by_cases hc : (M key).isSome = true ∨ 1 ≤ t.left
  · obtain ⟨a, _, _, b, _⟩ := h1 hc
    refine ⟨_, a, fun k hk' => by rw [set_ne _ _ (by omega)]; exact h.far k hk', ?_⟩
    rw [b, h.len, cntM_some hk]; split <;> omega
  · have hs : (M key).isSome = false := by cases e : (M key).isSome; rfl; exact absurd (.inl e) hc
    have hl : t.left < 1 := by
      apply Classical.byContradiction; intro hn; exact hc (.inr (by omega))
    rw [(h2 hs hl).1]
    exact ⟨M, h⟩
theorem RepN.remove {H : Nat → Nat} {la : Nat} {t : Tb} {M : Nat → Option Nat} (h : RepN H la t M) {key : Nat} (hk : key < la) : RepN H la (t.remove key (H key)) (set M key none) := by
  refine ⟨h.rep.remove key, fun k hk' => by rw [set_ne _ _ (by omega)]; exact h.far k hk', ?_⟩
  rw [h.rep.remove_len, h.len, cntM_del (M := M) hk]; split <;> omega
theorem Rep.at {H : Nat → Nat} {t : Tb} {M : Nat → Option Nat} (h : Rep H t M) {k : Nat} (e : (M k).isSome = true) : ∃ s ∈ ents t t.n, s.key = k ∧ s.hash = H k := by
  obtain ⟨v, hv⟩ := Option.isSome_iff_exists.1 e
  obtain ⟨i, j, hs, _⟩ := (h.2 k v).1 hv
  exact ⟨_, mem_ents.2 ⟨i, j, hs.1, hs.2.1, hs.2.2.1, rfl⟩, hs.2.2.2, h.1.hash _ _ _ hs⟩
theorem least_none {H : Nat → Nat} {la : Nat} {t : Tb} {M : Nat → Option Nat} (h : Rep H t M) {hh ky : Nat} (e : leastE t hh ky = none) : cntL la M H hh ky = cntM la M := by
  rcases leastE_is t hh ky with ⟨_, h2⟩ | ⟨m, h1, _⟩
  · refine countP_same fun k _ => ?_
    cases hM : (M k).isSome
    · rfl
    · obtain ⟨s, hs, rfl, h4⟩ := h.at hM
      have := h2 s hs
      rw [h4] at this
      rw [this]; rfl
  · rw [e] at h1; cases h1
theorem least_some {H : Nat → Nat} {la : Nat} {t : Tb} {M : Nat → Option Nat} (h : Rep H t M) (hN : ∀ k, la ≤ k → M k = none) {hh ky : Nat} {s : Sl} (e : leastE t hh ky = some s) :
    s.key < la ∧ M s.key = some s.val ∧ s.hash = H s.key ∧ lessB s.key s.hash ky hh = false ∧ cntL la M H s.hash (s.key + 1) = cntL la M H hh ky + 1 := by
  rcases leastE_is t hh ky with ⟨h1, _⟩ | ⟨m, h1, hm, h3, h4⟩
  · rw [e] at h1; cases h1
  · rw [e] at h1
    obtain rfl : s = m := by simpa using h1
    obtain ⟨i, j, hi, hj, hk3, hs⟩ := mem_ents.1 hm
    have hst : Stands t s.key i j := ⟨hi, hj, hk3, by rw [hs]⟩
    have hM : M s.key = some s.val := (h.2 _ _).2 ⟨i, j, hst, by rw [hs]⟩
    have hH : s.hash = H s.key := by have := h.1.hash _ _ _ hst; rwa [hs] at this
    have hla : s.key < la := by
      apply Classical.byContradiction; intro hn
      rw [hN _ (by omega)] at hM; cases hM
    refine ⟨hla, hM, hH, h3, ?_⟩
    refine countP_one (a := s.key) (by rw [← hH, h3]; simp) (by rw [hM, ← hH, (lessB_iff _ _ _ _).2 (by omega)]; rfl) (fun k hk => ?_) la hla
    cases hMk : (M k).isSome
    · rfl
    · obtain ⟨x, hx, hxk, hxh⟩ := h.at hMk
      have h5 := h4 x hx
      rw [hxk, hxh] at h5
      congr 1
      rw [Bool.eq_iff_iff, lessB_iff, lessB_iff]
      rw [Bool.eq_false_iff, Ne, lessB_iff, Bool.eq_false_iff, Ne, lessB_iff] at h5
      rw [Bool.eq_false_iff, Ne, lessB_iff] at h3
      omega
end Go.Proofs.YtibcokiijlamcaaGreatDoor.table
