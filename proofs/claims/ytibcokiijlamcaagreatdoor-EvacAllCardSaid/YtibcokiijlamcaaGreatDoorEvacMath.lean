/- evac: entries that are moved into their targets, one by one: the plain mathematics. No function is walked here. -/
import Derived.Test.YtibcokiijlamcaaGreatDoorMany
namespace Go.Proofs.YtibcokiijlamcaaGreatDoor.evac
open group probe swar table
set_option linter.unusedSimpArgs false
set_option linter.unusedVariables false

/-- which of N tables a hash's target is -/
def tgt (N d h : Nat) : Nat := if N = 3 then 1 + split.bitN h d else 1
theorem tgt_pos (N d h : Nat) : 1 ≤ tgt N d h := by unfold tgt; split <;> omega
theorem tgt_lt {N : Nat} (hN : N = 2 ∨ N = 3) (d h : Nat) : tgt N d h < N := by
  have := split.bitN_lt h d
  unfold tgt; split <;> omega
/-- an entry is put into its target -/
def mv1 (N d : Nat) (u : Nat → Tb) (e : Sl) : Nat → Tb := up u (tgt N d e.hash) ((u (tgt N d e.hash)).puts e.key e.hash e.val)
def kv1 (N d : Nat) (u : Nat → Tb) (k : Nat → Nat) (e : Sl) : Nat → Nat := up k (tgt N d e.hash) (k (tgt N d e.hash) + looks (u (tgt N d e.hash)) e.key e.hash)
def good1 (N d : Nat) (u : Nat → Tb) (e : Sl) : Bool := putB' (u (tgt N d e.hash)) e.key e.hash && decide (putE' (u (tgt N d e.hash)) e.key e.hash = 0)
def mvs (N d : Nat) : (Nat → Tb) → List Sl → Nat → Tb
  | u, [] => u
  | u, e :: l => mvs N d (mv1 N d u e) l
def kvs (N d : Nat) : (Nat → Tb) → (Nat → Nat) → List Sl → Nat → Nat
  | _, k, [] => k
  | u, k, e :: l => kvs N d (mv1 N d u e) (kv1 N d u k e) l
def goods (N d : Nat) : (Nat → Tb) → List Sl → Bool
  | _, [] => true
  | u, e :: l => good1 N d u e && goods N d (mv1 N d u e) l
theorem mvs_snoc (N d : Nat) : ∀ (l : List Sl) (u : Nat → Tb) (e : Sl), mvs N d u (l ++ [e]) = mv1 N d (mvs N d u l) e
  | [], _, _ => rfl
  | x :: l, u, e => mvs_snoc N d l (mv1 N d u x) e
theorem kvs_snoc (N d : Nat) : ∀ (l : List Sl) (u : Nat → Tb) (k : Nat → Nat) (e : Sl), kvs N d u k (l ++ [e]) = kv1 N d (mvs N d u l) (kvs N d u k l) e
  | [], _, _, _ => rfl
  | x :: l, u, k, e => kvs_snoc N d l (mv1 N d u x) (kv1 N d u k x) e
theorem goods_snoc (N d : Nat) : ∀ (l : List Sl) (u : Nat → Tb) (e : Sl), goods N d u (l ++ [e]) = (goods N d u l && good1 N d (mvs N d u l) e)
  | [], u, e => by simp [goods, mvs]
  | x :: l, u, e => by
    have := goods_snoc N d l (mv1 N d u x) e
    simp only [List.cons_append, goods, mvs, this, Bool.and_assoc]
theorem goods_take {N d : Nat} : ∀ (l : List Sl) (u : Nat → Tb) (c : Nat), goods N d u l = true → goods N d u (l.take c) = true
  | [], u, c, h => by simpa using h
  | x :: l, u, 0, h => rfl
  | x :: l, u, c + 1, h => by
    simp only [goods, List.take_succ_cons, Bool.and_eq_true] at h ⊢
    exact ⟨h.1, goods_take l _ c h.2⟩
theorem take_next {α : Type} (l : List α) {c : Nat} (h : c < l.length) : l.take (c + 1) = l.take c ++ [l[c]] := by rw [List.take_add_one, List.getElem?_eq_getElem h]; rfl
theorem mv1_n (N d : Nat) (u : Nat → Tb) (e : Sl) (i : Nat) : (mv1 N d u e i).n = (u i).n := by
  unfold mv1 up; split
  · next h => rw [puts_n, h]
  · rfl
theorem mvs_n (N d : Nat) : ∀ (l : List Sl) (u : Nat → Tb) (i : Nat), (mvs N d u l i).n = (u i).n
  | [], _, _ => rfl
  | x :: l, u, i => (mvs_n N d l (mv1 N d u x) i).trans (mv1_n N d u x i)
/-- the taken tables -/
def tak (u : Nat → Tb) (i : Nat) : Nat → Tb := up u 0 (tk (u 0) i 8)
def ktk (k : Nat → Nat) : Nat → Nat := up k 0 (k 0 + 1)
/-- the entries of the next group -/
def lst (u : Nat → Tb) (i : Nat) : List Sl := entsG ((u 0).gs i)
theorem lst_length (u : Nat → Tb) (i : Nat) : (lst u i).length ≤ 8 := by unfold lst entsG; rw [List.length_map]; exact fulls_length _
theorem lst_ok {u : Nat → Tb} (h : (u 0).Ok) (i : Nat) : ∀ s ∈ lst u i, s.Ok := fun s hs => by
  unfold lst entsG at hs
  obtain ⟨k, _, rfl⟩ := List.mem_map.1 hs
  exact h.gs i k
theorem goods_no {N d : Nat} {u : Nat → Tb} {l : List Sl} {j : Nat} (hj : j < l.length) (h : good1 N d (mvs N d u (l.take j)) l[j] = false) : goods N d u l = false := by
  cases e : goods N d u l
  · rfl
  · have := goods_take l u (j + 1) e
    rw [take_next l hj, goods_snoc, h, Bool.and_false] at this
    cases this
theorem kv1_le {N d : Nat} {u : Nat → Tb} {k : Nat → Nat} {K : Nat} (hn : ∀ i, i < N → (u i).n ≤ 64) (hN : N = 2 ∨ N = 3) (hk : ∀ i, i < N → k i ≤ K) (e : Sl) : ∀ i, i < N → kv1 N d u k e i ≤ K + 64 := fun i hi => by
  unfold kv1 up; split
  · next h =>
    have h1 := looks_le (u (tgt N d e.hash)) e.key e.hash
    have h2 := hn _ (tgt_lt hN d e.hash)
    have h3 := hk _ (tgt_lt hN d e.hash)
    omega
  · have := hk i hi; omega
end Go.Proofs.YtibcokiijlamcaaGreatDoor.evac
