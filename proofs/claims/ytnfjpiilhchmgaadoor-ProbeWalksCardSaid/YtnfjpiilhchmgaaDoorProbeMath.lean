/- The arithmetic of package probe: which numbers of groups are right, and the places of a walk. No program is named. -/
import Derived.ProofKit
namespace Go.Proofs.YtnfjpiilhchmgaaDoor.probe
open Go.RowKit

/-- a table may have so many groups -/
def okN (n : Nat) : Prop := n = 1 ∨ n = 2 ∨ n = 4 ∨ n = 8 ∨ n = 16 ∨ n = 32 ∨ n = 64
instance (n : Nat) : Decidable (okN n) := by unfold okN; infer_instance
theorem okN_pos {n : Nat} (h : okN n) : 0 < n := by unfold okN at h; omega
theorem okN_le {n : Nat} (h : okN n) : n ≤ 64 := by unfold okN at h; omega
theorem okN_dvd {n : Nat} (h : okN n) : n ∣ 18446744073709551616 := by
  rcases h with rfl | rfl | rfl | rfl | rfl | rfl | rfl <;> decide
/-- one bit alone -/
theorem and_ok : ∀ n : Nat, n < 65 → 0 < n → ((bits .and .i64 (n : Int) ((n : Int) - 1) = 0) ↔ okN n) := by
  have h : ∀ n : Fin 65, 0 < n.val → ((bits .and .i64 (n.val : Int) ((n.val : Int) - 1) = 0) ↔ okN n.val) := by decide
  exact fun n hn => h ⟨n, hn⟩
/-- place number i of the walk of h over n groups -/
def plc (h n i : Nat) : Nat := (h + i * (i + 1) / 2) % n
theorem plc_lt {h n i : Nat} (hn : 0 < n) : plc h n i < n := Nat.mod_lt _ hn
theorem plc_wrap {h n i : Nat} (hok : okN n) : ((h + i * (i + 1) / 2) % 18446744073709551616) % n = plc h n i := Nat.mod_mod_of_dvd _ (okN_dvd hok)
/-- the walk -/
def wl (h n : Nat) : List Nat := (List.range n).map (plc h n)
theorem wl_length (h n : Nat) : (wl h n).length = n := by simp [wl]
theorem wl_get (h n i : Nat) (hi : i < n) : (wl h n)[i]? = some (plc h n i) := by simp [wl, hi]
/-- no place twice: the triangular numbers modulo a power of two -/
theorem tri_inj : ∀ n, okN n → ∀ i j, i < n → j < n → (i * (i + 1) / 2) % n = (j * (j + 1) / 2) % n → i = j := by
  have t1 : ∀ i j : Fin 1, (i.val * (i.val + 1) / 2) % 1 = (j.val * (j.val + 1) / 2) % 1 → i.val = j.val := by decide
  have t2 : ∀ i j : Fin 2, (i.val * (i.val + 1) / 2) % 2 = (j.val * (j.val + 1) / 2) % 2 → i.val = j.val := by decide
  have t4 : ∀ i j : Fin 4, (i.val * (i.val + 1) / 2) % 4 = (j.val * (j.val + 1) / 2) % 4 → i.val = j.val := by decide
  have t8 : ∀ i j : Fin 8, (i.val * (i.val + 1) / 2) % 8 = (j.val * (j.val + 1) / 2) % 8 → i.val = j.val := by decide +kernel
  have t16 : ∀ i j : Fin 16, (i.val * (i.val + 1) / 2) % 16 = (j.val * (j.val + 1) / 2) % 16 → i.val = j.val := by decide +kernel
  have t32 : ∀ i j : Fin 32, (i.val * (i.val + 1) / 2) % 32 = (j.val * (j.val + 1) / 2) % 32 → i.val = j.val := by decide +kernel
  have t64 : ∀ i j : Fin 64, (i.val * (i.val + 1) / 2) % 64 = (j.val * (j.val + 1) / 2) % 64 → i.val = j.val := by decide +kernel
  intro n hok i j hi hj
  rcases hok with rfl | rfl | rfl | rfl | rfl | rfl | rfl
  · exact t1 ⟨i, hi⟩ ⟨j, hj⟩
  · exact t2 ⟨i, hi⟩ ⟨j, hj⟩
  · exact t4 ⟨i, hi⟩ ⟨j, hj⟩
  · exact t8 ⟨i, hi⟩ ⟨j, hj⟩
  · exact t16 ⟨i, hi⟩ ⟨j, hj⟩
  · exact t32 ⟨i, hi⟩ ⟨j, hj⟩
  · exact t64 ⟨i, hi⟩ ⟨j, hj⟩
theorem add_mod_cancel {h a b n : Nat} (hp : 0 < n) (e : (h + a) % n = (h + b) % n) : a % n = b % n := by
  obtain ⟨m, rfl⟩ : ∃ m, n = m + 1 := ⟨n - 1, by omega⟩
  have key : ∀ x, x % (m + 1) = ((h + x) + h * m) % (m + 1) := fun x => by
    rw [← Nat.add_mul_mod_self_right x h (m + 1), Nat.mul_add]; congr 1; omega
  rw [key a, key b, Nat.add_mod, e, ← Nat.add_mod]
theorem plc_inj {h n i j : Nat} (hok : okN n) (hi : i < n) (hj : j < n) (e : plc h n i = plc h n j) : i = j := tri_inj n hok i j hi hj (add_mod_cancel (okN_pos hok) e)
theorem wl_nodup (h n : Nat) (hok : okN n) : (wl h n).Nodup := by
  unfold wl
  rw [List.nodup_iff_pairwise_ne, List.pairwise_map]
  refine List.Pairwise.imp_of_mem ?_ (List.nodup_iff_pairwise_ne.1 (List.nodup_range (n := n)))
  intro i j hi hj hne e
  exact hne (plc_inj hok (by simpa using hi) (by simpa using hj) e)
theorem wl_lt (h n x : Nat) (hp : 0 < n) (hx : x ∈ wl h n) : x < n := by
  simp only [wl, List.mem_map] at hx
  obtain ⟨i, _, rfl⟩ := hx
  exact plc_lt hp
theorem prefix_lt {h n x : Nat} {pre : List Nat} (hp : 0 < n) (hx : ¬ x < n) : ¬ pre ++ [x] <+: wl h n := fun hpre =>
  hx (wl_lt h n x hp (hpre.subset (by simp)))
theorem prefix_new {h n x : Nat} {pre : List Nat} (hok : okN n) (hx : x ∈ pre) : ¬ pre ++ [x] <+: wl h n := fun hpre => by
  have hd : (pre ++ [x]).Nodup := (wl_nodup h n hok).sublist hpre.sublist
  rw [List.nodup_append] at hd
  exact hd.2.2 x hx x (by simp) rfl
theorem plc_next {h n i : Nat} (hok : okN n) : plc ((h + 1) % 18446744073709551616) n i = (plc h n i + 1) % n := by
  unfold plc
  rw [Nat.add_mod, Nat.mod_mod_of_dvd _ (okN_dvd hok), ← Nat.add_mod, show h + 1 + i * (i + 1) / 2 = h + i * (i + 1) / 2 + 1 by omega, Nat.add_mod, Nat.add_mod ((h + i * (i + 1) / 2) % n) 1, Nat.mod_mod]
theorem plc_round {h n i : Nat} (hok : okN n) : plc ((h + n) % 18446744073709551616) n i = plc h n i := by
  unfold plc
  rw [Nat.add_mod, Nat.mod_mod_of_dvd _ (okN_dvd hok), ← Nat.add_mod, show h + n + i * (i + 1) / 2 = h + i * (i + 1) / 2 + n by omega, Nat.add_mod_right]
theorem tri_succ (i : Nat) : (i + 1) * (i + 1 + 1) / 2 = i * (i + 1) / 2 + (i + 1) := by
  rw [show (i + 1) * (i + 1 + 1) = i * (i + 1) + (i + 1) * 2 by rw [Nat.mul_add (i + 1) (i + 1) 1, Nat.add_mul i 1 (i + 1), Nat.mul_add i i 1]; omega, Nat.add_mul_div_right _ _ (by decide)]
theorem plc_step {h n i : Nat} : plc h n (i + 1) = (plc h n i + (i + 1)) % n := by
  unfold plc
  rw [tri_succ, ← Nat.add_assoc, Nat.mod_add_mod]
end Go.Proofs.YtnfjpiilhchmgaaDoor.probe
