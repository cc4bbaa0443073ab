/- DirParts: the walk. -/
import Derived.Test.YtmbdfoobnkanlaaDoorDir
namespace Go.Proofs.YtmbdfoobnkanlaaDoor.dir
open Go.ChangeShapes Go.WideShapes Go.ChangeAt Go.RowKit split trap errs
set_option linter.unusedSimpArgs false
set_option linter.unusedVariables false

def exF : Nat → Nat := setF (fun _ => 0) 2 4 7
theorem below_past {B : Nat} {w x y : World} (h : Below w.heap.size w x) (hp : Past [B] x y) (hB : w.heap.size ≤ B) : Below w.heap.size w y :=
  h.trans (hp.below h.size (by simp; omega))
/-- how many of the first k entries are from a to t -/
def cnt (a t k : Nat) : Nat := min k t - min k a
theorem cnt_zero (a t : Nat) : cnt a t 0 = 0 := by unfold cnt; omega
theorem cnt_in (a t k : Nat) (h : a ≤ k ∧ k < t) : cnt a t (k + 1) = cnt a t k + 1 := by unfold cnt; omega
theorem cnt_out (a t k : Nat) (hat : a ≤ t) (h : ¬ (a ≤ k ∧ k < t)) : cnt a t (k + 1) = cnt a t k := by unfold cnt; omega
theorem cnt_all (a t k : Nat) (hat : a ≤ t) (h : t ≤ k) : cnt a t k = t - a := by unfold cnt; omega
theorem cnt_le (a t k : Nat) : cnt a t k ≤ k := by unfold cnt; omega
/-- what a walk that only reads keeps -/
structure Keep (B d : Nat) (f : Nat → Nat) (w W : World) : Prop where
  dat : DAt B d f W
  below : Below w.heap.size w W
theorem Keep.drewN {B d : Nat} {f : Nat → Nat} {w W : World} (h : Keep B d f w W) (q : Nat) : Keep B d f w (W.drewN q) := ⟨h.dat.drewN q, h.below.trans ⟨rfl, rfl, rfl, Nat.le_refl _, fun _ _ => rfl⟩⟩
theorem fr_self (d k : Nat) : fr d k d = k := by unfold fr; rw [Nat.sub_self]; simp
theorem at_low (d k : Nat) (hd : d ≤ 5) : lowN k d / 2 ^ (64 - d) = k := by rw [low_div d k d (Nat.le_refl _) (by omega), fr_self]
theorem low_in (d k : Nat) (hd : d ≤ 5) (hk : k < 2 ^ d) : lowN k d < 18446744073709551616 := by
  have := lowN_lt k d (by omega) hk; omega
theorem fr_top (d e : Nat) (he : e ≤ d) : fr d (2 ^ e) e = 2 ^ d := by
  unfold fr; rw [← Nat.pow_add, show e + (d - e) = d by omega]
theorem to_fr (d k e : Nat) : to d k e = fr d (k + 1) e := rfl
theorem fr_zero (d e : Nat) : fr d 0 e = 0 := by unfold fr; omega
end Go.Proofs.YtmbdfoobnkanlaaDoor.dir
