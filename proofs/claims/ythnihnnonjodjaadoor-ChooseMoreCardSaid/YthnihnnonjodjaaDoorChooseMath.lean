/- Which job a table needs, as plain functions of whole numbers. No program is named. -/
import Derived.Test.YthnihnnonjodjaaDoorMath
import Derived.Test.YthnihnnonjodjaaDoorRows
import Derived.WalkKit
import Derived.ProofKit
namespace Go.Proofs.YthnihnnonjodjaaDoor.choose
open Go.Proofs.YthnihnnonjodjaaDoor.probe (okN)

/-- so many groups a table may have -/
def rt (g : Int) : Bool := decide (g = 1 ∨ g = 2 ∨ g = 4 ∨ g = 8 ∨ g = 16 ∨ g = 32 ∨ g = 64)
theorem rt_yes {g : Int} (h : rt g = true) : ∃ n : Nat, g = n ∧ okN n := by
  simp only [rt, decide_eq_true_eq] at h
  rcases h with rfl | rfl | rfl | rfl | rfl | rfl | rfl
  · exact ⟨1, rfl, by decide⟩
  · exact ⟨2, rfl, by decide⟩
  · exact ⟨4, rfl, by decide⟩
  · exact ⟨8, rfl, by decide⟩
  · exact ⟨16, rfl, by decide⟩
  · exact ⟨32, rfl, by decide⟩
  · exact ⟨64, rfl, by decide⟩
theorem rt_of (n : Nat) (h : okN n) : rt (n : Int) = true := by
  simp only [rt, decide_eq_true_eq]; unfold okN at h; omega
theorem rt_no {g : Int} (h : rt g = false) : ¬ ∃ n : Nat, g = n ∧ okN n := by
  rintro ⟨n, rfl, hn⟩
  rw [rt_of n hn] at h; cases h
theorem rt_false {g : Int} (h : ¬ ∃ n : Nat, g = n ∧ okN n) : rt g = false := by
  cases e : rt g with
  | false => rfl
  | true => exact absurd (rt_yes e) h
theorem rt_cases {g : Int} (h : rt g = true) : g = 1 ∨ g = 2 ∨ g = 4 ∨ g = 8 ∨ g = 16 ∨ g = 32 ∨ g = 64 := by
  simpa only [rt, decide_eq_true_eq] using h
theorem rt_le {g : Int} (h : rt g = true) : 1 ≤ g ∧ g ≤ 64 := by have := rt_cases h; omega

/-- the least of four, from the left -/
def mn4 (x y z u : Int) : Int := if u < (if z < (if y < x then y else x) then z else (if y < x then y else x)) then u else (if z < (if y < x then y else x) then z else (if y < x then y else x))
theorem mn4_lt (x y z u : Int) : decide (mn4 x y z u < 0) = decide (x < 0 ∨ y < 0 ∨ z < 0 ∨ u < 0) := by
  apply decide_eq_decide.2; unfold mn4; split <;> split <;> split <;> omega
theorem run_min4 {P : Program} {w : World} (ts : Array TypeId) (t : TypeId) (k : IntKind) (x y z u : Int) :
    (Builtin.min_ ts t #[.int k x, .int k y, .int k z, .int k u]).run P w = .ok (.int k (mn4 x y z u)) w := by
  simp [Builtin.min_, Builtin.min2, mn4]
/-- the lesser of two -/
def mn2 (x y : Int) : Int := if y < x then y else x
theorem run_mn2 {P : Program} {w : World} (ts : Array TypeId) (t : TypeId) (k : IntKind) (x y : Int) :
    (Builtin.min_ ts t #[.int k x, .int k y]).run P w = .ok (.int k (mn2 x y)) w := by
  simp [Builtin.min_, Builtin.min2, mn2]

/-- does a table of these numbers need a job? -/
def nd (l t g a b : Int) : Bool := decide (0 ≤ l ∧ 0 ≤ t ∧ 0 ≤ a ∧ 0 ≤ b) && rt g && decide (4 * g ≤ l + t)
/-- the kind of its job -/
def wh (l t g a b : Int) : Int :=
  if nd l t g a b = false then 0 else if l ≤ 2 * g then 1 else if 8 ≤ g ∧ a < b then 3 else if g < 64 then 2 else 1
/-- is the directory to be doubled? -/
def db (l t g a b : Int) : Bool := nd l t g a b && decide (2 * g < l ∧ 8 ≤ g ∧ a = b ∧ b < 5)

theorem nd_yes {l t g a b : Int} (h : nd l t g a b = true) : 0 ≤ l ∧ 0 ≤ t ∧ 0 ≤ a ∧ 0 ≤ b ∧ rt g = true ∧ 4 * g ≤ l + t := by
  simp only [nd, Bool.and_eq_true, decide_eq_true_eq] at h
  exact ⟨h.1.1.1, h.1.1.2.1, h.1.1.2.2.1, h.1.1.2.2.2, h.1.2, h.2⟩
theorem nd_neg {l t g a b : Int} (h : ¬ (0 ≤ l ∧ 0 ≤ t ∧ 0 ≤ a ∧ 0 ≤ b)) : nd l t g a b = false := by
  simp only [nd, decide_eq_false h, Bool.false_and]
theorem nd_groups {l t g a b : Int} (h : rt g = false) : nd l t g a b = false := by
  simp only [nd, h, Bool.and_false, Bool.false_and]
theorem nd_few {l t g a b : Int} (h : l + t < 4 * g) : nd l t g a b = false := by
  have : ¬ 4 * g ≤ l + t := by omega
  simp only [nd, decide_eq_false this, Bool.and_false]
theorem nd_is {l t g a b : Int} (h1 : 0 ≤ l) (h2 : 0 ≤ t) (h3 : 0 ≤ a) (h4 : 0 ≤ b) (h5 : rt g = true) : nd l t g a b = decide (4 * g - l ≤ t) := by
  have : 0 ≤ l ∧ 0 ≤ t ∧ 0 ≤ a ∧ 0 ≤ b := ⟨h1, h2, h3, h4⟩
  simp only [nd, decide_eq_true this, h5, Bool.true_and]
  exact decide_eq_decide.2 (by omega)
theorem wh_none {l t g a b : Int} (h : nd l t g a b = false) : wh l t g a b = 0 := by simp only [wh, h, if_true]
theorem wh_few {l t g a b : Int} (h : nd l t g a b = true) (h1 : l ≤ 2 * g) : wh l t g a b = 1 := by simp [wh, h, h1]
theorem wh_split {l t g a b : Int} (h : nd l t g a b = true) (h1 : 2 * g < l) (h2 : 8 ≤ g) (h3 : a < b) : wh l t g a b = 3 := by
  have : ¬ l ≤ 2 * g := by omega
  simp [wh, h, this, h2, h3]
theorem wh_grow {l t g a b : Int} (h : nd l t g a b = true) (h1 : 2 * g < l) (h2 : ¬ (8 ≤ g ∧ a < b)) (h3 : g < 64) : wh l t g a b = 2 := by
  have : ¬ l ≤ 2 * g := by omega
  simp only [wh, h, if_neg this, if_neg h2, if_pos h3, Bool.true_eq_false, if_false]
theorem wh_last {l t g a b : Int} (h : nd l t g a b = true) (h1 : 2 * g < l) (h2 : ¬ (8 ≤ g ∧ a < b)) (h3 : 64 ≤ g) : wh l t g a b = 1 := by
  have : ¬ l ≤ 2 * g := by omega
  have h3' : ¬ g < 64 := by omega
  simp only [wh, h, if_neg this, if_neg h2, if_neg h3', Bool.true_eq_false, if_false]
/-- what a kind tells -/
theorem wh_cases (l t g a b : Int) : (wh l t g a b = 0 ∧ nd l t g a b = false) ∨ (nd l t g a b = true ∧
    ((wh l t g a b = 1 ∧ (l ≤ 2 * g ∨ 64 ≤ g)) ∨ (wh l t g a b = 2 ∧ 2 * g < l ∧ g < 64) ∨ (wh l t g a b = 3 ∧ 2 * g < l ∧ 8 ≤ g ∧ a < b))) := by
  cases h : nd l t g a b with
  | false => exact .inl ⟨wh_none h, rfl⟩
  | true =>
    refine .inr ⟨rfl, ?_⟩
    by_cases h1 : l ≤ 2 * g
    · exact .inl ⟨wh_few h h1, .inl h1⟩
    · by_cases h2 : 8 ≤ g ∧ a < b
      · exact .inr (.inr ⟨wh_split h (by omega) h2.1 h2.2, by omega, h2.1, h2.2⟩)
      · by_cases h3 : g < 64
        · exact .inr (.inl ⟨wh_grow h (by omega) h2 h3, by omega, h3⟩)
        · exact .inl ⟨wh_last h (by omega) h2 (by omega), .inr (by omega)⟩

/-- how many groups each new table has, how many tables, and the error's number (0: none) -/
def ge (k g : Int) : Int := if (1 ≤ k ∧ k ≤ 3) ∧ rt g = true ∧ ¬ (k = 2 ∧ g = 64) then (if k = 2 then 2 * g else g) else 0
def gm (k g : Int) : Int := if (1 ≤ k ∧ k ≤ 3) ∧ rt g = true ∧ ¬ (k = 2 ∧ g = 64) then (if k = 3 then 2 else 1) else 0
def gx (k g : Int) : Nat := if 1 ≤ k ∧ k ≤ 3 then (if rt g = true ∧ ¬ (k = 2 ∧ g = 64) then 0 else 1) else 14
/-- how many steps -/
def un (k g : Int) : Int := if gx k g = 0 then ge k g * gm k g + g else 0
end Go.Proofs.YthnihnnonjodjaaDoor.choose
