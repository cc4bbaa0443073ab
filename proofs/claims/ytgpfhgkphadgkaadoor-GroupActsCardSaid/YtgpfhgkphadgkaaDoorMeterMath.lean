/- meter: counts in their range, sums, and what a meter holds. No program is named. -/
import Derived.WalkKit
namespace Go.Proofs.YtgpfhgkphadgkaaDoor.meter

/-- a count in its range -/
def cl (x : Int) : Int := max 0 (min x 1099511627776)
/-- the sum of two counts -/
def sm (a b : Int) : Int := cl (cl a + cl b)
theorem cl_of (M x : Int) (h : 0 ≤ M) : (x < 0 ∧ max 0 (min x M) = 0) ∨ (0 ≤ x ∧ x ≤ M ∧ max 0 (min x M) = x) ∨ (M < x ∧ max 0 (min x M) = M) := by omega
theorem cl_at (x : Int) : (x < 0 ∧ cl x = 0) ∨ (0 ≤ x ∧ x ≤ 1099511627776 ∧ cl x = x) ∨ (1099511627776 < x ∧ cl x = 1099511627776) := cl_of _ x (by decide)
theorem cl_lo (x : Int) : 0 ≤ cl x := by have := cl_at x; omega
theorem cl_hi (x : Int) : cl x ≤ 1099511627776 := by have := cl_at x; omega
theorem cl_id {x : Int} (h0 : 0 ≤ x) (h1 : x ≤ 1099511627776) : cl x = x := by have := cl_at x; omega
theorem sm_lo (a b : Int) : 0 ≤ sm a b := cl_lo _
theorem sm_hi (a b : Int) : sm a b ≤ 1099511627776 := cl_hi _
theorem sm_comm (a b : Int) : sm a b = sm b a := by unfold sm; rw [Int.add_comm]
theorem sm_zero {x : Int} (h0 : 0 ≤ x) (h1 : x ≤ 1099511627776) : sm x 0 = x := by
  unfold sm; have := cl_at x; have := cl_at 0; have := cl_at (cl x + cl 0); omega
theorem sm_step (x : Int) (k : Nat) : sm (sm x k) 1 = sm x ((k + 1 : Nat) : Int) := by
  unfold sm
  have h1 := cl_at x; have h2 := cl_at k; have h3 := cl_at (cl x + cl k); have h4 := cl_at 1; have h5 := cl_at (cl (cl x + cl k)); have h6 := cl_at (cl (cl (cl x + cl k)) + cl 1); have h7 := cl_at ((k + 1 : Nat) : Int); have h8 := cl_at (cl x + cl ((k + 1 : Nat) : Int))
  omega
theorem sm_add {x y : Int} (hx : 0 ≤ x) (hy : 0 ≤ y) (h : x + y ≤ 1099511627776) : sm x y = x + y := by
  unfold sm; have := cl_at x; have := cl_at y; have := cl_at (cl x + cl y); omega

/-- what a meter holds -/
structure Mt where
  pa : Int
  pl : Int
  va : Int
  vl : Int
  ua : Int
  ul : Int
  lim : Int
  on : Bool
/-- its counts are in their range -/
structure Mt.Ok (m : Mt) : Prop where
  pa0 : 0 ≤ m.pa
  pa1 : m.pa ≤ 1099511627776
  pl0 : 0 ≤ m.pl
  pl1 : m.pl ≤ 1099511627776
  va0 : 0 ≤ m.va
  va1 : m.va ≤ 1099511627776
  vl0 : 0 ≤ m.vl
  vl1 : m.vl ≤ 1099511627776
  ua0 : 0 ≤ m.ua
  ua1 : m.ua ≤ 1099511627776
  ul0 : 0 ≤ m.ul
  ul1 : m.ul ≤ 1099511627776
  lim0 : -9223372036854775808 ≤ m.lim
  lim1 : m.lim ≤ 9223372036854775807
  on0 : m.on = true → 0 ≤ m.lim
def Mt.zero : Mt := ⟨0, 0, 0, 0, 0, 0, 0, false⟩
theorem Mt.zero_ok : Mt.zero.Ok := by constructor <;> decide
/-- so many probes, visits, units more -/
def Mt.probes (m : Mt) (n : Int) : Mt := { m with pa := sm m.pa n, pl := sm m.pl n }
def Mt.visits (m : Mt) (n : Int) : Mt := { m with va := sm m.va n, vl := sm m.vl n }
def Mt.units (m : Mt) (n : Int) : Mt := { m with ua := sm m.ua n, ul := sm m.ul n }
def Mt.reset (m : Mt) : Mt := { m with pl := 0, vl := 0, ul := 0 }
def Mt.limit (m : Mt) (n : Int) : Mt := { m with lim := n, on := decide (0 ≤ n) }
theorem Mt.Ok.probes {m : Mt} (h : m.Ok) (n : Int) : (m.probes n).Ok := { h with pa0 := sm_lo _ _, pa1 := sm_hi _ _, pl0 := sm_lo _ _, pl1 := sm_hi _ _ }
theorem Mt.Ok.visits {m : Mt} (h : m.Ok) (n : Int) : (m.visits n).Ok := { h with va0 := sm_lo _ _, va1 := sm_hi _ _, vl0 := sm_lo _ _, vl1 := sm_hi _ _ }
theorem Mt.Ok.units {m : Mt} (h : m.Ok) (n : Int) : (m.units n).Ok := { h with ua0 := sm_lo _ _, ua1 := sm_hi _ _, ul0 := sm_lo _ _, ul1 := sm_hi _ _ }
theorem Mt.Ok.reset {m : Mt} (h : m.Ok) : m.reset.Ok := { h with pl0 := Int.le_refl 0, pl1 := (by decide : (0 : Int) ≤ 1099511627776), vl0 := Int.le_refl 0, vl1 := (by decide : (0 : Int) ≤ 1099511627776), ul0 := Int.le_refl 0, ul1 := (by decide : (0 : Int) ≤ 1099511627776) }
theorem Mt.Ok.limit {m : Mt} (h : m.Ok) (n : Int) (h0 : -9223372036854775808 ≤ n) (h1 : n ≤ 9223372036854775807) : (m.limit n).Ok := { h with lim0 := h0, lim1 := h1, on0 := fun e => of_decide_eq_true e }
/-- are so many units more than the limit -/
def Mt.past (m : Mt) (n : Int) : Bool := m.on && decide (m.lim - m.ul < n)
/-- Unit: what the meter holds behind it, and which error it raises -/
def Mt.unit (m : Mt) (n : Int) : Mt := if n < 1 then m else if m.past n then m else m.units n
def Mt.unitE (m : Mt) (n : Int) : Nat := if n < 1 then 0 else if m.past n then 11 else 0
theorem Mt.Ok.unit {m : Mt} (h : m.Ok) (n : Int) : (m.unit n).Ok := by
  unfold Mt.unit; split
  · exact h
  · split
    · exact h
    · exact h.units n
end Go.Proofs.YtgpfhgkphadgkaaDoor.meter
