/- Probe: several texts in one: plain facts and laws for the walks. No program is named. -/
import Derived.Test.YthnihnnonjodjaaDoorRows
import Derived.Test.YthnihnnonjodjaaDoorMath
import Derived.WalkKit
import Derived.ProofKit
import Derived.BigQuiet
import Derived.Deep.QuietTactic
import Derived.WalkSpells
import Derived.WalkLawsBesides
import Derived.RegionTactic
import Derived.LoopN
import Derived.Outline
import Derived.Lib.Hide
import Derived.RangeFuncNested
import Derived.RangeFuncBound
import Derived.RangeFuncCalls
import Derived.RangeFuncLeaves
import Derived.RangeFuncBox
import Derived.Shelf.Abstract
import Derived.Shelf.RegionOpen
import Derived.OwnWalkIn
import Derived.TacticsInMore
import Derived.LoopNIn
import Derived.LoopIn

/-! ### The contracts of package probe's functions but for the walk: each call hands back what is said, and memory is as it was. -/
namespace Go.Proofs.YthnihnnonjodjaaDoor.probe
open Go.ChangeShapes Go.WideShapes Go.ChangeAt Go.RowKit

theorem ret_int {k : IntKind} {a b : Int} (h : a = b) : Ending.returned (.int k a) = .returned (.int k b) := by rw [h]

theorem right_yes (n : Nat) (h : okN n) (w : World) :
    Calls Tryd.prog 16 #[.int .i64 n] w fun e w' => e = .returned (.bool true) ∧ w = w' := by
  have hp := okN_pos h
  have hl := okN_le h
  have ha := (and_ok n (by omega) hp).2 h
  go_enter Tryd.func16, Tryd.ntmps16
  go_wp2
  all_goals (go_ret; exact ⟨by simp_all, rfl⟩)
theorem right_no (g : Int) (h : ¬ ∃ n : Nat, g = n ∧ okN n) (w : World) :
    Calls Tryd.prog 16 #[.int .i64 g] w fun e w' => e = .returned (.bool false) ∧ w = w' := by
  by_cases h0 : 0 < g
  · by_cases h1 : g ≤ 64
    · obtain ⟨n, rfl⟩ := Int.eq_ofNat_of_zero_le (show 0 ≤ g by omega)
      have hx : ¬ bits .and .i64 (n : Int) ((n : Int) - 1) = 0 := fun e => h ⟨n, rfl, (and_ok n (by omega) (by omega)).1 e⟩
      have hb : (bits .and .i64 (n : Int) ((n : Int) - 1) == 0) = false := by rw [beq_eq_false_iff_ne]; exact hx
      clear h hx
      go_enter Tryd.func16, Tryd.ntmps16
      go_wp2
      all_goals (go_ret; exact ⟨by simp_all, rfl⟩)
    · clear h
      go_enter Tryd.func16, Tryd.ntmps16
      go_wp2
      all_goals (go_ret; exact ⟨by simp_all, rfl⟩)
  · clear h
    go_enter Tryd.func16, Tryd.ntmps16
    go_wp2
    all_goals (go_ret; exact ⟨by simp_all, rfl⟩)
theorem wrapu_nat (x : Nat) : IntKind.u64.wrap (x : Int) = ((x % 18446744073709551616 : Nat) : Int) := by
  simp [IntKind.wrap, IntKind.signed, IntKind.bits]
theorem i64_nat (n : Nat) (h : n < 9223372036854775808) : wrap64 (n : Int) = (n : Int) := Go.IntWalk.wrap64_in _ (by omega)
theorem place_bits (h n i : Nat) (hok : okN n) (hi : i < n) :
    wrap64 ((IntKind.u64.wrap ((h : Int) + IntKind.u64.wrap (wrap64 ((wrap64 ((i : Int) * ((i : Int) + 1))).tdiv 2)))).tmod (n : Int)) = ((plc h n i : Nat) : Int) := by
  have hp := okN_pos hok
  have hl := okN_le hok
  have hm : i * (i + 1) ≤ 63 * 64 := Nat.mul_le_mul (by omega) (by omega)
  have hlt := plc_lt (h := h) (i := i) hp
  rw [show (i : Int) * ((i : Int) + 1) = ((i * (i + 1) : Nat) : Int) by simp, i64_nat _ (by omega), show (2 : Int) = ((2 : Nat) : Int) from rfl, ← Int.ofNat_tdiv, i64_nat _ (by omega), wrapu_nat,
    ← Int.natCast_add, wrapu_nat, ← Int.ofNat_tmod, Nat.mod_eq_of_lt (show i * (i + 1) / 2 < 18446744073709551616 by omega), plc_wrap hok, i64_nat _ (by omega)]
end Go.Proofs.YthnihnnonjodjaaDoor.probe

/-! ### The iterator of package probe: 'Walk', for every loop body. -/
namespace Go.Proofs.YthnihnnonjodjaaDoor.probe
open Go.ChangeShapes Go.WideShapes Go.ChangeAt Go.RowKit Go.Shelf
attribute [local go_sem] Oper.semAt_some

/-- the places of a walk as far as place number j -/
def wlj (h n j : Nat) : List Nat := (List.range j).map (plc h n)
theorem wlj_succ (h n j : Nat) : wlj h n (j + 1) = wlj h n j ++ [plc h n j] := by simp [wlj, List.range_succ]
theorem wlj_length (h n j : Nat) : (wlj h n j).length = j := by simp [wlj]
theorem wlj_prefix (h n j : Nat) (hj : j ≤ n) : wlj h n j <+: wl h n := by
  unfold wlj wl
  obtain ⟨d, rfl⟩ := Nat.exists_eq_add_of_le hj
  rw [List.range_add, List.map_append]
  exact ⟨_, rfl⟩

/-- the iterator's two boxes hold what they held -/
def KeepB (Bg Bh : Nat) (W W' : World) : Prop := W'.cell? ⟨Bg, 0, none⟩ = W.cell? ⟨Bg, 0, none⟩ ∧ W'.cell? ⟨Bh, 0, none⟩ = W.cell? ⟨Bh, 0, none⟩
theorem keepB_t {Bg Bh : Nat} {A B C : World} (h : KeepB Bg Bh A B) (k : KeepB Bg Bh B C) : KeepB Bg Bh A C := ⟨k.1.trans h.1, k.2.trans h.2⟩
theorem keepB_b {Bg Bh : Nat} {w : World} (hg : Bg < w.heap.size) (hh : Bh < w.heap.size) (W : World) (l : Nat) (o o' : Obj) (hl : w.heap.size ≤ l) (_ : W.heap[l]? = some o) (_ : o.isCells = false) (_ : o.isWalk = false) : KeepB Bg Bh W (W.putObj l o') :=
  ⟨World.cell?_of_block (World.putObj_heap_other (by simp; omega)), World.cell?_of_block (World.putObj_heap_other (by simp; omega))⟩
theorem keepB_below {Bg Bh n0 : Nat} {W W' : World} (hg : Bg < n0) (hh : Bh < n0) (h : Below n0 W W') : KeepB Bg Bh W W' := ⟨h.cell (p := ⟨Bg, 0, none⟩) hg, h.cell (p := ⟨Bh, 0, none⟩) hh⟩

theorem stops_weaken {P : Program} {n g : Nat} {lb : Array Value} {encs : Nat → Array Value} {Kp Kp' : World → World → Prop} {S Sp : List Nat → Prop} {N : Nat} {w : World} (hs : SeqStopsK Fence.wide n P g lb encs Kp S Sp N w) (hk : ∀ W W', Kp' W W' → Kp W W') :
    SeqStopsK Fence.wide n P g lb encs Kp' S Sp N w := fun l J Jx W hW hJ hJx hY h0 =>
  hs l J Jx W hW hJ hJx (fun pre x W1 hj hl => (hY pre x W1 hj hl).mono fun _ _ hR => hR.imp (fun ⟨a, b, c⟩ => ⟨a, b, hk _ _ c⟩) id) h0
end Go.Proofs.YthnihnnonjodjaaDoor.probe

/-! ### The iterator of package probe, for every loop body that is told a place below the number of groups. -/
namespace Go.Proofs.YthnihnnonjodjaaDoor.probe
open Go.ChangeShapes Go.WideShapes Go.ChangeAt Go.RowKit Go.Shelf
attribute [local go_sem] Oper.semAt_some

/-- the places of a walk as far as place number j, as numbers below n -/
def wljF (h n : Nat) (hn : 0 < n) (j : Nat) : List (Fin n) := (List.range j).map fun i => ⟨plc h n i, plc_lt hn⟩
theorem wljF_succ (h n : Nat) (hn : 0 < n) (j : Nat) : wljF h n hn (j + 1) = wljF h n hn j ++ [⟨plc h n j, plc_lt hn⟩] := by simp [wljF, List.range_succ]
theorem wljF_length (h n : Nat) (hn : 0 < n) (j : Nat) : (wljF h n hn j).length = j := by simp [wljF]
theorem wljF_val (h n : Nat) (hn : 0 < n) (j : Nat) : (wljF h n hn j).map Fin.val = wlj h n j := by simp [wljF, wlj, Function.comp_def]
end Go.Proofs.YthnihnnonjodjaaDoor.probe
