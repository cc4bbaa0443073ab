/- SwarFd: several texts in one: plain facts and laws for the walks. No program is named. -/
import Derived.Test.YtmbdfoobnkanlaaDoorRows
import Derived.Test.YtmbdfoobnkanlaaDoorMath
import Derived.WalkKit
import Derived.ProofKit
import Derived.BigQuiet
import Derived.Deep.QuietTactic
import Derived.WalkSpells
import Derived.WalkLawsBesides
import Derived.RegionTactic
import Derived.LoopN
import Derived.Outline
import Derived.Lib.Hide
import Derived.ChangeKeysEq
import Derived.Laws.StructEq
import Derived.Maps.AppendAt
import Derived.LoopTactic

/-! ### The contracts of package swar's functions, of the two of math/bits that they call, and of the document's own lanes. Each call hands back what is said, and what was in memory is as it was. -/
namespace Go.Proofs.YtmbdfoobnkanlaaDoor.swar
open Go.ChangeShapes Go.WideShapes Go.ChangeAt Go.RowKit

theorem ret_int {k : IntKind} {a b : Int} (h : a = b) : Ending.returned (.int k a) = .returned (.int k b) := by rw [h]

theorem cases8 {k : Nat} (h : k < 8) : k = 0 ∨ k = 1 ∨ k = 2 ∨ k = 3 ∨ k = 4 ∨ k = 5 ∨ k = 6 ∨ k = 7 := by omega
/-- a word's lanes as an array's value -/
abbrev agg8 (a0 a1 a2 a3 a4 a5 a6 a7 : Nat) : Value := .agg #[.int .u8 a0, .int .u8 a1, .int .u8 a2, .int .u8 a3, .int .u8 a4, .int .u8 a5, .int .u8 a6, .int .u8 a7]
abbrev lanes8 (n : Nat) : Value := agg8 (ln n 0) (ln n 1) (ln n 2) (ln n 3) (ln n 4) (ln n 5) (ln n 6) (ln n 7)
/-- each lane as the walks spell it -/
theorem ln_div (n : Nat) : (n : Int) % 256 = (ln n 0 : Nat) ∧ (n : Int) / 256 % 256 = (ln n 1 : Nat) ∧ (n : Int) / 256 / 256 % 256 = (ln n 2 : Nat) ∧ (n : Int) / 256 / 256 / 256 % 256 = (ln n 3 : Nat) ∧
    (n : Int) / 256 / 256 / 256 / 256 % 256 = (ln n 4 : Nat) ∧ (n : Int) / 256 / 256 / 256 / 256 / 256 % 256 = (ln n 5 : Nat) ∧ (n : Int) / 256 / 256 / 256 / 256 / 256 / 256 % 256 = (ln n 6 : Nat) ∧
    (n : Int) / 256 / 256 / 256 / 256 / 256 / 256 / 256 % 256 = (ln n 7 : Nat) := by
  simp only [ln, Nat.reducePow]; omega
theorem ln_pow (n : Nat) (hn : n < 18446744073709551616) : (n : Int) % 256 = (ln n 0 : Nat) ∧ (n : Int) / 256 % 256 = (ln n 1 : Nat) ∧ (n : Int) / 65536 % 256 = (ln n 2 : Nat) ∧ (n : Int) / 16777216 % 256 = (ln n 3 : Nat) ∧
    (n : Int) / 4294967296 % 256 = (ln n 4 : Nat) ∧ (n : Int) / 1099511627776 % 256 = (ln n 5 : Nat) ∧ (n : Int) / 281474976710656 % 256 = (ln n 6 : Nat) ∧
    (n : Int) / 72057594037927936 = (ln n 7 : Nat) := by
  simp only [ln, Nat.reducePow]; omega
theorem cells5 : Tryd.prog.cellsOf 5 = 1 := by kernel_rfl
theorem info5 : (Tryd.prog.info? 5).isSome = true := by kernel_rfl
end Go.Proofs.YtmbdfoobnkanlaaDoor.swar

/-! ### SwarMasks: the document's own functions (lanes that are some byte, that are high, their mask, their list), and two lists compared. -/
namespace Go.Proofs.YtmbdfoobnkanlaaDoor.swar
open Go.ChangeShapes Go.WideShapes Go.ChangeAt Go.RowKit

theorem below_step {w W W' : World} (h : Below w.heap.size w W) (h' : Below W.heap.size W W') : Below w.heap.size w W' := h.trans (h'.mono h.size)
abbrev bagg8 (p0 p1 p2 p3 p4 p5 p6 p7 : Bool) : Value := .agg #[.bool p0, .bool p1, .bool p2, .bool p3, .bool p4, .bool p5, .bool p6, .bool p7]
abbrev row8 (n : Nat) : Array Value := #[.int .u8 (ln n 0 : Nat), .int .u8 (ln n 1 : Nat), .int .u8 (ln n 2 : Nat), .int .u8 (ln n 3 : Nat), .int .u8 (ln n 4 : Nat), .int .u8 (ln n 5 : Nat), .int .u8 (ln n 6 : Nat), .int .u8 (ln n 7 : Nat)]
/-- a lane of a mask that is made as far as k -/
def mkb (p : Bool) (i k : Nat) : Nat := if p = true ∧ i < k then 128 else 0
theorem mkb_lt (p : Bool) (i k : Nat) : mkb p i k < 256 := if_lt _
theorem mkb_0 (p : Bool) (i : Nat) : mkb p i 0 = 0 := by simp [mkb]
theorem mkb_other (p : Bool) (i k : Nat) (h : i ≠ k) : mkb p i k = mkb p i (k + 1) := by
  unfold mkb
  have e : (p = true ∧ i < k) = (p = true ∧ i < k + 1) := by apply propext; constructor <;> (rintro ⟨a, b⟩; exact ⟨a, by omega⟩)
  simp only [e]
theorem mkb_yes (k : Nat) : mkb true k (k + 1) = 128 := by simp [mkb]
theorem mkb_no (k j : Nat) : mkb false k j = 0 := by simp [mkb]
theorem mkb_all (p : Bool) (i : Nat) (h : i < 8) : mkb p i 8 = (if p = true then 128 else 0) := by
  unfold mkb; by_cases hp : p = true <;> simp [hp, h]
theorem cases9 {k : Nat} (h : k ≤ 8) : k = 0 ∨ k = 1 ∨ k = 2 ∨ k = 3 ∨ k = 4 ∨ k = 5 ∨ k = 6 ∨ k = 7 ∨ k = 8 := by omega
/-- the mask of eight marks -/
def maskN (p0 p1 p2 p3 p4 p5 p6 p7 : Bool) : Nat := pk8 (if p0 = true then 128 else 0) (if p1 = true then 128 else 0) (if p2 = true then 128 else 0) (if p3 = true then 128 else 0) (if p4 = true then 128 else 0) (if p5 = true then 128 else 0) (if p6 = true then 128 else 0) (if p7 = true then 128 else 0)
end Go.Proofs.YtmbdfoobnkanlaaDoor.swar
