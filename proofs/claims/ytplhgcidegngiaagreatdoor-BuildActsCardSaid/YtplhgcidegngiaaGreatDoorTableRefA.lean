/- TableRefA: several texts in one: plain facts and laws for the walks. No program is named. -/
import Derived.Test.YtplhgcidegngiaaGreatDoorTableMath
import Derived.Test.YtplhgcidegngiaaGreatDoorTablePart
import Derived.Test.YtplhgcidegngiaaGreatDoorGroupDoc
import Derived.Test.YtplhgcidegngiaaGreatDoorProbeDoc
import Derived.Test.YtplhgcidegngiaaGreatDoorTableText
import Derived.LoopTactic
import Derived.Deep.RegionHeld3
import Derived.Deep.AppendLies
import Derived.Deep.CutRange
import Derived.Deep.CutBlock
import Derived.Test.YtplhgcidegngiaaGreatDoorTableSeek0

/-! ### table: the document's table (amblerref09): what lies in memory; New. -/
namespace Go.Proofs.YtplhgcidegngiaaGreatDoor.table
open Go.ChangeShapes Go.WideShapes Go.ChangeAt Go.RowKit Go.Shelf swar under trap meter group probe lens tail call
attribute [local go_sem] Oper.semAt_some stage.pureUpon move.stepUpon
set_option linter.unusedSimpArgs false
set_option linter.unusedVariables false

/-- where the document's table lies: its own block, the row of its groups, how many may stand there, each group's block -/
structure Rf where
  R : Nat
  G : Nat
  c : Nat
  Q : Nat → Nat
/-- the blocks that are written to -/
def Rf.d (f : Rf) (n : Nat) : List Nat := f.R :: (List.range n).map f.Q
theorem Rf.mem {f : Rf} {n b : Nat} : b ∈ f.d n ↔ b = f.R ∨ ∃ i, i < n ∧ f.Q i = b := by simp [Rf.d]
section
variable {f : Rf} {t t' : Tb} {k k' : Nat} {w w' : World}
end
section
variable {f : Rf} {t t' t'' : Tb} {k k' k'' : Nat} {w w' w'' x y z : World}
end
/-! ### New -/
def ptr (b : Nat) : Value := .pointer (some ⟨b, 0, none⟩)
end Go.Proofs.YtplhgcidegngiaaGreatDoor.table

/-! ### table: the document's table: New, Count, Left. -/
namespace Go.Proofs.YtplhgcidegngiaaGreatDoor.table
open Go.ChangeShapes Go.WideShapes Go.ChangeAt Go.RowKit Go.Shelf swar under trap meter group probe lens tail call
attribute [local go_sem] Oper.semAt_some stage.pureUpon move.stepUpon
set_option linter.unusedSimpArgs false
set_option linter.unusedVariables false

end Go.Proofs.YtplhgcidegngiaaGreatDoor.table

/-! ### table: the document's table: Count, Left, Where. -/
namespace Go.Proofs.YtplhgcidegngiaaGreatDoor.table
open Go.ChangeShapes Go.WideShapes Go.ChangeAt Go.RowKit Go.Shelf swar under trap meter group probe lens tail call
attribute [local go_sem] Oper.semAt_some stage.pureUpon move.stepUpon
set_option linter.unusedSimpArgs false
set_option linter.unusedVariables false

theorem sumN_le8 (c : Nat) (t : Tb) : ∀ k, sumN k (fun i => count c (t.gs i)) ≤ 8 * k := fun k => sumN_le fun i _ => count_le c _
end Go.Proofs.YtplhgcidegngiaaGreatDoor.table

/-! ### table: the document's table: Where. -/
namespace Go.Proofs.YtplhgcidegngiaaGreatDoor.table
open Go.ChangeShapes Go.WideShapes Go.ChangeAt Go.RowKit Go.Shelf swar under trap meter group probe lens tail call
attribute [local go_sem] Oper.semAt_some stage.pureUpon move.stepUpon
set_option linter.unusedSimpArgs false
set_option linter.unusedVariables false

/-! ### the first place with a free slot -/
def frI (t : Tb) (l : List Nat) : Int := match l.find? (free t) with | some i => ((i : Nat) : Int) | none => -1
def frK (t : Tb) (l : List Nat) : Int := match l.find? (free t) with | some i => least (t.gs i) | none => -1
theorem fr_keep {t : Tb} {l : List Nat} (x : Nat) (h : ¬ frI t l < 0) : frI t (l ++ [x]) = frI t l ∧ frK t (l ++ [x]) = frK t l := by
  unfold frI at h
  unfold frI frK
  rw [List.find?_append]
  cases hf : l.find? (free t) with
  | some i => exact ⟨rfl, rfl⟩
  | none => rw [hf] at h; exact absurd (by decide) h
theorem fr_none {t : Tb} {l : List Nat} (h : frI t l < 0) : l.find? (free t) = none := by
  unfold frI at h
  cases hf : l.find? (free t) with
  | some i => rw [hf] at h; simp only at h; omega
  | none => rfl
theorem fr_new {t : Tb} {l : List Nat} {x : Nat} (h : frI t l < 0) (hx : 0 ≤ least (t.gs x)) : frI t (l ++ [x]) = (x : Nat) ∧ frK t (l ++ [x]) = least (t.gs x) := by
  have hf := fr_none h
  have e : free t x = true := decide_eq_true hx
  unfold frI frK
  rw [List.find?_append, hf, List.find?_cons_of_pos e]
  exact ⟨rfl, rfl⟩
theorem fr_no {t : Tb} {l : List Nat} {x : Nat} (hx : ¬ 0 ≤ least (t.gs x)) : frI t (l ++ [x]) = frI t l ∧ frK t (l ++ [x]) = frK t l := by
  by_cases h : frI t l < 0
  · have hf := fr_none h
    have e : ¬ free t x = true := by unfold free; rw [decide_eq_true_eq]; exact hx
    unfold frI frK
    rw [List.find?_append, hf, List.find?_cons_of_neg e]
    exact ⟨rfl, rfl⟩
  · exact fr_keep x h
/-! ### the walk, place by place -/
def preW (t : Tb) (h j : Nat) : List Nat := (path t h).take j
theorem preW_succ {t : Tb} {h j : Nat} (hj : j < t.n) : preW t h (j + 1) = preW t h j ++ [plc (h / 128) t.n j] := by
  unfold preW path
  rw [List.take_add_one, wl_get _ _ _ hj]; rfl
theorem preW_prefix (t : Tb) (h j : Nat) : preW t h j <+: path t h := List.take_prefix _ _
theorem preW_all (t : Tb) (h : Nat) : preW t h t.n = path t h := List.take_of_length_le (by unfold path; rw [wl_length]; omega)
theorem preW_length {t : Tb} {h j : Nat} (hj : j ≤ t.n) : (preW t h j).length = j := by
  unfold preW path; rw [List.length_take, wl_length]; omega
theorem sn_stop {t : Tb} {key h j : Nat} (hj : j < t.n) (hn : ∀ i ∈ preW t h j, stp t key h i = false) (hs : stp t key h (plc (h / 128) t.n j) = true) : sn t key h = preW t h (j + 1) := by
  have hp := preW_prefix t h (j + 1)
  rw [preW_succ hj] at hp ⊢
  exact seen_at hs hp hn
theorem sn_all {t : Tb} {key h : Nat} (hn : ∀ i ∈ preW t h t.n, stp t key h i = false) : sn t key h = preW t h t.n := by
  rw [preW_all] at hn ⊢; exact seen_all hn
def atI (t : Tb) (key h : Nat) : Int := if isThere t key h = true then ((lastG t key h : Nat) : Int) else -1
theorem last_stop {t : Tb} {key h j : Nat} (hj : j < t.n) (hs : sn t key h = preW t h (j + 1)) : lastG t key h = plc (h / 128) t.n j ∧ slot t key h = find key h (t.gs (plc (h / 128) t.n j)) ∧ looks t key h = j + 1 := by
  have e : lastG t key h = plc (h / 128) t.n j := by unfold lastG; rw [hs, preW_succ hj, lastOf_snoc]
  exact ⟨e, by unfold slot; rw [e], by unfold looks; rw [hs, preW_length (by omega)]⟩
theorem at_none {t : Tb} {key h : Nat} (hs : slot t key h < 0) : atI t key h = -1 ∧ slot t key h = -1 := by
  have e : isThere t key h = false := by unfold isThere; exact decide_eq_false (by omega)
  exact ⟨by unfold atI; rw [e]; rfl, slot_neg e⟩
theorem at_some {t : Tb} {key h : Nat} (hs : 0 ≤ slot t key h) : atI t key h = (lastG t key h : Nat) := by
  have e : isThere t key h = true := by unfold isThere; exact decide_eq_true hs
  unfold atI; rw [e]; rfl
/-- nothing was found on the whole walk -/
theorem slot_all {t : Tb} {key h : Nat} (hn : okN t.n) (hs : sn t key h = preW t h t.n) (no : ∀ i ∈ preW t h t.n, stp t key h i = false) : slot t key h < 0 := by
  have hm := lastG_mem t key h hn
  rw [hs] at hm
  have := no _ hm
  unfold stp at this
  rw [Bool.or_eq_false_iff, decide_eq_false_iff_not] at this
  unfold slot; omega
/-! ### an array of two in a block of its own -/
section
variable {X : Nat} {a b : Int} {W W' : World}
end
section
variable {w : World} {f : Rf} {t : Tb} {kj key h X g j : Nat} {fi fk : Int} {W W' : World}
end
end Go.Proofs.YtplhgcidegngiaaGreatDoor.table
