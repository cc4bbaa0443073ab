/- evac: what is in the tables, as partial functions, while groups are moved: the plain mathematics. No function is walked here. -/
import Derived.Test.YtapndkabgjeofaaGreatDoorEvac
import Derived.Test.YtapndkabgjeofaaGreatDoorTabEnt
namespace Go.Proofs.YtapndkabgjeofaaGreatDoor.evac
open group probe swar table
set_option linter.unusedSimpArgs false
set_option linter.unusedVariables false

/-! ### a group is taken -/
/-- the keys that stand in a group -/
def inG (t:Tb) (a:Nat) (key:Nat):Prop:=∃ k,Stands t key a k
/-! ### all tables -/
/-- what is in them: each key of U in the old table or in its target -/
structure Sta (H:Nat → Nat) (la N d:Nat) (U:Nat → Bool) (t:Nat → Tb) (M:Nat → Nat → Option Nat):Prop where
 rep:∀ i,i < N → RepN H la (t i) (M i)
 val:∀ i,i < N → ∀ key v,M i key = some v → v = key + 5
 tg:∀ i,1 ≤ i → i < N → ∀ key,(M i key).isSome = true → tgt N d (H key) = i
 one:∀ key,(M 0 key).isSome = true → M (tgt N d (H key)) key = none
 un:∀ key,U key = ((M 0 key).isSome || (M (tgt N d (H key)) key).isSome)
 tb:∀ i,1 ≤ i → i < N → (t i).tombs = 0
/-- within a step: the entries of one group are put into their targets, and still stand in the old table -/
structure Mid (H:Nat → Nat) (la N d:Nat) (t0:Nat → Tb) (M:Nat → Nat → Option Nat) (D:Nat → Prop) (t:Nat → Tb) (M':Nat → Nat → Option Nat):Prop where
 zero:t 0 = t0 0
 rep:∀ i,1 ≤ i → i < N → RepN H la (t i) (M' i)
 old:∀ i,1 ≤ i → i < N → ∀ key,¬ (D key ∧ tgt N d (H key) = i) → M' i key = M i key
 new:∀ i,1 ≤ i → i < N → ∀ key,D key → tgt N d (H key) = i → M' i key = M 0 key
 tb:∀ i,1 ≤ i → i < N → (t i).tombs = 0
 n:∀ i,(t i).n = (t0 i).n
section
variable {H:Nat → Nat} {la N d:Nat} {U:Nat → Bool} {t:Nat → Tb} {M:Nat → Nat → Option Nat}
/-- so many groups of the old table have no entries -/
def Off (t:Tb) (c:Nat):Prop:=∀ g,g < c → ∀ k,k < 8 → (t.gs g k).kind ≠ 3
end
/-! ### how a case's tables come to be -/
/-- first entries are put into the old table, then, of keys that aren't there, into their targets -/
inductive Reach (hz:Nat → Nat) (la N d:Nat) (t0:Nat → Tb):Bool → Nat → (Nat → Tb) → Prop
 | new:Reach hz la N d t0 false 0 t0
 | old {n:Nat} {t:Nat → Tb} {key:Nat}:Reach hz la N d t0 false n t → key < la → Reach hz la N d t0 false (n + 1) (up t 0 ((t 0).puts key (hz key) (key + 5)))
 | turn {n:Nat} {t:Nat → Tb}:Reach hz la N d t0 false n t → Reach hz la N d t0 true n t
 | more {n:Nat} {t:Nat → Tb} {key:Nat}:Reach hz la N d t0 true n t → key < la → isThere (t 0) key (hz key) = false → Reach hz la N d t0 true (n + 1) (up t (tgt N d (hz key)) ((t (tgt N d (hz key))).puts key (hz key) (key + 5)))
 | skip {n:Nat} {t:Nat → Tb}:Reach hz la N d t0 true n t → Reach hz la N d t0 true (n + 1) t
end Go.Proofs.YtapndkabgjeofaaGreatDoor.evac
