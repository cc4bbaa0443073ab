/- DualIM: several texts in one: plain facts and laws for the walks. No program is named. -/
import Derived.Test.YtapndkabgjeofaaGreatDoorEvacInv

/-! ### dual: all tables together are one partial function, which no step changes; how many entries there may be. -/
namespace Go.Proofs.YtapndkabgjeofaaGreatDoor.evac
open Go.ChangeShapes Go.WideShapes Go.ChangeAt Go.RowKit Go.Shelf swar under trap meter group probe lens tail call table
set_option linter.unusedSimpArgs false
set_option linter.unusedVariables false

/-- a partial function in several tables: each key in the old one or in its target; c bounds what a target may come to -/
structure Du (H:Nat → Nat) (la N d:Nat) (F:Nat → Option Nat) (t:Nat → Tb) (M:Nat → Nat → Option Nat) (c:Nat):Prop where
 rep:∀ i,i < N → RepN H la (t i) (M i)
 tg:∀ i,1 ≤ i → i < N → ∀ key,(M i key).isSome = true → tgt N d (H key) = i
 one:∀ key,(M 0 key).isSome = true → M (tgt N d (H key)) key = none
 un:∀ key,F key = (M 0 key).or (M (tgt N d (H key)) key)
 cn:∀ i,1 ≤ i → i < N → (t 0).len + (t i).len + (t i).tombs ≤ (c:Int)
/-- within a step: the entries of one group are put into their targets, and still stand in the old table -/
structure MidV (H:Nat → Nat) (la N d:Nat) (t0:Nat → Tb) (M:Nat → Nat → Option Nat) (D:Nat → Prop) (k:Nat) (t:Nat → Tb) (M':Nat → Nat → Option Nat):Prop where
 zero:t 0 = t0 0
 rep:∀ i,1 ≤ i → i < N → RepN H la (t i) (M' i)
 old:∀ i,1 ≤ i → i < N → ∀ key,¬ (D key ∧ tgt N d (H key) = i) → M' i key = M i key
 new:∀ i,1 ≤ i → i < N → ∀ key,D key → tgt N d (H key) = i → M' i key = M 0 key
 cn:∀ i,1 ≤ i → i < N → (t i).len + (t i).tombs ≤ (t0 i).len + (t0 i).tombs + (k:Int)
 n:∀ i,(t i).n = (t0 i).n
section
variable {H:Nat → Nat} {la N d c:Nat} {F:Nat → Option Nat} {t:Nat → Tb} {M:Nat → Nat → Option Nat}
/-! ### a key is put, or deleted -/
/-- the tables' functions, one of them changed -/
def upM (M:Nat → Nat → Option Nat) (i:Nat) (m:Nat → Option Nat):Nat → Nat → Option Nat:=fun j => if j = i then m else M j
end
end Go.Proofs.YtapndkabgjeofaaGreatDoor.evac

/-! ### dual: where a key is found, what a Put and a Delete come to: the plain mathematics. No function is walked here. -/
namespace Go.Proofs.YtapndkabgjeofaaGreatDoor.dual
open group probe swar table evac
set_option linter.unusedSimpArgs false
set_option linter.unusedVariables false

/-- the tables in which a key is looked for, in order -/
def js (rd:Bool) (N d h:Nat):List Nat:=if rd = true then [tgt N d h,0] else [0]
theorem js_le (rd:Bool) (N d h:Nat):1 ≤ (js rd N d h).length ∧ (js rd N d h).length ≤ 2:=by cases rd <;> simp [js]
/-- the first of the tables that has a key -/
def fnd (t:Nat → Tb) (key h:Nat):List Nat → Option Nat
 | [] => none
 | i :: l => if isThere (t i) key h = true then some i else fnd t key h l
/-- how many groups are looked at for it -/
def fndK (t:Nat → Tb) (key h:Nat):List Nat → Nat
 | [] => 0
 | i :: l => looks (t i) key h + if isThere (t i) key h = true then 0 else fndK t key h l
/-- its entry -/
def fndE (t:Nat → Tb) (key h:Nat) (l:List Nat):Sl:=match fnd t key h l with
 | some i => entOf (t i) key h
 | none => ⟨1,0,0,0⟩
section
variable {t:Nat → Tb} {key h:Nat}
theorem fnd_pre:∀ {pre:List Nat},(∀ i ∈ pre,isThere (t i) key h = false) → ∀ l,fnd t key h (pre ++ l) = fnd t key h l ∧ fndK t key h (pre ++ l) = fndK t key h pre + fndK t key h l
 | [],_,l => ⟨rfl,by simp [fndK]⟩
 | i :: pre,hp,l => by
  obtain ⟨a,b⟩:=fnd_pre (pre:=pre) (fun j hj => hp j (List.mem_cons_of_mem _ hj)) l
  have hi:=hp i List.mem_cons_self
  refine ⟨?_, ?_⟩
  ·show (if isThere (t i) key h = true then some i else fnd t key h (pre ++ l)) = _
   rw [if_neg (by rw [hi]; decide)]; exact a
  ·show looks (t i) key h + (if isThere (t i) key h = true then 0 else fndK t key h (pre ++ l)) = looks (t i) key h + (if isThere (t i) key h = true then 0 else fndK t key h pre) + _
   rw [if_neg (by rw [hi]; decide),if_neg (by rw [hi]; decide),b]; omega
theorem fndK_one (i:Nat):fndK t key h [i] = looks (t i) key h:=by unfold fndK; simp [fndK]
/-- behind some tables that don't have it, one that does -/
theorem fnd_at {l:List Nat} {j:Nat} (hj:j < l.length) (hp:∀ i ∈ l.take j,isThere (t i) key h = false) (ht:isThere (t l[j]) key h = true):fnd t key h l = some l[j] ∧ fndK t key h l = fndK t key h (l.take j) + looks (t l[j]) key h:=by
 have e:l = l.take j ++ (l[j] :: l.drop (j + 1)):=by rw [← List.drop_eq_getElem_cons hj,List.take_append_drop]
 obtain ⟨a,b⟩:=fnd_pre hp (l[j] :: l.drop (j + 1))
 rw [← e] at a b
 refine ⟨?_, ?_⟩
 ·rw [a]; unfold fnd; rw [if_pos ht]
 ·rw [b]; congr 1; conv => lhs; unfold fndK
  rw [if_pos ht]; rfl
theorem fnd_off {l:List Nat} (hp:∀ i ∈ l,isThere (t i) key h = false):fnd t key h l = none:=by
 have:=(fnd_pre hp []).1
 rw [List.append_nil] at this
 rw [this]; rfl
theorem fnd_some {l:List Nat} {i:Nat} (hf:fnd t key h l = some i):i ∈ l ∧ isThere (t i) key h = true:=by
 induction l with
 | nil => cases hf
 | cons x l ih =>
  unfold fnd at hf
  split at hf
  ·next hx =>
   injection hf with hf
   subst hf
   exact ⟨List.mem_cons_self,hx⟩
  ·obtain ⟨a,b⟩:=ih hf
   exact ⟨List.mem_cons_of_mem _ a,b⟩
theorem fndK_snoc {l:List Nat} {j:Nat} (hj:j < l.length) (hp:∀ i ∈ l.take j,isThere (t i) key h = false):fndK t key h (l.take (j + 1)) = fndK t key h (l.take j) + looks (t l[j]) key h:=by
 rw [take_next l hj,(fnd_pre hp [l[j]]).2,fndK_one]
theorem off_snoc {l:List Nat} {j:Nat} (hj:j < l.length) (hp:∀ i ∈ l.take j,isThere (t i) key h = false) (ht:isThere (t l[j]) key h = false):∀ i ∈ l.take (j + 1),isThere (t i) key h = false:=fun i hi => by
 rw [take_next l hj] at hi
 rcases List.mem_append.1 hi with hi | hi
 ·exact hp i hi
 ·obtain rfl:i = l[j]:=by simpa using hi
  exact ht
end
/-! ### Put, Delete -/
/-- the table that a Put changes -/
def dI (t:Nat → Tb) (key h:Nat) (l:List Nat):Nat:=(fnd t key h l).getD (l.headD 0)
def dT (t:Nat → Tb) (key h v:Nat) (l:List Nat) (more:Bool):Nat → Tb:=if ((fnd t key h l).isSome || more) = true then up t (dI t key h l) ((t (dI t key h l)).puts key h v) else t
def dB (t:Nat → Tb) (key h:Nat) (l:List Nat) (more:Bool):Bool:=!(fnd t key h l).isSome && more && putB' (t (dI t key h l)) key h
def dE (t:Nat → Tb) (key h:Nat) (l:List Nat) (more:Bool):Nat:=if (fnd t key h l).isSome = true then 0 else if more = true then putE' (t (dI t key h l)) key h else 2
def eT (t:Nat → Tb) (key h:Nat) (l:List Nat):Nat → Tb:=match fnd t key h l with
 | some i => up t i ((t i).remove key h)
 | none => t
end Go.Proofs.YtapndkabgjeofaaGreatDoor.dual
namespace Go.Proofs.YtapndkabgjeofaaGreatDoor.evac
open group probe swar table dual
set_option linter.unusedSimpArgs false
set_option linter.unusedVariables false
section
variable {H:Nat → Nat} {la N d c n1:Nat} {F:Nat → Option Nat} {t:Nat → Tb} {M:Nat → Nat → Option Nat} {rd:Bool}
end
end Go.Proofs.YtapndkabgjeofaaGreatDoor.evac
