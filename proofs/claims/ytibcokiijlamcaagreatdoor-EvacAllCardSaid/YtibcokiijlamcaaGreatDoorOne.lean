/- One: a region that draws its order: some operations that read, then one call that may write, then some that are quiet again: one walk in the text's order. No program is named. -/
import Derived.Test.YtibcokiijlamcaaGreatDoorKit
import Derived.RegionTactic
namespace Go.Proofs.YtibcokiijlamcaaGreatDoor.one
open Go Go.RowKit tail under
variable {P : Program}

theorem cnt_false (m : List Bool) : ∀ k : Nat, cnt (List.replicate k false ++ m) = cnt m
  | 0 => rfl
  | k + 1 => by rw [List.replicate_succ, List.cons_append]; exact cnt_false m k
theorem cnt_true : ∀ k : Nat, cnt (List.replicate k true) = k
  | 0 => rfl
  | k + 1 => by rw [List.replicate_succ]; show cnt _ + 1 = _; rw [cnt_true k]
theorem sel_false (m : List Bool) : ∀ (k : Nat) (l : List Oper), k ≤ l.length → sel (List.replicate k false ++ m) l = sel m (l.drop k)
  | 0, l, _ => rfl
  | k + 1, [], h => absurd h (by simp)
  | k + 1, o :: l, h => by
    rw [List.replicate_succ, List.cons_append]
    show sel (List.replicate k false ++ m) l = _
    rw [sel_false m k l (by simpa using h), List.drop_succ_cons]
/-- what comes behind the call: quiet operations -/
theorem rest {l : List Oper} (k : Nat) {g : Nat} {S : Array Bool} {a : Act} {w : World} {Q : Exit → Act → World → Prop} (hB : checkB .any l.toArray (List.replicate k false ++ List.replicate g true) S = true) (hl : l.length = k + g) (hend : Region.ready .any l.toArray (setAll (List.replicate k false ++ List.replicate g true) 0 S) = [])
    (h : wpQuiet P l.toArray (fun w' => ∃ n : Under w, w' = n.W) (fun a' => ∀ n : Under w, Q .normal a' n.W) (l.drop k) a) : wpAny P .any l.toArray Q g S a w := by
  have e1 : cnt (List.replicate k false ++ List.replicate g true) + 0 = g := by rw [cnt_false, cnt_true]; rfl
  have e2 : sel (List.replicate k false ++ List.replicate g true) l = l.drop k := by
    rw [sel_false _ _ _ (by omega), sel_all, List.take_of_length_le (by simp; omega)]
  have H := wpAny_head (P := P) (md := .any) (C := fun w' => ∃ n : Under w, w' = n.W) (Q' := Q) (g := 0) (List.replicate k false ++ List.replicate g true) (l := l) (listed := S) (a := a) (w := w) hB ⟨⟨w, Below.refl _ _⟩, rfl⟩ (by
    rw [e2]
    refine quiet_mono (fun a' ha w' hw' => ?_) _ _ h
    obtain ⟨n, rfl⟩ := hw'
    exact ⟨hend, ha n⟩)
  rw [e1] at H
  exact H
def S1 (l : List Oper) (k : Nat) : Array Bool := setAll (List.replicate k true) 0 (Array.replicate l.length false)
def oneB (l : List Oper) (k : Nat) : Bool :=
  checkB .any l.toArray (List.replicate k true) (Array.replicate l.length false) && decide (k < l.length) && decide (Region.ready .any l.toArray (S1 l k) = [k]) &&
  checkB .any l.toArray (List.replicate (k + 1) false ++ List.replicate (l.length - k - 1) true) ((S1 l k).setIfInBounds k true) &&
  decide (Region.ready .any l.toArray (setAll (List.replicate (k + 1) false ++ List.replicate (l.length - k - 1) true) 0 ((S1 l k).setIfInBounds k true)) = [])
/-- A region whose first k operations are quiet, whose next one may do anything, and whose others, behind it, are quiet. -/
theorem wp_region_one {id : Nat} {Q : Exit → Act → World → Prop} {a : Act} {w : World} {l : List Oper} (k : Nat) (o : Oper) (hm : P.follows .mixedOrders = true) (hB : oneB l k = true) (ho : l[k]? = some o)
    (h : wpQuiet P l.toArray (fun w' => ∃ n : Under w, w' = n.W) (fun a' => ∀ (n : Under w) (K : Act → World → Prop), (∀ a2 w2, wpQuiet P l.toArray (fun w' => ∃ n : Under w2, w' = n.W) (fun a3 => ∀ n : Under w2, Q .normal a3 n.W) (l.drop (k + 1)) a2 → K a2 w2) → if Region.wanted o (yielded l.toArray a'.tmps) = true then Oper.wp P o a' n.W K Q else K (a'.put o.dst undef) n.W) (l.take k) a) : (Code.region id l.toArray true).wp P Q a w := by
  unfold oneB at hB
  simp only [Bool.and_eq_true, decide_eq_true_eq] at hB
  obtain ⟨⟨⟨⟨h1, h2⟩, h3⟩, h4⟩, h5⟩ := hB
  refine wp_region_any hm ?_
  have H := wpAny_head (P := P) (md := .any) (C := fun w' => ∃ n : Under w, w' = n.W) (Q' := Q) (g := l.length - k) (List.replicate k true) (l := l) (listed := Array.replicate l.length false) (a := a) (w := w.drew) h1 ⟨⟨w.drew, drew_below w⟩, rfl⟩ (by
    rw [sel_all]
    refine quiet_mono (fun a' ha w' hw' => ?_) _ _ h
    obtain ⟨n, rfl⟩ := hw'
    rw [show l.length - k = (l.length - k - 1) + 1 by omega]
    refine wpAny_ready h3 (by simp) (AllReady.cons (o := o) (by simpa using ho) (fun K hK => ?_) AllReady.nil)
    exact ha n K fun a2 w2 hq => hK a2 w2 (rest (k + 1) h4 (by omega) h5 hq))
  rw [cnt_true, show k + (l.length - k) = l.length by omega] at H
  simpa using H
end Go.Proofs.YtibcokiijlamcaaGreatDoor.one
