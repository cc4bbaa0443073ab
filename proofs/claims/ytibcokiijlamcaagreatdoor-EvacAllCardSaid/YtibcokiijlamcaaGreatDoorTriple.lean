/- Triple: the stages of three calls that write, one behind the other. No program is named. -/
import Derived.Test.YtibcokiijlamcaaGreatDoorKit
namespace Go.Proofs.YtibcokiijlamcaaGreatDoor.stage
open Go Go.RowKit
variable {P : Program}
def D4 (W0 : World) (S1 S2 S3 : World → Prop) : Nat → World → Prop
  | 0 => fun w => w = W0
  | 1 => S1
  | 2 => S2
  | _ => S3
theorem D4.all {W0 : World} {S1 S2 S3 : World → Prop} {p : World → Prop} (h0 : p W0) (h1 : ∀ w, S1 w → p w) (h2 : ∀ w, S2 w → p w) (h3 : ∀ w, S3 w → p w) (n : Un (D4 W0 S1 S2 S3)) : p n.W := by
  obtain ⟨s, w, h⟩ := n
  match s, h with
  | 0, h => cases h; exact h0
  | 1, h => exact h1 w h
  | 2, h => exact h2 w h
  | s + 3, h => exact h3 w h
/-- three calls, one behind the other, of what each leaves: their stages -/
theorem triple {W0 : World} {f g k : FuncId} {x y z : Array Value} {v u r : Value} {S1 S2 S3 : World → Prop} (c1 : Calls P f x W0 fun e w' => e = .returned v ∧ S1 w') (c2 : ∀ w, S1 w → Calls P g y w fun e w' => e = .returned u ∧ S2 w') (c3 : ∀ w, S2 w → Calls P k z w fun e w' => e = .returned r ∧ S3 w') :
    ∃ D : Nat → World → Prop, D 0 W0 ∧ (∀ w, D 0 w → Calls P f x w fun e w' => e = .returned v ∧ D 1 w') ∧ (∀ w, D 1 w → Calls P g y w fun e w' => e = .returned u ∧ D 2 w') ∧ (∀ w, D 2 w → Calls P k z w fun e w' => e = .returned r ∧ D 3 w') ∧ (∀ w, D 3 w → S3 w) ∧
      (∀ p : World → Prop, p W0 → (∀ w, S1 w → p w) → (∀ w, S2 w → p w) → (∀ w, S3 w → p w) → ∀ q : Un D, p q.W) ∧ Nonempty (Un D) :=
  ⟨D4 W0 S1 S2 S3, rfl, fun w h => by cases h; exact c1, c2, c3, fun _ h => h, fun p h0 h1 h2 h3 => D4.all h0 h1 h2 h3, ⟨⟨0, W0, rfl⟩⟩⟩
end Go.Proofs.YtibcokiijlamcaaGreatDoor.stage
