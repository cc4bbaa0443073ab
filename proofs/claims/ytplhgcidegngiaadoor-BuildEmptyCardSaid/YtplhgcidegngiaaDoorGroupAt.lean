/- group: where a group lies, and the contracts of its methods that leave its block as it is, or write it. -/
import Derived.Test.YtplhgcidegngiaaDoorMath
import Derived.Test.YtplhgcidegngiaaDoorCtrlSet
import Derived.Test.YtplhgcidegngiaaDoorMeterAt
import Derived.Test.YtplhgcidegngiaaDoorSplitFns
import Derived.Test.YtplhgcidegngiaaDoorSwarIter
import Derived.Test.YtplhgcidegngiaaDoorKit
namespace Go.Proofs.YtplhgcidegngiaaDoor.group
open Go.ChangeShapes Go.WideShapes Go.ChangeAt Go.RowKit swar trap under meter
set_option linter.unusedSimpArgs false
set_option linter.unusedVariables false

/-- a group at a place, from cell o of block B on -/
structure GAt (B o : Nat) (g : Gp) (w : World) : Prop where
  word : w.cell? ⟨B, o, none⟩ = some (.int .u64 (word g : Nat))
  key : ∀ i, i < 8 → w.cell? ⟨B, o + 1 + i * 3, none⟩ = some (.int .u64 ((g i).key : Nat))
  val : ∀ i, i < 8 → w.cell? ⟨B, o + 1 + i * 3 + 1, none⟩ = some (.int .u64 ((g i).val : Nat))
  hash : ∀ i, i < 8 → w.cell? ⟨B, o + 1 + i * 3 + 2, none⟩ = some (.int .u64 ((g i).hash : Nat))
  fz : ∀ i, w.frozen? ⟨B, i, none⟩ = false
theorem GAt.lt {B o : Nat} {g : Gp} {w : World} (h : GAt B o g w) : B < w.heap.size := World.block_lt_of_cell? w _ h.word
theorem GAt.of_block {B o : Nat} {g : Gp} {w w' : World} (h : GAt B o g w) (he : w'.heap[B]? = w.heap[B]?) : GAt B o g w' := by
  have c : ∀ i v, w.cell? ⟨B, i, none⟩ = some v → w'.cell? ⟨B, i, none⟩ = some v := fun i v hc => (World.cell?_of_block (w := w) he).trans hc
  exact ⟨c _ _ h.word, fun i hi => c _ _ (h.key i hi), fun i hi => c _ _ (h.val i hi), fun i hi => c _ _ (h.hash i hi), fun i => (World.frozen?_of_block (w := w) he).trans (h.fz i)⟩
theorem GAt.below {B o : Nat} {g : Gp} {w w' : World} (h : GAt B o g w) (hb : Below w.heap.size w w') : GAt B o g w' := h.of_block (hb.block B h.lt)
theorem GAt.past {B o : Nat} {g : Gp} {w w' : World} {d : List Nat} (h : GAt B o g w) (hb : Past d w w') (hd : B ∉ d) : GAt B o g w' := h.of_block (hb.block B h.lt hd)
theorem GAt.drewN {B o : Nat} {g : Gp} {w : World} (h : GAt B o g w) (q : Nat) : GAt B o g (w.drewN q) := h.of_block rfl

theorem isFull_any (B o : Nat) (g : Gp) (i : Nat) (hi : i < 8) (hg : g.Ok) (w : World) (h : GAt B o g w) :
    Calls Tryd.prog 77 #[.pointer (some ⟨B, o, none⟩), .int .i64 i] w fun e w' => e = .returned (.bool (is 3 g i)) ∧ w = w' := by
  have hw := h.word
  have hb : decide (((byt (g i) : Nat) : Int) < 128) = is 3 g i := by
    unfold is; rw [decide_eq_decide, ← byt_3 (hg i)]; omega
  go_enter Tryd.func77, Tryd.ntmps77
  go_wp2_with (go_at_call 78; refine (ctrl.get_yes (group.word g) i (word_lt g) hi _).mono ?_; rintro e w' ⟨rfl, rfl⟩; rw [ln_word g hi])
  go_ret
  exact ⟨by rw [← hb]; simp, rfl⟩
theorem need_range (B o : Nat) (i : Int) (b : Bool) (hi : i < 0 ∨ 8 ≤ i) (w : World) (er : Value) (hr : w.cell? ⟨1, 0, none⟩ = some er) :
    Calls Tryd.prog 63 #[.pointer (some ⟨B, o, none⟩), .int .i64 i, .bool b] w fun e w' => e = .returned er ∧ ∃ q, w' = w.drewN q := by
  rcases hi with hi | hi
  · have d1 : decide (i < 0) = true := decide_eq_true hi
    go_enter Tryd.func63, Tryd.ntmps63
    go_wp2
    go_ret
    exact ⟨rfl, 0, rfl⟩
  · have d1 : decide (i < 0) = false := decide_eq_false (by omega)
    have d2 : decide (8 ≤ i) = true := decide_eq_true hi
    go_enter Tryd.func63, Tryd.ntmps63
    go_wp2
    go_ret
    exact ⟨rfl, 0, rfl⟩
end Go.Proofs.YtplhgcidegngiaaDoor.group
