/- trap: alive; TrapCatches. -/
import Derived.Test.YtfabhnbiijnohaaDoorTrapFns
namespace Go.Proofs.YtfabhnbiijnohaaDoor.trap
open Go.RowKit errs under
set_option linter.unusedSimpArgs false
set_option linter.unusedVariables false

theorem catch_plain (a : String → Addr) (n : Nat) (g : Nat) (cap : Array Value) (hc : ∀ w, (callFunc g cap).run Tryd.prog w = .ok (.enter g cap) w) (w : World) (h : ErrsOk names a w)
    (hg : ∀ wx, Below w.heap.size w wx → Calls Tryd.prog g cap wx fun e w' => Ends a n e ∧ Below wx.heap.size wx w') :
    Calls Tryd.prog 21 #[.func (.func g) #[] cap] w fun e w' => e = .returned (errAt a n) ∧ Below w.heap.size w w' :=
  (catch_any a n g cap hc [] (fun _ => True) w (by simp) (fun wx hp => h.below hp.nil) (fun _ _ _ _ => trivial)
    ((hg _ (((Below.refl _ w).alloc (Nat.le_refl _) _).alloc (by simp) _)).mono fun e w' ⟨he, hb⟩ => ⟨he, Past.of hb, trivial⟩)).mono fun e w' ⟨he, hp, _⟩ => ⟨he, hp.nil⟩
theorem mf (fn : Fn) (first cap : Array Value) (w : World) : (Instr.makeFunc fn first cap).run Tryd.prog w = .ok (.func fn first cap) w := rfl
theorem num_empty (a : String → Addr) (w : World) (h : ErrsOk names a w) : Calls Tryd.prog 20 #[errV (a "ambler/api.ErrEmpty")] w fun e w' => e = .returned (.int .i64 12) ∧ Below w.heap.size w w' := num_at a 11 (by decide) w h
end Go.Proofs.YtfabhnbiijnohaaDoor.trap
