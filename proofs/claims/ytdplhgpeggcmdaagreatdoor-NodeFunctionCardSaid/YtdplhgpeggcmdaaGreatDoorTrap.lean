/- Trap: several texts in one: plain facts and laws for the walks. No program is named. -/
import Derived.Test.YtdplhgpeggcmdaaGreatDoorErrors
import Derived.WalkLawsBesides
import Derived.WalkArith
import Derived.Laws.PanicsMore
import Derived.Deep.DeepMakeLenPanics
import Derived.Test.YtdplhgpeggcmdaaGreatDoorKit
import Derived.Defers
import Derived.Recover

/-! ### trap: Raise, Need; amblernum.Err; the document's Of; what act does, number by number. -/
namespace Go.Proofs.YtdplhgpeggcmdaaGreatDoor.trap
open Go.RowKit errs
set_option linter.unusedVariables false

/-- the error of a number (0: none) -/
def errAt (a:String → Addr):Nat → Value
 | 0 => .nilIface
 | k + 1 => errV (a (nm k))
/-- the chain of a panic by Raise, and of another one -/
abbrev thrown (v:Value):List PanicEntry:=[{ v:=v,recovered:=false }]
abbrev raisedV (x:Addr):Value:=.iface 143 (.agg #[errV x])
theorem raise_nil (w:World):Calls Tryz.prog 83 #[.nilIface] w fun e w' => e = .returned (.tuple #[]) ∧ w = w':=by
 go_enter Tryz.func83,Tryz.ntmps83
 go_wp2
 go_end0
 exact ⟨rfl,rfl⟩
theorem raise_err (x:Addr) (w:World):Calls Tryz.prog 83 #[errV x] w fun e w' => e = .panicked (thrown (raisedV x)) ∧ w = w':=by
 go_enter Tryz.func83,Tryz.ntmps83
 go_wp2
 exact ⟨rfl,rfl,rfl⟩
/-! ### act, number by number -/
/-- a function that came to the number b of the document: it came back; it raised the error b; it panicked in another way -/
def Ends (a:String → Addr) (b:Nat) (e:Ending):Prop:=
 (b = 0 ∧ e = .returned (.tuple #[])) ∨ (∃ k,k < 16 ∧ b = k + 1 ∧ e = .panicked (thrown (raisedV (a (nm k))))) ∨ (b = 10 ∧ ∃ T v,T ≠ 143 ∧ e = .panicked (thrown (.iface T v)))
theorem Ends.back {a:String → Addr}:Ends a 0 (.returned (.tuple #[])):=.inl ⟨rfl,rfl⟩
theorem Ends.raised {a:String → Addr} (k:Nat) (h:k < 16):Ends a (k + 1) (.panicked (thrown (raisedV (a (nm k))))):=.inr (.inl ⟨k,h,rfl,rfl⟩)
/-- what act is given -/
structure ActIn (b:Nat) (w:World):Prop where
 cell:w.cell? ⟨b,0,none⟩ = some (.int .i64 1)
 frozen:w.frozen? ⟨b,0,none⟩ = false
/-- the document's number of what act does -/
def actN (k:Nat) (n:Int):Nat:=if k = 0 ∨ k = 2 then 0 else if k = 1 then (if n < 1 ∨ 16 < n then 0 else n.toNat) else 10
end Go.Proofs.YtdplhgpeggcmdaaGreatDoor.trap

/-! ### trap: Catch, by what its function comes to. -/
namespace Go.Proofs.YtdplhgpeggcmdaaGreatDoor.trap
open Go.RowKit errs under
set_option linter.unusedSimpArgs false
set_option linter.unusedVariables false

end Go.Proofs.YtdplhgpeggcmdaaGreatDoor.trap

/-! ### trap: Must, the document's Of, kinds, Num of what was caught; the functions that the laws make. -/
namespace Go.Proofs.YtdplhgpeggcmdaaGreatDoor.trap
open Go.RowKit errs under
set_option linter.unusedSimpArgs false
set_option linter.unusedVariables false

/-! ### Num of what was caught -/
/-! ### the number of what is done -/
def kindN (x:Int):Nat:=(x % 18446744073709551616).toNat % 11
/-! ### Must -/
theorem must_nil (v:Int) (w:World):Calls Tryz.prog 156 #[.int .i64 v,.nilIface] w fun e w' => e = .returned (.int .i64 v) ∧ w = w':=by
 go_enter Tryz.func156,Tryz.ntmps156
 go_wp2_with (go_at_call 83; refine (raise_nil _).mono ?_; rintro e w' ⟨rfl,rfl⟩)
 go_ret
 exact ⟨rfl,rfl⟩
/-! ### what the laws hand to Catch -/
end Go.Proofs.YtdplhgpeggcmdaaGreatDoor.trap
