/- Trap: several texts in one: plain facts and laws for the walks. No program is named. -/
import Derived.Test.YtapndkabgjeofaaGreatDoorErrors
import Derived.WalkLawsBesides
import Derived.WalkArith
import Derived.Laws.PanicsMore
import Derived.Deep.DeepMakeLenPanics
import Derived.Test.YtapndkabgjeofaaGreatDoorKit
import Derived.Defers
import Derived.Recover

/-! ### trap: Raise, Need; amblernum.Err; the document's Of; what act does, number by number. -/
namespace Go.Proofs.YtapndkabgjeofaaGreatDoor.trap
open Go.RowKit errs
set_option linter.unusedVariables false

/-- the error of a number (0: none) -/
def errAt (a:String → Addr):Nat → Value
 | 0 => .nilIface
 | k + 1 => errV (a (nm k))
/-- the chain of a panic by Raise, and of another one -/
abbrev thrown (v:Value):List PanicEntry:=[{ v:=v,recovered:=false }]
abbrev raisedV (x:Addr):Value:=.iface 134 (.agg #[errV x])
theorem raise_nil (w:World):Calls Tryz.prog 149 #[.nilIface] w fun e w' => e = .returned (.tuple #[]) ∧ w = w':=by
 go_enter Tryz.func149,Tryz.ntmps149
 go_wp2
 go_end0
 exact ⟨rfl,rfl⟩
theorem raise_err (x:Addr) (w:World):Calls Tryz.prog 149 #[errV x] w fun e w' => e = .panicked (thrown (raisedV x)) ∧ w = w':=by
 go_enter Tryz.func149,Tryz.ntmps149
 go_wp2
 exact ⟨rfl,rfl,rfl⟩
/-! ### act, number by number -/
/-- a function that came to the number b of the document: it came back; it raised the error b; it panicked in another way -/
def Ends (a:String → Addr) (b:Nat) (e:Ending):Prop:=
 (b = 0 ∧ e = .returned (.tuple #[])) ∨ (∃ k,k < 16 ∧ b = k + 1 ∧ e = .panicked (thrown (raisedV (a (nm k))))) ∨ (b = 10 ∧ ∃ T v,T ≠ 134 ∧ e = .panicked (thrown (.iface T v)))
theorem Ends.back {a:String → Addr}:Ends a 0 (.returned (.tuple #[])):=.inl ⟨rfl,rfl⟩
theorem Ends.raised {a:String → Addr} (k:Nat) (h:k < 16):Ends a (k + 1) (.panicked (thrown (raisedV (a (nm k))))):=.inr (.inl ⟨k,h,rfl,rfl⟩)
/-- what act is given -/
structure ActIn (b:Nat) (w:World):Prop where
 cell:w.cell? ⟨b,0,none⟩ = some (.int .i64 1)
 frozen:w.frozen? ⟨b,0,none⟩ = false
/-- the document's number of what act does -/
def actN (k:Nat) (n:Int):Nat:=if k = 0 ∨ k = 2 then 0 else if k = 1 then (if n < 1 ∨ 16 < n then 0 else n.toNat) else 10
end Go.Proofs.YtapndkabgjeofaaGreatDoor.trap

/-! ### trap: Catch, by what its function comes to. -/
namespace Go.Proofs.YtapndkabgjeofaaGreatDoor.trap
open Go.RowKit errs under
set_option linter.unusedSimpArgs false
set_option linter.unusedVariables false

theorem caught_idle (b e:Nat) (w:World) (hb:w.cell? ⟨b,0,none⟩ = some (.bool true)) :
  CallsD Tryz.prog 70 #[.pointer (some ⟨b,0,none⟩),.pointer (some ⟨e,0,none⟩)] .returning w fun r u' w' => r = .returned (.tuple #[]) ∧ u' = .returning ∧ w' = w:=by
 refine callsD_of_wpS Tryz.func70 rfl fun c₀ cs hu => ?_
 apply wpS_seq
 apply wpS_seq
 apply wpS_region
 simp [wpOpsS,go_sem,hu,Tryz.ntmps70,Exit.thenS,hb]
 refine wpS_cond (t:=true) (by simp [Act.eval,Array.replicate]) ?_
 simp only [if_true]
 refine wpS_of_wp (wp_ret ?_)
 cases c₀
 simp_all [bodyPostS,results,Tryz.results70,Exit.thenS]
theorem is_raised (v:Value) (w:World):(Instr.typeAssert (.iface 134 v) 20 134 true).run Tryz.prog w = .ok (.tuple #[v,.bool true]) w:=by kernel_rfl
theorem is_other (T:TypeId) (hT:T ≠ 134) (v:Value) (w:World):(Instr.typeAssert (.iface T v) 20 134 true).run Tryz.prog w = .ok (.tuple #[.agg #[.nilIface],.bool false]) w:=by
 have hz:(zeroValue 134).run Tryz.prog w = .ok (.agg #[.nilIface]) w:=by kernel_rfl
 simp [Instr.typeAssert,run_underlying Tryz.underlying134,hT,go_sem,hz]
theorem caught_raised (b e:Nat) (x:Addr) (w:World) (hb:w.cell? ⟨b,0,none⟩ = some (.bool false)) (o:Value) (he:w.cell? ⟨e,0,none⟩ = some o) (hf:w.frozen? ⟨e,0,none⟩ = false) :
  CallsD Tryz.prog 70 #[.pointer (some ⟨b,0,none⟩),.pointer (some ⟨e,0,none⟩)] (.panicking (thrown (raisedV x))) w fun r u' w' => r = .returned (.tuple #[]) ∧ u' = .panicking [{ v:=raisedV x,recovered:=true }] ∧
   ∃ o,w' = (w.setCell ⟨e,0,none⟩ (errV x)).alloc o:=by
 refine callsD_of_wpS Tryz.func70 rfl fun c₀ cs hu => ?_
 apply wpS_seq
 apply wpS_seq
 apply wpS_region
 simp [wpOpsS,go_sem,Tryz.ntmps70,Exit.thenS,hb]
 refine wpS_cond (t:=false) (by simp [Act.eval,Array.replicate]) ?_
 simp only [Bool.false_eq_true,if_false]
 refine wpS_of_wp (wp_skip ?_)
 simp only [Exit.thenS]
 apply wpS_seq
 apply wpS_region
 simp [wpOpsS,go_sem,recoverD,hu,Exit.thenS]
 refine wpS_of_wp ?_
 have hr:=is_raised
 have hel:e < w.heap.size:=World.block_lt_of_cell? w _ he
 go_wp2
 refine ⟨rfl,_,rfl,.tuple #[], ?_,rfl,rfl,_,rfl⟩
 simp [results,Tryz.results70,go_sem]
theorem caught_other (a:String → Addr) (b e:Nat) (T:TypeId) (hT:T ≠ 134) (v:Value) (w:World) (hE:ErrsOk names a w) (hb:w.cell? ⟨b,0,none⟩ = some (.bool false)) (o:Value) (he:w.cell? ⟨e,0,none⟩ = some o) (hf:w.frozen? ⟨e,0,none⟩ = false) :
  CallsD Tryz.prog 70 #[.pointer (some ⟨b,0,none⟩),.pointer (some ⟨e,0,none⟩)] (.panicking (thrown (.iface T v))) w fun r u' w' => r = .returned (.tuple #[]) ∧ u' = .panicking [{ v:=.iface T v,recovered:=true }] ∧
   w' = w.setCell ⟨e, 0, none⟩ (errV (a "ambler/api.ErrBroken")) := by
 have c:=hE.at gErrBroken (nm_mem (i:=9) (by decide))
 refine callsD_of_wpS Tryz.func70 rfl fun c₀ cs hu => ?_
 apply wpS_seq
 apply wpS_seq
 apply wpS_region
 simp [wpOpsS,go_sem,Tryz.ntmps70,Exit.thenS,hb]
 refine wpS_cond (t:=false) (by simp [Act.eval,Array.replicate]) ?_
 simp only [Bool.false_eq_true,if_false]
 refine wpS_of_wp (wp_skip ?_)
 simp only [Exit.thenS]
 apply wpS_seq
 apply wpS_region
 simp [wpOpsS,go_sem,recoverD,hu,Exit.thenS]
 refine wpS_of_wp ?_
 have hr:=is_other T hT v
 go_wp2
 refine ⟨rfl,_,rfl,.tuple #[], ?_,rfl,rfl,rfl⟩
 simp [results,Tryz.results70,go_sem]
theorem hfun (fn:Fn) (cap:Array Value) (w:World):(binOp BinOp.eql 1 (.func fn #[] cap) .nilFunc).run Tryz.prog w = .ok (.bool false) w:=by kernel_rfl
theorem old {w:World} {p:Addr} {v:Value} (o:Obj) (h:w.cell? p = some v):(w.alloc o).cell? p = some v:=(((Below.refl _ w).alloc (Nat.le_refl _) o).cell (World.block_lt_of_cell? w _ h)).trans h
end Go.Proofs.YtapndkabgjeofaaGreatDoor.trap

/-! ### trap: Must, the document's Of, kinds, Num of what was caught; the functions that the laws make. -/
namespace Go.Proofs.YtapndkabgjeofaaGreatDoor.trap
open Go.RowKit errs under
set_option linter.unusedSimpArgs false
set_option linter.unusedVariables false

/-! ### Num of what was caught -/
/-! ### the number of what is done -/
def kindN (x:Int):Nat:=(x % 18446744073709551616).toNat % 11
/-! ### Must -/
theorem must_nil (v:Int) (w:World):Calls Tryz.prog 127 #[.int .i64 v,.nilIface] w fun e w' => e = .returned (.int .i64 v) ∧ w = w':=by
 go_enter Tryz.func127,Tryz.ntmps127
 go_wp2_with (go_at_call 149; refine (raise_nil _).mono ?_; rintro e w' ⟨rfl,rfl⟩)
 go_ret
 exact ⟨rfl,rfl⟩
/-! ### what the laws hand to Catch -/
end Go.Proofs.YtapndkabgjeofaaGreatDoor.trap
