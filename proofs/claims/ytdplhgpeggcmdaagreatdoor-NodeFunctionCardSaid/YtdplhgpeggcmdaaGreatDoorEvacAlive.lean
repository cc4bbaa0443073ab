/- evac: the chapter's example. -/
import Derived.Test.YtdplhgpeggcmdaaGreatDoorEvac
import Derived.Test.YtdplhgpeggcmdaaGreatDoorEvacNew
import Derived.LoopTactic
namespace Go.Proofs.YtdplhgpeggcmdaaGreatDoor.evac
open Go.ChangeShapes Go.WideShapes Go.ChangeAt Go.RowKit Go.Shelf swar under trap meter group probe lens tail call table
attribute [local go_sem] Oper.semAt_some stage.pureUpon move.stepUpon
set_option linter.unusedSimpArgs false
set_option linter.unusedVariables false

/-- a meter without a limit: so many probes, visits, units -/
def Mk (p v k:Nat):Mt:=⟨p,p,v,v,k,k,0,false⟩
theorem szEv:(Tryz.prog.info? 233).map (·.size) = some 6:=by kernel_rfl
theorem ev_some (x:Addr) (w:World):(Op.equalIn 10000 195 (.pointer (some x)) (.pointer none)).run Tryz.prog w = .ok false w:=by
 obtain ⟨j,hj,_⟩:=Option.map_eq_some_iff.1 szEv
 have h:∀ d:Nat,(Op.equalIn (d + 1) 195 (.pointer (some x)) (.pointer none)).run Tryz.prog w = .ok false w:=fun d => by
  simp [Op.equalIn,run_underlying Tryz.underlying195,sizeOf,typeInfo,hj,sameAddr]
 exact h 9999
theorem ev_none (w:World):(Op.equalIn 10000 195 (.pointer none) (.pointer none)).run Tryz.prog w = .ok true w:=by
 obtain ⟨j,hj,_⟩:=Option.map_eq_some_iff.1 szEv
 have h:∀ d:Nat,(Op.equalIn (d + 1) 195 (.pointer none) (.pointer none)).run Tryz.prog w = .ok true w:=fun d => by
  simp [Op.equalIn,run_underlying Tryz.underlying195,sizeOf,typeInfo,hj,sameAddr]
 exact h 9999
/-! ### the example's tables -/
def aE:Nat → Tb
 | 0 => Tb.new 1
 | k + 1 => (aE k).puts k k 0
def aT (k:Nat):Nat → Tb:=fun i => if i = 0 then aE k else Tb.new 2
def aY (T0 B0 T1 B1:Nat):Lay:=⟨2,fun i => if i = 0 then T0 else T1,fun i => if i = 0 then B0 else B1,fun _ => ⟨0,0,0,fun _ => 0⟩,fun i => i + 1⟩
section
variable {a:String → Addr} {w0:World} {Y:Lay} {t:Nat → Tb} {W W':World}
end
theorem MAt.zero_new (w:World):MAt w.heap.size 0 (Mk 0 0 0) (w.alloc (.cells #[.int .i64 0,.int .i64 0,.int .i64 0,.int .i64 0,.int .i64 0,.int .i64 0,.int .i64 0,.bool false] 38)):=MAt.new w
end Go.Proofs.YtdplhgpeggcmdaaGreatDoor.evac
