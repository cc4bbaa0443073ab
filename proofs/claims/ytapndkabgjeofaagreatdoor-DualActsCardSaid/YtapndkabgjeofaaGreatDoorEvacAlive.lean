/- evac: the chapter's example. -/
import Derived.Test.YtapndkabgjeofaaGreatDoorEvac
import Derived.Test.YtapndkabgjeofaaGreatDoorEvacNew
import Derived.LoopTactic
namespace Go.Proofs.YtapndkabgjeofaaGreatDoor.evac
open Go.ChangeShapes Go.WideShapes Go.ChangeAt Go.RowKit Go.Shelf swar under trap meter group probe lens tail call table
attribute [local go_sem] Oper.semAt_some stage.pureUpon move.stepUpon
set_option linter.unusedSimpArgs false
set_option linter.unusedVariables false

/-- a meter without a limit: so many probes, visits, units -/
def Mk (p v k:Nat):Mt:=⟨p,p,v,v,k,k,0,false⟩
theorem sm_nat {a b:Nat} (h:a + b ≤ 1000000):sm (a:Int) (b:Int) = ((a + b:Nat):Int):=by
 unfold sm
 have h1:=cl_at (a:Int)
 have h2:=cl_at (b:Int)
 have h3:=cl_at (cl (a:Int) + cl (b:Int))
 omega
theorem Mk_probe {p v k:Nat} (h:p + 1 ≤ 1000000):(Mk p v k).probes 1 = Mk (p + 1) v k:=by
 unfold Mt.probes Mk
 simp only
 rw [show (1:Int) = ((1:Nat):Int) from rfl,sm_nat h]
theorem Mk_visit {p v k:Nat} (h:v + 1 ≤ 1000000):(Mk p v k).visits 1 = Mk p (v + 1) k:=by
 unfold Mt.visits Mk
 simp only
 rw [show (1:Int) = ((1:Nat):Int) from rfl,sm_nat h]
theorem Mk_unit {p v k:Nat} (h:k + 1 ≤ 1000000):(Mk p v k).unit 1 = Mk p v (k + 1):=by
 show (Mk p v k).units 1 = _
 unfold Mt.units Mk
 simp only
 rw [show (1:Int) = ((1:Nat):Int) from rfl,sm_nat h]
theorem Mk_E (p v k:Nat):(Mk p v k).unitE 1 = 0:=rfl
theorem Mk_see {p v k:Nat}:∀ j,v + j ≤ 1000000 → msee (Mk p v k) j = Mk p (v + j) k
 | 0,_ => rfl
 | j + 1,h => by
  rw [msee_add,Mk_see j (by omega),msee_one,Mk_visit (by omega)]; rfl
theorem Mk_ok {p v k:Nat} (h1:p ≤ 1000000) (h2:v ≤ 1000000) (h3:k ≤ 1000000):(Mk p v k).Ok:=by
 constructor <;> simp only [Mk] <;> omega
theorem szEv:(Tryz.prog.info? 180).map (·.size) = some 6:=by kernel_rfl
theorem ev_some (x:Addr) (w:World):(Op.equalIn 10000 122 (.pointer (some x)) (.pointer none)).run Tryz.prog w = .ok false w:=by
 obtain ⟨j,hj,_⟩:=Option.map_eq_some_iff.1 szEv
 have h:∀ d:Nat,(Op.equalIn (d + 1) 122 (.pointer (some x)) (.pointer none)).run Tryz.prog w = .ok false w:=fun d => by
  simp [Op.equalIn,run_underlying Tryz.underlying122,sizeOf,typeInfo,hj,sameAddr]
 exact h 9999
theorem ev_none (w:World):(Op.equalIn 10000 122 (.pointer none) (.pointer none)).run Tryz.prog w = .ok true w:=by
 obtain ⟨j,hj,_⟩:=Option.map_eq_some_iff.1 szEv
 have h:∀ d:Nat,(Op.equalIn (d + 1) 122 (.pointer none) (.pointer none)).run Tryz.prog w = .ok true w:=fun d => by
  simp [Op.equalIn,run_underlying Tryz.underlying122,sizeOf,typeInfo,hj,sameAddr]
 exact h 9999
/-! ### the example's tables -/
def aE:Nat → Tb
 | 0 => Tb.new 1
 | k + 1 => (aE k).puts k k 0
def aT (k:Nat):Nat → Tb:=fun i => if i = 0 then aE k else Tb.new 2
def aY (T0 B0 T1 B1:Nat):Lay:=⟨2,fun i => if i = 0 then T0 else T1,fun i => if i = 0 then B0 else B1,fun _ => ⟨0,0,0,fun _ => 0⟩,fun i => i + 1⟩
section
variable {a:String → Addr} {w0:World} {Y:Lay} {t:Nat → Tb} {W W':World}
theorem Real.rdp (h:Real a w0 Y t W) {i:Nat} (hi:i < Y.N) {Bm:Nat} {m:Mt} (hm:MAt Bm 0 m W) (hb:w0.heap.size ≤ Bm) (ho:Bm ∉ Y.tall):Ready a (Y.T i) (Y.B i) (t i) (.pr Bm 0) m W:=
 ⟨h.at' i hi,h.ok i hi,hm,(fun b hb' => by
  obtain rfl:b = Bm:=by simpa [Ln.d] using hb'
  exact Ot.pair ho hi),h.base.bits.below h.bel h.base.bits.lt,(fun b hb' => by
  obtain rfl:b = Bm:=by simpa [Ln.d] using hb'
  exact Nat.le_trans h.base.far hb),Nat.le_trans h.base.far (h.new _ (Lay.tin hi (by simp))),Nat.le_trans h.base.far (h.new _ (Lay.tin hi (by simp))),h.base.six.below h.bel⟩
theorem pput_any (h:Real a w0 Y t W) {i:Nat} (hi:i < Y.N) {Bm:Nat} {m:Mt} (hm:MAt Bm 0 m W) (hb:w0.heap.size ≤ Bm) (ho:Bm ∉ Y.tall) (key hs v:Nat) (hk:key < 18446744073709551616) (hh:hs < 18446744073709551616) (hv:v < 18446744073709551616) :
  Calls Tryz.prog 41 #[.pointer (some ⟨Y.T i,0,none⟩),.agg #[.pointer (some ⟨Bm,0,none⟩)],group.entV key v hs] W fun e w' => e = .returned (.tuple #[.bool (putB' (t i) key hs),errAt a (putE' (t i) key hs)]) ∧ Real a w0 Y (up t i ((t i).puts key hs v)) w' ∧ MAt Bm 0 ((Ln.pr Bm 0).see m (looks (t i) key hs)) w':=
 (put_tab (h.rdp hi hm hb ho) key hs v hk hh hv).mono fun e w' ⟨he,hs'⟩ =>
  ⟨he,h.step hi hs'.ln.past hs'.at' ((h.ok i hi).puts hk hh hv) ((puts_n ..).trans (h.tn i hi)) (fun b hb' => by
   obtain rfl:b = Bm:=by simpa [Ln.d] using hb'
   exact ⟨hb,ho⟩),hs'.ln.at'⟩
end
theorem new_ex (n:Nat) (hn:okN n) (w:World):Calls Tryz.prog 40 #[.int .i64 n] w fun e w' => ∃ T B,e = .returned (.tuple #[.pointer (some ⟨T,0,none⟩),.nilIface]) ∧ TAt T B (Tb.new n) w' ∧ w.heap.size ≤ T ∧ w.heap.size ≤ B ∧ Below w.heap.size w w':=
 (table.new_yes n hn w).mono fun e w' ⟨he,h1,h2⟩ => ⟨_,_,he,h1,by omega,Nat.le_refl _,h2⟩
theorem MAt.zero_new (w:World):MAt w.heap.size 0 (Mk 0 0 0) (w.alloc (.cells #[.int .i64 0,.int .i64 0,.int .i64 0,.int .i64 0,.int .i64 0,.int .i64 0,.int .i64 0,.bool false] 36)):=MAt.new w
end Go.Proofs.YtapndkabgjeofaaGreatDoor.evac
