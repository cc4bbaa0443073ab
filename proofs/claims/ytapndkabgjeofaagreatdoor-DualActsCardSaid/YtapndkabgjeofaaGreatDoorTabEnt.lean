/- TabEnt: several texts in one: plain facts and laws for the walks. No program is named. -/
import Derived.Test.YtapndkabgjeofaaGreatDoorTabNew
import Derived.Test.YtapndkabgjeofaaGreatDoorTabMath

/-! ### table: the laws' acts: the entry of a key by its number; a table without a lens. -/
namespace Go.Proofs.YtapndkabgjeofaaGreatDoor.table
open Go.ChangeShapes Go.WideShapes Go.ChangeAt Go.RowKit Go.Shelf swar under trap meter group probe lens tail call
attribute [local go_sem] Oper.semAt_some stage.pureUpon move.stepUpon
set_option linter.unusedSimpArgs false
set_option linter.unusedVariables false

/-- the hashes, as they lie -/
def HashAt (s:Option Addr) (la:Nat) (w:World) (hz:Nat → Nat):Prop:=∀ j,j < la → ∃ x,s = some x ∧ hz j < 18446744073709551616 ∧ ∀ W,Below w.heap.size w W → W.cell? (x.add j) = some (.int .u64 (hz j:Nat))
/-- an act -/
structure Ac where
 kind:Int
 key:Int
 n:Int
def ActAt (s:Option Addr) (la:Nat) (w:World) (az:Nat → Ac):Prop:=∀ j,j < la → (∃ x,s = some x ∧ ∀ W,Below w.heap.size w W → W.cell? (x.add (j * 3)) = some (.int .i64 (az j).kind) ∧ W.cell? ⟨(x.add (j * 3)).block,(x.add (j * 3)).off + 1,none⟩ = some (.int .i64 (az j).key) ∧ W.cell? ⟨(x.add (j * 3)).block,(x.add (j * 3)).off + 2,none⟩ = some (.int .i64 (az j).n)) ∧
 -9223372036854775808 ≤ (az j).key ∧ (az j).key ≤ 9223372036854775807 ∧ -9223372036854775808 ≤ (az j).n ∧ (az j).n ≤ 9223372036854775807
theorem HashAt.below {s:Option Addr} {la:Nat} {w w':World} {hz:Nat → Nat} (h:HashAt s la w hz) (hb:Below w.heap.size w w'):HashAt s la w' hz:=fun j hj => by
 obtain ⟨x,h1,h2,h3⟩:=h j hj
 exact ⟨x,h1,h2,fun W hW => h3 W (under.below_step hb hW)⟩
theorem ActAt.below {s:Option Addr} {la:Nat} {w w':World} {az:Nat → Ac} (h:ActAt s la w az) (hb:Below w.heap.size w w'):ActAt s la w' az:=fun j hj => by
 obtain ⟨⟨x,h1,h3⟩,h2⟩:=h j hj
 exact ⟨⟨x,h1,fun W hW => h3 W (under.below_step hb hW)⟩,h2⟩
/-- a key's number, a value -/
def uN (x:Int):Nat:=(IntKind.u64.wrap x).toNat
def kN (key:Int) (la:Nat):Nat:=uN key % la
theorem uN_lt (x:Int):uN x < 18446744073709551616:=by unfold uN; rw [IntKind.wrap_u64]; omega
theorem uN_cast (x:Int):IntKind.u64.wrap x = ((uN x:Nat):Int):=by unfold uN; rw [IntKind.wrap_u64]; omega
theorem kN_lt (key:Int) {la:Nat} (h:1 ≤ la):kN key la < la:=Nat.mod_lt _ h
theorem w64_small (x:Nat) (h:x < 101):wrap64 (x:Int) = x:=by unfold wrap64; omega
theorem u64_small (x:Nat) (h:x < 101):IntKind.u64.wrap (x:Int) = x:=by rw [IntKind.wrap_u64]; omega
theorem ent_num (key:Int) {la:Nat} (h1:1 ≤ la) (h2:la ≤ 100):((uN key:Nat):Int) % (la:Int) = ((kN key la:Nat):Int) ∧ wrap64 (((uN key:Nat):Int) % (la:Int)) = ((kN key la:Nat):Int) ∧ IntKind.u64.wrap ((kN key la:Nat):Int) = ((kN key la:Nat):Int) ∧ ((kN key la:Nat):Int) < (la:Int):=by
 have hk:=kN_lt key h1
 have e:((uN key:Nat):Int) % (la:Int) = ((kN key la:Nat):Int):=rfl
 have hs:kN key la < 101:=by omega
 exact ⟨e,by rw [e]; exact w64_small _ hs,u64_small _ hs,by omega⟩
end Go.Proofs.YtapndkabgjeofaaGreatDoor.table

/-! ### table: the contracts without a lens; two tables side by side. -/
namespace Go.Proofs.YtapndkabgjeofaaGreatDoor.table
open Go.ChangeShapes Go.WideShapes Go.ChangeAt Go.RowKit Go.Shelf swar under trap meter group probe lens tail call
attribute [local go_sem] Oper.semAt_some stage.pureUpon move.stepUpon
set_option linter.unusedSimpArgs false
set_option linter.unusedVariables false

theorem TL.tstep {T B:Nat} {t:Tb} {m:Mt} {w w':World} (h:TL T B t .nil m w w'):TStep T B t w w':=⟨by simpa [Ln.d] using h.ln.past,h.at'⟩
section
variable {ae:String → Addr} {T B:Nat} {t:Tb} {m:Mt} {w:World}
end
/-- the number of whatever error -/
theorem num_err (a:String → Addr) (k:Nat) (hk:k ≤ 16) (w:World) (h:errs.ErrsOk errs.names a w) :
  Calls Tryz.prog 15 #[errAt a k] w fun e w' => e = .returned (.int .i64 k) ∧ Below w.heap.size w w':=by
 cases k with
 | zero => exact (errs.num_nil w).mono fun e w' ⟨he,hw⟩ => ⟨he,hw ▸ Below.refl _ _⟩
 | succ k => exact errs.num_at a k (by omega) w h
theorem putE_le' (t:Tb) (key h:Nat):putE' t key h = 0 ∨ putE' t key h = 2:=by
 unfold putE' roomE; split
 ·exact .inl rfl
 ·split
  ·exact .inr rfl
  ·split
   ·exact .inr rfl
   ·exact .inl rfl
/-! ### partial functions -/
/-- two tables, each in blocks of its own, and the box of the lens -/
structure L2 (w:World) (T1 B1 T2 B2 Bl:Nat) (t1 t2:Tb) (W:World):Prop where
 below:Below w.heap.size w W
 a1:TAt T1 B1 t1 W
 a2:TAt T2 B2 t2 W
 ok1:t1.Ok
 ok2:t2.Ok
 cl:W.cell? ⟨Bl,0,none⟩ = some (.pointer none)
 h1:w.heap.size ≤ T1
 h2:w.heap.size ≤ B1
 h3:w.heap.size ≤ T2
 h4:w.heap.size ≤ B2
 n1:T2 ∉ [T1,B1]
 n2:B2 ∉ [T1,B1]
 n3:T1 ∉ [T2,B2]
 n4:B1 ∉ [T2,B2]
 l1:Bl ∉ [T1,B1]
 l2:Bl ∉ [T2,B2]
section
variable {ae:String → Addr} {w:World} {T1 B1 T2 B2 Bl:Nat} {t1 t2 t':Tb} {W W':World}
end
end Go.Proofs.YtapndkabgjeofaaGreatDoor.table

/-! ### table: how many keys stand, and how many of them ahead of a hash and key. No function is walked here. -/
namespace Go.Proofs.YtapndkabgjeofaaGreatDoor.table
open group probe swar split
set_option linter.unusedSimpArgs false
set_option linter.unusedVariables false

def cntM (la:Nat) (M:Nat → Option Nat):Nat:=(List.range la).countP fun k => (M k).isSome
def cntL (la:Nat) (M:Nat → Option Nat) (H:Nat → Nat) (hh ky:Nat):Nat:=(List.range la).countP fun k => (M k).isSome && lessB k (H k) ky hh
/-- a table of the first la keys, and how many there are -/
structure RepN (H:Nat → Nat) (la:Nat) (t:Tb) (M:Nat → Option Nat):Prop where
 rep:Rep H t M
 far:∀ k,la ≤ k → M k = none
 len:t.len = (cntM la M:Nat)
end Go.Proofs.YtapndkabgjeofaaGreatDoor.table
