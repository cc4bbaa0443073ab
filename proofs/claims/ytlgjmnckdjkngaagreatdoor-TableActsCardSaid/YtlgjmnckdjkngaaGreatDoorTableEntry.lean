/- table: the laws' acts: the entry of a key by its number; a table without a lens. -/
import Derived.Test.YtlgjmnckdjkngaaGreatDoorTableAlive
namespace Go.Proofs.YtlgjmnckdjkngaaGreatDoor.table
open Go.ChangeShapes Go.WideShapes Go.ChangeAt Go.RowKit Go.Shelf swar under trap meter group probe lens tail call
attribute [local go_sem] Oper.semAt_some stage.pureUpon move.stepUpon
set_option linter.unusedSimpArgs false
set_option linter.unusedVariables false

/-- the hashes, as they lie -/
def HashAt (s : Option Addr) (la : Nat) (w : World) (hz : Nat → Nat) : Prop := ∀ j, j < la → ∃ x, s = some x ∧ hz j < 18446744073709551616 ∧ ∀ W, Below w.heap.size w W → W.cell? (x.add j) = some (.int .u64 (hz j : Nat))
/-- an act -/
structure Ac where
  kind : Int
  key : Int
  n : Int
def ActAt (s : Option Addr) (la : Nat) (w : World) (az : Nat → Ac) : Prop := ∀ j, j < la → (∃ x, s = some x ∧ ∀ W, Below w.heap.size w W → W.cell? (x.add (j * 3)) = some (.int .i64 (az j).kind) ∧ W.cell? ⟨(x.add (j * 3)).block, (x.add (j * 3)).off + 1, none⟩ = some (.int .i64 (az j).key) ∧ W.cell? ⟨(x.add (j * 3)).block, (x.add (j * 3)).off + 2, none⟩ = some (.int .i64 (az j).n)) ∧
  -9223372036854775808 ≤ (az j).key ∧ (az j).key ≤ 9223372036854775807 ∧ -9223372036854775808 ≤ (az j).n ∧ (az j).n ≤ 9223372036854775807
theorem HashAt.below {s : Option Addr} {la : Nat} {w w' : World} {hz : Nat → Nat} (h : HashAt s la w hz) (hb : Below w.heap.size w w') : HashAt s la w' hz := fun j hj => by
  obtain ⟨x, h1, h2, h3⟩ := h j hj
  exact ⟨x, h1, h2, fun W hW => h3 W (under.below_step hb hW)⟩
theorem ActAt.below {s : Option Addr} {la : Nat} {w w' : World} {az : Nat → Ac} (h : ActAt s la w az) (hb : Below w.heap.size w w') : ActAt s la w' az := fun j hj => by
  obtain ⟨⟨x, h1, h3⟩, h2⟩ := h j hj
  exact ⟨⟨x, h1, fun W hW => h3 W (under.below_step hb hW)⟩, h2⟩
/-- a key's number, a value -/
def uN (x : Int) : Nat := (IntKind.u64.wrap x).toNat
def kN (key : Int) (la : Nat) : Nat := uN key % la
theorem uN_lt (x : Int) : uN x < 18446744073709551616 := by unfold uN; rw [IntKind.wrap_u64]; omega
theorem uN_cast (x : Int) : IntKind.u64.wrap x = ((uN x : Nat) : Int) := by unfold uN; rw [IntKind.wrap_u64]; omega
theorem kN_lt (key : Int) {la : Nat} (h : 1 ≤ la) : kN key la < la := Nat.mod_lt _ h
theorem w64_small (x : Nat) (h : x < 101) : wrap64 (x : Int) = x := by unfold wrap64; omega
theorem u64_small (x : Nat) (h : x < 101) : IntKind.u64.wrap (x : Int) = x := by rw [IntKind.wrap_u64]; omega
theorem ent_num (key : Int) {la : Nat} (h1 : 1 ≤ la) (h2 : la ≤ 100) : ((uN key : Nat) : Int) % (la : Int) = ((kN key la : Nat) : Int) ∧ wrap64 (((uN key : Nat) : Int) % (la : Int)) = ((kN key la : Nat) : Int) ∧ IntKind.u64.wrap ((kN key la : Nat) : Int) = ((kN key la : Nat) : Int) ∧ ((kN key la : Nat) : Int) < (la : Int) := by
  have hk := kN_lt key h1
  have e : ((uN key : Nat) : Int) % (la : Int) = ((kN key la : Nat) : Int) := rfl
  have hs : kN key la < 101 := by omega
  exact ⟨e, by rw [e]; exact w64_small _ hs, u64_small _ hs, by omega⟩
set_option maxRecDepth 20000 in
theorem entry_any (s : Option Addr) (la ca : Nat) (hz : Nat → Nat) (h1 : 1 ≤ la) (h2 : la ≤ 100) (kind key n : Int) (w : World) (hH : HashAt s la w hz) :
    Calls Tryz.prog 10 #[.slice s la ca, .agg #[.int .i64 kind, .int .i64 key, .int .i64 n]] w fun e w' => e = .returned (group.entV (kN key la) (uN n) (hz (kN key la))) ∧ Below w.heap.size w w' := by
  have hk := kN_lt key h1
  obtain ⟨x, rfl, hz1, hc⟩ := hH _ hk
  have hb := two_new w (.cells #[.int .i64 kind, .int .i64 key, .int .i64 n] 40) (.cells #[.int .u64 0, .int .u64 0, .int .u64 0] 48)
  have hcell := hc _ hb
  have hlt := World.block_lt_of_cell? w _ (hc w (Below.refl _ _))
  have e1 := uN_cast key
  have e2 := uN_cast n
  obtain ⟨er, ew, eu, ei⟩ := ent_num key h1 h2
  have EU := Lib.hid eu
  have hV := EBox.second 0 0 0 w (.cells #[.int .i64 kind, .int .i64 key, .int .i64 n] 40)
  clear hH hc hz1 eu hk
  generalize uN key = uk at *
  generalize kN key la = ki at *
  generalize uN n = vn at *
  generalize hz ki = hh at *
  go_enter Tryz.func10, Tryz.ntmps10
  go_wp2
  have eu := EU.out
  refine wp_region_tail_drew 10 (by kernel_rfl) (by kernel_rfl) ?_
  simp only [List.take_succ_cons, List.take_zero, List.drop_succ_cons, List.drop_zero]
  repeat (quiet_step (fail))
  refine wpQuiet_nil ?_
  intro w4 hw4
  obtain ⟨q, rfl⟩ := hw4
  have y0 := hV.c0
  have y1 := hV.c1
  have y2 := hV.c2
  have y3 := hV.fz
  go_wp2
  exact bodyPost_ret (v := group.entV ki vn hh) (by simp [results, Tryz.results10, go_sem]) rfl ⟨rfl, (((under.below_step hb (below_drewN' _ q)).setCell (by simp) _).setCell (by simp) _).setCell (by simp) _⟩
end Go.Proofs.YtlgjmnckdjkngaaGreatDoor.table
