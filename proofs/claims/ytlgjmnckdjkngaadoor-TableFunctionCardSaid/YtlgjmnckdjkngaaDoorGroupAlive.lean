/- group: what the laws' worlds hold; the chapter's example. -/
import Derived.Test.YtlgjmnckdjkngaaDoorGroupFind
namespace Go.Proofs.YtlgjmnckdjkngaaDoor.group
open Go.ChangeShapes Go.WideShapes Go.ChangeAt Go.RowKit swar trap under meter tail
set_option linter.unusedSimpArgs false
set_option linter.unusedVariables false

/-- a group and a meter, each in a block of its own that is new -/
structure St (w : World) (Bg Bm : Nat) (g : Gp) (m : Mt) (W : World) : Prop where
  below : Below w.heap.size w W
  ga : GAt Bg 0 g W
  ma : MAt Bm 0 m W
  ne : Bg ≠ Bm
  hg : w.heap.size ≤ Bg
  hm : w.heap.size ≤ Bm
theorem St.read {w : World} {Bg Bm : Nat} {g : Gp} {m : Mt} {W W' : World} (h : St w Bg Bm g m W) (hb : Below W.heap.size W W') : St w Bg Bm g m W' :=
  ⟨under.below_step h.below hb, h.ga.below hb, h.ma.below hb, h.ne, h.hg, h.hm⟩
theorem St.same {w : World} {Bg Bm : Nat} {g : Gp} {m : Mt} {W W' : World} (h : St w Bg Bm g m W) (hb : W = W') : St w Bg Bm g m W' := hb ▸ h
theorem St.gstep {w : World} {Bg Bm : Nat} {g g' : Gp} {m : Mt} {W W' : World} (h : St w Bg Bm g m W) (hs : GStep Bg 0 g' W W') : St w Bg Bm g' m W' :=
  ⟨h.below.trans (hs.past.below h.below.size (by simpa using h.hg)), hs.at', h.ma.past hs.past (by simp; exact fun e => h.ne e.symm), h.ne, h.hg, h.hm⟩
theorem St.mstep {w : World} {Bg Bm : Nat} {g : Gp} {m m' : Mt} {W W' : World} (h : St w Bg Bm g m W) (hs : MStep Bm 0 m' W W') : St w Bg Bm g m' W' :=
  ⟨h.below.trans (hs.past.below h.below.size (by simpa using h.hm)), h.ga.past hs.past (by simp; exact h.ne), hs.at', h.ne, h.hg, h.hm⟩
theorem St.new (w : World) : St w w.heap.size (w.heap.size + 1) .new .zero ((w.alloc (.cells newRow 89)).alloc (.cells #[.int .i64 0, .int .i64 0, .int .i64 0, .int .i64 0, .int .i64 0, .int .i64 0, .int .i64 0, .bool false] 34)) := by
  have h1 := GAt.new w
  have h2 := MAt.new (w.alloc (.cells newRow 89))
  rw [World.size_alloc] at h2
  exact ⟨two_new w _ _, h1.below (new_block _ _), h2, by omega, Nat.le_refl _, by omega⟩

/-- an entry, put into a new group at 3 -/
def aliveG : Gp := Gp.new.put 3 ⟨3, 1, 0, 0⟩
theorem alive_text : ctrl.textN (word aliveG) = ⟨#[46, 46, 46, 35, 46, 46, 46, 46]⟩ := by decide +kernel
theorem alive_two : ((Mt.zero.probes 1).probes 1).pl = 2 := by decide
theorem fld_counts (a b c : Int) (W : World) : (Instr.field 46 (.agg #[.int .i64 a, .int .i64 b, .int .i64 c]) 0).run Tryd.prog W = .ok (.int .i64 a) W := by kernel_rfl
end Go.Proofs.YtlgjmnckdjkngaaDoor.group
