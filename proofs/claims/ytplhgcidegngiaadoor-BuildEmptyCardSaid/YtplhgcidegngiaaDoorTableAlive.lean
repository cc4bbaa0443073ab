/- table: what the laws' worlds hold; the chapter's example. -/
import Derived.Test.YtplhgcidegngiaaDoorTableDel
import Derived.Test.YtplhgcidegngiaaDoorTableNew
import Derived.Test.YtplhgcidegngiaaDoorTableText
import Derived.Test.YtplhgcidegngiaaDoorNum
import Derived.Test.YtplhgcidegngiaaDoorTrapActs
namespace Go.Proofs.YtplhgcidegngiaaDoor.table
open Go.ChangeShapes Go.WideShapes Go.ChangeAt Go.RowKit Go.Shelf swar under trap meter group probe lens tail call
attribute [local go_sem] Oper.semAt_some stage.pureUpon move.stepUpon
set_option linter.unusedSimpArgs false
set_option linter.unusedVariables false

/-- the errors that the contracts read -/
theorem errs6 {a : String → Addr} {w : World} (h : errs.ErrsOk errs.names a w) : Errs6 a w :=
  ⟨⟨h.at errs.gErrRange (errs.nm_mem (i := 0) (by decide)), h.at errs.gErrState (errs.nm_mem (i := 4) (by decide))⟩, h.at errs.gErrFull (errs.nm_mem (i := 1) (by decide)), h.at errs.gErrNone (errs.nm_mem (i := 3) (by decide)), h.at errs.gErrKind (errs.nm_mem (i := 13) (by decide)), h.at errs.gErrDup (errs.nm_mem (i := 15) (by decide))⟩
/-- what a law's first world holds -/
structure Base (a : String → Addr) (w : World) : Prop where
  errs : errs.ErrsOk errs.names a w
  bits : TabOk w
  far : 17 ≤ w.heap.size
theorem Base.of {a : String → Addr} {w : World} (h : errs.ErrsOk errs.names a w) (hT : TabOk w) : Base a w := ⟨h, hT, hT.lt⟩
theorem Base.below {a : String → Addr} {w W : World} (h : Base a w) (hb : Below w.heap.size w W) : Base a W := ⟨h.errs.below hb, h.bits.below hb h.bits.lt, Nat.le_trans h.far hb.size⟩
/-- a table and a meter, in blocks that are new -/
structure LS (w : World) (T B : Nat) (t : Tb) (Bm : Nat) (m : Mt) (W : World) : Prop where
  below : Below w.heap.size w W
  at' : TAt T B t W
  ok : t.Ok
  ma : MAt Bm 0 m W
  hT : w.heap.size ≤ T
  hB : w.heap.size ≤ B
  hm : w.heap.size ≤ Bm
  nT : Bm ≠ T
  nB : Bm ≠ B
section
variable {a : String → Addr} {w : World} {T B : Nat} {t t' : Tb} {Bm : Nat} {m m' : Mt} {W W' : World}
theorem LS.read (h : LS w T B t Bm m W) (hb : Below W.heap.size W W') : LS w T B t Bm m W' := ⟨under.below_step h.below hb, h.at'.below hb, h.ok, h.ma.below hb, h.hT, h.hB, h.hm, h.nT, h.nB⟩
theorem LS.apart (h : LS w T B t Bm m W) : Apart T B (.pr Bm 0) := fun b hb => by
  obtain rfl : b = Bm := by simpa [Ln.d] using hb
  exact ⟨h.nT, h.nB⟩
theorem LS.pr (h : LS w T B t Bm m W) (hw : Base a w) : Ready a T B t (.pr Bm 0) m W :=
  ⟨h.at', h.ok, h.ma, h.apart, hw.bits.below h.below hw.bits.lt, fun b hb => by
    obtain rfl : b = Bm := by simpa [Ln.d] using hb
    exact Nat.le_trans hw.far h.hm, Nat.le_trans hw.far h.hT, Nat.le_trans hw.far h.hB, errs6 (hw.errs.below h.below)⟩
theorem LS.vi (h : LS w T B t Bm m W) (hw : Base a w) : Ready a T B t (.vi Bm 0) m W :=
  ⟨h.at', h.ok, h.ma, h.apart, hw.bits.below h.below hw.bits.lt, fun b hb => by
    obtain rfl : b = Bm := by simpa [Ln.d] using hb
    exact Nat.le_trans hw.far h.hm, Nat.le_trans hw.far h.hT, Nat.le_trans hw.far h.hB, errs6 (hw.errs.below h.below)⟩
theorem LS.tl (h : LS w T B t Bm m W) (ok : t'.Ok) (hs : TL T B t' (.pr Bm 0) m' W W') : LS w T B t' Bm m' W' := by
  refine ⟨h.below.trans (hs.ln.past.below h.below.size fun b hb => ?_), hs.at', ok, hs.ln.at', h.hT, h.hB, h.hm, h.nT, h.nB⟩
  rcases List.mem_append.1 hb with hb | hb
  · rcases List.mem_cons.1 hb with rfl | hb
    · exact h.hT
    · obtain rfl : b = B := by simpa using hb
      exact h.hB
  · obtain rfl : b = Bm := by simpa [Ln.d] using hb
    exact h.hm
theorem LS.look (h : LS w T B t Bm m W) (hs : LnStep [] (.pr Bm 0) m' W W') : LS w T B t Bm m' W' := h.tl h.ok (.look h.at' h.apart hs)
theorem LS.lookv (h : LS w T B t Bm m W) (hs : LnStep [] (.vi Bm 0) m' W W') : LS w T B t Bm m' W' := h.look ⟨hs.past, hs.side, hs.at'⟩
theorem LS.mstep (h : LS w T B t Bm m W) (hs : MStep Bm 0 m' W W') : LS w T B t Bm m' W' := h.look ⟨by simpa [Ln.d] using hs.past, hs.side, hs.at'⟩
theorem LS.new {w1 : World} (hb : Below w.heap.size w w1) {T B : Nat} (hT : TAt T B t w1) (ok : t.Ok) (h1 : w.heap.size ≤ T) (h2 : w.heap.size ≤ B) : LS w T B t w1.heap.size Mt.zero (w1.alloc (.cells #[.int .i64 0, .int .i64 0, .int .i64 0, .int .i64 0, .int .i64 0, .int .i64 0, .int .i64 0, .bool false] 36)) :=
  ⟨under.below_step hb (new_block w1 _), hT.below (new_block w1 _), ok, MAt.new w1, h1, h2, hb.size, by have := hT.lt; omega, by have := hT.lb; omega⟩
end
/-- the example: so many entries in a table of one group -/
def aliveT : Nat → Tb
  | 0 => Tb.new 1
  | k + 1 => (aliveT k).puts k 0 (2 * k)
theorem aliveT_n : ∀ k, (aliveT k).n = 1
  | 0 => rfl
  | k + 1 => by rw [aliveT, puts_n]; exact aliveT_n k
theorem aliveT_ok : ∀ k, k ≤ 7 → (aliveT k).Ok
  | 0, _ => Tb.Ok.new (by decide)
  | k + 1, h => (aliveT_ok k (by omega)).puts (by omega) (by decide) (by omega)
theorem alive_7 : ∀ k : Fin 7, putB' (aliveT k.val) k.val 0 = true ∧ putE' (aliveT k.val) k.val 0 = 0 := by decide +kernel
theorem alive_8 : putB' (aliveT 7) 8 0 = false ∧ putE' (aliveT 7) 8 0 = 2 := by decide +kernel
theorem alive_t8 : (aliveT 7).puts 8 0 0 = aliveT 7 := by
  unfold Tb.puts
  rw [show isThere (aliveT 7) 8 0 = false by decide +kernel, if_neg (by decide), place_no (by decide +kernel)]
theorem alive_3 : isThere (aliveT 7) 3 0 = true ∧ (entOf (aliveT 7) 3 0).val = 6 ∧ (aliveT 7).left = 0 := by decide +kernel
end Go.Proofs.YtplhgcidegngiaaDoor.table
