/- build: a build, its table and its meter, in blocks that are new; the example. -/
import Derived.Test.YtplhgcidegngiaaDoorBuildFns
import Derived.LoopTactic
namespace Go.Proofs.YtplhgcidegngiaaDoor.build
open Go.ChangeShapes Go.WideShapes Go.ChangeAt Go.RowKit Go.Shelf swar under trap meter group probe lens tail call table
attribute [local go_sem] Oper.semAt_some stage.pureUpon move.stepUpon
set_option linter.unusedSimpArgs false
set_option linter.unusedVariables false

/-- what a meter holds behind so many Steps -/
def mtk (k : Nat) : Mt := ⟨0, 0, k, k, k, k, 0, false⟩
theorem mtk_step {k : Nat} (h : k < 64) : ((mtk k).unit 1).visits 1 = mtk (k + 1) := by
  have e : sm (k : Int) 1 = ((k + 1 : Nat) : Int) := by rw [sm_add (by omega) (by omega) (by omega)]; omega
  show Mt.visits (Mt.units (mtk k) 1) 1 = mtk (k + 1)
  unfold Mt.visits Mt.units mtk
  simp only [e]
theorem mtk_E (k : Nat) : (mtk k).unitE 1 = 0 := rfl
/-- a build, its table and its meter, in blocks that are new -/
structure Bs (w : World) (D T B n k : Nat) (p : Option Addr) (Bm : Nat) (W : World) : Prop where
  bel : Below w.heap.size w W
  bd : Bd D T B n k p Bm 0 (mtk k) W
  hD : w.heap.size ≤ D
  hT : w.heap.size ≤ T
  hB : w.heap.size ≤ B
  hm : w.heap.size ≤ Bm
section
variable {a : String → Addr} {w : World} {D T B n k : Nat} {p : Option Addr} {Bm : Nat} {W W' : World}
theorem Bs.read (h : Bs w D T B n k p Bm W) (hb : Below W.heap.size W W') : Bs w D T B n k p Bm W' := ⟨under.below_step h.bel hb, h.bd.keep hb, h.hD, h.hT, h.hB, h.hm⟩
theorem Bs.past4 (h : Bs w D T B n k p Bm W) (hp : Past [D, T, B, Bm] W W') : Below w.heap.size w W' := h.bel.trans (hp.below h.bel.size (by simp; exact ⟨h.hD, h.hT, h.hB, h.hm⟩))
theorem Bs.step (hw : Base a w) (h : Bs w D T B n k (some ⟨T, 0, none⟩) Bm W) (hk : k < n) (hn : n ≤ 64) :
    Calls Tryd.prog 7 #[.pointer (some ⟨D, 0, none⟩), .pointer (some ⟨Bm, 0, none⟩)] W fun e w' => e = .returned (.bool true) ∧ Bs w D T B n (k + 1) (some ⟨T, 0, none⟩) Bm w' ∧ Past [D, T, B, Bm] W w' :=
  (step_on a D T B n k Bm 0 (mtk k) hk hn (mtk_E k) W h.bd ((hw.errs.below h.bel).at errs.gErrLimit (errs.nm_mem (i := 10) (by decide)))).mono fun e w' ⟨he, h1, h2⟩ => ⟨he, ⟨h.past4 h2, by rw [← mtk_step (show k < 64 by omega)]; exact h1, h.hD, h.hT, h.hB, h.hm⟩, h2⟩
theorem Bs.take (h : Bs w D T B n n (some ⟨T, 0, none⟩) Bm W) (hn : n ≤ 64) :
    Calls Tryd.prog 8 #[.pointer (some ⟨D, 0, none⟩)] W fun e w' => e = .returned (.tuple #[.pointer (some ⟨T, 0, none⟩), .nilIface]) ∧ Bs w D T B n n none Bm w' ∧ Past [D] W w' :=
  (take_on D n ⟨T, 0, none⟩ hn W h.bd.bx).mono fun e w' ⟨he, q, hw'⟩ => by
    have hp : Past [D] W w' := by rw [hw']; exact ((Past.refl [D] W).drewN q).store (.inl (by simp)) _
    refine ⟨he, ⟨h.past4 (hp.mono (by simp)), ?_, h.hD, h.hT, h.hB, h.hm⟩, hp⟩
    rw [hw']
    exact (h.bd.keep (below_drewN' W q)).taken none
theorem Bs.start (hb : Below w.heap.size w W) (hx : BBox D n 0 p W) (ht : PAt (w.heap.size + 1) w.heap.size n 0 W) (hD : w.heap.size + 1 < D) :
    Bs w D (w.heap.size + 1) w.heap.size n 0 p W.heap.size (W.alloc (.cells #[.int .i64 0, .int .i64 0, .int .i64 0, .int .i64 0, .int .i64 0, .int .i64 0, .int .i64 0, .bool false] 36)) := by
  have h1 := hx.lt
  have h2 := ht.lt
  have hb2 := new_block W (.cells #[.int .i64 0, .int .i64 0, .int .i64 0, .int .i64 0, .int .i64 0, .int .i64 0, .int .i64 0, .bool false] 36)
  exact ⟨under.below_step hb hb2, ⟨hx.keep hb2, ht.below hb2, MAt.new W, Mt.zero_ok, by omega, by omega, by omega, by omega, by omega⟩, by omega, by omega, Nat.le_refl _, by omega⟩
end
theorem all_at (Bm k : Nat) (w : World) (h : MAt Bm 0 (mtk k) w) : Calls Tryd.prog 17 #[.pointer (some ⟨Bm, 0, none⟩)] w fun e w' => e = .returned (.agg #[.int .i64 0, .int .i64 (k : Nat), .int .i64 (k : Nat)]) ∧ Below w.heap.size w w' := all_any Bm 0 (mtk k) w h
set_option maxRecDepth 20000 in
set_option maxHeartbeats 2000000 in
theorem alive_any (a : String → Addr) (w : World) (hw : Base a w) : Calls Tryd.prog 4 #[] w fun e w' => e = .returned (.bool true) ∧ Below w.heap.size w w' := by
  have HW := Lib.hid hw
  clear hw
  have hbs := bld_some
  have hts := tab_some
  go_enter Tryd.func4, Tryd.ntmps4
  go_wp2_with (go_at_call 5; refine (new_yes 2 (by decide) w).mono ?_; rintro e w1 ⟨D, rfl, hD, hx1, hp1, hb1⟩)
  have hS0 := Bs.start hb1 hx1 hp1 hD
  clear hx1 hp1 hb1 hD
  generalize w1.alloc (.cells #[.int .i64 0, .int .i64 0, .int .i64 0, .int .i64 0, .int .i64 0, .int .i64 0, .int .i64 0, .bool false] 36) = W0 at hS0 ⊢
  generalize w1.heap.size = Bm at hS0 ⊢
  go_wp2_with (first
    | (go_at_call 7; refine (hS0.step HW.out (by decide) (by decide)).mono ?_; rintro e w2 ⟨rfl, hS1, _⟩; clear hS0)
    | (go_at_call 7; refine (hS1.step HW.out (by decide) (by decide)).mono ?_; rintro e w3 ⟨rfl, hS2, _⟩; clear hS1)
    | (go_at_call 8; refine (hS2.take (by decide)).mono ?_; rintro e w4 ⟨rfl, hS3, _⟩; clear hS2; have hT3 := hS3.bd.tb.all)
    | (go_at_call 16; refine (table.groups_any _ _ _ _ hT3).mono ?_; rintro e w5 ⟨rfl, rfl⟩)
    | (go_at_call 17; refine (all_at Bm 2 _ hS3.bd.mt).mono ?_; rintro e w6 ⟨rfl, hb6⟩))
  go_ret
  exact ⟨by rfl, (hS3.read hb6).bel⟩
end Go.Proofs.YtplhgcidegngiaaDoor.build
