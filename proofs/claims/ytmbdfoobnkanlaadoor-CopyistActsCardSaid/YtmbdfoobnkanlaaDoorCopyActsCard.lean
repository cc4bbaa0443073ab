/- 'CopyistActs', tied: for every depth, every list of entries and every list of acts the law returns true, and its arguments read as they did. No condition of ours. -/
import Derived.Test.YtmbdfoobnkanlaaDoorCards
import Derived.Test.YtmbdfoobnkanlaaDoorTie
import Derived.Test.YtmbdfoobnkanlaaDoorCopyActs
import Derived.Test.YtmbdfoobnkanlaaDoorLaidParts
import Derived.OpenShut
import Derived.ChangeOld
import Derived.Deep.DeepHandedRow
import Derived.Lib.LaidTab
import Derived.Lay
import Derived.Deep.DeepWitnessRowRef
namespace Go.Proofs.YtmbdfoobnkanlaaDoor.copyistActs
open Go.ChangeShapes Go.WideShapes Go.ChangeAt Go.RowKit
open Go.ChangeMaps (open_string shut_string)

theorem own : ownKnob Tryd.prog.godebug = none := by kernel_rfl
theorem laidOut : laidOutB Tryd.prog = true := by kernel_rfl
theorem cells_amblerlaw17_Act : Tryd.prog.cellsOf 38 = 4 := by kernel_rfl
theorem cells_int : Tryd.prog.cellsOf 3 = 1 := by kernel_rfl
theorem errsOk {W : World} (h : laidMetH Tryd.prog Rows.copyistActsRow.laid W) : ∃ a, errs.ErrsOk errs.names a W :=
  errs.ofLaid h (by kernel_rfl) (by rfl) (by kernel_rfl) (by decide) errs.names (by decide)

set_option maxRecDepth 100000 in
theorem contract (H : Type) (enc : TypeId × Value → H) (W : World) (base : Nat) (args : Array Value) (ds gs : List (DataW H)) (before : List MemPlace)
    (hval : ∀ (j : Nat) t v, Tryd.f3.params[j]? = some t → args[j]? = some v → Value.okWide Tryd.prog W .any base t v)
    (hW : DataW.Whole enc Tryd.prog Tryd.f3.params.toList Rows.copyistActsSpec.vars false W args.toList ds gs before) (hL : laidMetH Tryd.prog Rows.copyistActsRow.laid W) :
    Calls Tryd.prog 3 args W fun e W' => ∃ v, e = .returned v ∧ Rows.copyistActsSpec.post enc Tryd.prog Tryd.f3 false true false false W args v W' := by
  have hW' := hW
  obtain ⟨p, q, hA0, hV, rfl, hfz, hnd⟩ := hW
  have hA : DataW.TrodAll enc Tryd.prog W 0 (fun _ => true) true Tryd.f3.params.toList args.toList ds p := hA0
  rw [Tryd.params3] at hA hval
  obtain ⟨v0, vs0, d0, ds0, p0, q0, hargs, rfl, rfl, h0, r0⟩ := trodAll_cons hA
  obtain ⟨v1, vs1, d1, ds1, p1, q1, rfl, rfl, rfl, h1, r1⟩ := trodAll_cons r0
  obtain ⟨v2, vs2, d2, ds2, p2, q2, rfl, rfl, rfl, h2, r2⟩ := trodAll_cons r1
  obtain ⟨rfl, rfl, rfl⟩ := trodAll_nil r2
  obtain rfl : args = #[v0, v1, v2] := by cases args; simp_all
  obtain ⟨rfl, rfl⟩ := trodVars_none hV
  have k0 := h0
  have k1 := h1
  have lt1 : ∀ x ∈ p1, x.block < W.heap.size := by obtain ⟨m, hm⟩ := k1; exact DataW.trod_lt m _ _ _ hm
  have k2 := h2
  have lt2 : ∀ x ∈ p2, x.block < W.heap.size := by obtain ⟨m, hm⟩ := k2; exact DataW.trod_lt m _ _ _ hm
  obtain ⟨x0, rfl, rfl, rfl, w0⟩ := open_int Tryd.underlying3 (hval 0 3 v0 rfl rfl) h0
  obtain ⟨s1, len1, cap1, zs1, rfl, c1⟩ := opens.open_ints_arg Tryd.underlying22 Tryd.underlying3 cells_int (hval 1 22 v1 rfl rfl) h1
  obtain ⟨s2, len2, cap2, zs2, rfl, c2⟩ := opens.open_structs_arg (k := .i64) Tryd.underlying23 Tryd.underlying38 (fun j f hj => by
    match j, hj with
    | 0, hj => simp at hj; subst hj; exact ⟨Tryd.underlying3, rfl, cells_int⟩
    | 1, hj => simp at hj; subst hj; exact ⟨Tryd.underlying3, rfl, cells_int⟩
    | 2, hj => simp at hj; subst hj; exact ⟨Tryd.underlying3, rfl, cells_int⟩
    | 3, hj => simp at hj; subst hj; exact ⟨Tryd.underlying3, rfl, cells_int⟩
    | j + 4, hj => simp at hj) cells_amblerlaw17_Act (hval 2 23 v2 rfl rfl) h2
  clear hA0
  obtain ⟨a, ha⟩ := errsOk hL
  refine (copyist.acts_any a x0 s1 len1 cap1 zs1 s2 len2 cap2 (fun i => ⟨zs2 i 0, zs2 i 1, zs2 i 2, zs2 i 3⟩) W ha (fun i hi => by
    obtain ⟨x, hx, hc, hw⟩ := c1 i hi
    have hlt := World.block_lt_of_cell? W _ hc
    exact ⟨x, hx, fun W' hb => (hb.cell hlt).trans hc⟩) (fun i hi => by
    obtain ⟨x, hx, hc0, hw0⟩ := c2 i hi 0 (by decide)
    obtain ⟨x', hx', hc1, hw1⟩ := c2 i hi 1 (by decide)
    obtain rfl : x = x' := Option.some.inj (hx.symm.trans hx')
    obtain ⟨x', hx', hc2, hw2⟩ := c2 i hi 2 (by decide)
    obtain rfl : x = x' := Option.some.inj (hx.symm.trans hx')
    obtain ⟨x', hx', hc3, hw3⟩ := c2 i hi 3 (by decide)
    obtain rfl : x = x' := Option.some.inj (hx.symm.trans hx')
    have hlt := World.block_lt_of_cell? W _ hc0
    have e1 : W.cell? ⟨(x.add (i * 4)).block, (x.add (i * 4)).off + 1, none⟩ = some (.int .i64 (zs2 i 1)) := by
      have e := hc1
      rw [show ((#[_, _, _, _] : Array Field).size) = 4 from rfl, ← Go.Deep.add_add] at e
      exact e
    have e2 : W.cell? ⟨(x.add (i * 4)).block, (x.add (i * 4)).off + 2, none⟩ = some (.int .i64 (zs2 i 2)) := by
      have e := hc2
      rw [show ((#[_, _, _, _] : Array Field).size) = 4 from rfl, ← Go.Deep.add_add] at e
      exact e
    have e3 : W.cell? ⟨(x.add (i * 4)).block, (x.add (i * 4)).off + 3, none⟩ = some (.int .i64 (zs2 i 3)) := by
      have e := hc3
      rw [show ((#[_, _, _, _] : Array Field).size) = 4 from rfl, ← Go.Deep.add_add] at e
      exact e
    exact ⟨x, hx, fun W' hb => ⟨(hb.cell hlt).trans hc0, (hb.cell (p := ⟨(x.add (i * 4)).block, (x.add (i * 4)).off + 1, none⟩) hlt).trans e1, (hb.cell (p := ⟨(x.add (i * 4)).block, (x.add (i * 4)).off + 2, none⟩) hlt).trans e2, (hb.cell (p := ⟨(x.add (i * 4)).block, (x.add (i * 4)).off + 3, none⟩) hlt).trans e3⟩⟩)).mono fun e W' ⟨he, hg⟩ => ?_
  subst he
  exact ⟨_, rfl, _, _, _, [], _, [], hW', trodAll_mk1 (shut_bool Tryd.underlying4 _), (trodAll_cons_mk (shut_int Tryd.underlying3 w0) (trodAll_cons_mk (Below.trod laidOut (by kernel_rfl) (of_decide_eq_true (by kernel_rfl)) k1 hg lt1) (trodAll_cons_mk (Below.trod laidOut (by kernel_rfl) (of_decide_eq_true (by kernel_rfl)) k2 hg lt2) trodAll_mk0))), rfl, hg.frame _, fun h => by cases h⟩

noncomputable def laidWorld (os : Os) : World := World.laidAll Tryd.prog os Rows.copyistActsRow.laid
theorem laid_met (os : Os) : laidMetH Tryd.prog Rows.copyistActsRow.laid ((laidWorld os).forCall (fun _ _ => 0) ⟨#[], #[.int .i64 0, .slice none 0 0, .slice none 0 0], []⟩).memory := by
  rw [MakeChecks.laidMetH_plain _ _ _ (by kernel_rfl)]; exact laidMet_laidAll _ (by kernel_rfl) (by kernel_rfl)
theorem reads (os : Os) {H : Type} (enc : TypeId × Value → H) : ∃ places, DataW.whole enc Tryd.prog ((laidWorld os).forCall (fun _ _ => 0) ⟨#[], #[.int .i64 0, .slice none 0 0, .slice none 0 0], []⟩).memory Tryd.f3.params.toList Rows.copyistActsSpec.vars false #[Value.int .i64 0, .slice none 0 0, .slice none 0 0].toList 8 = some ([.lit (.int .i64 0), .nil, .nil], [], places) :=
  ⟨[], by kernel_rfl⟩

set_option maxRecDepth 100000 in
theorem lifted (os : Os) (started : os.Started) (H : Type) (enc : TypeId × Value → H) (F : Stop.Interp) :
    ReturnsInHanded {} Tryd.checked os 3 .any ((OpenSpec.ofChange Rows.copyistActsSpec).preRow enc Tryd.prog Tryd.f3 Rows.copyistActsRow.domain false Rows.copyistActsRow.laid) (((OpenSpec.ofChange Rows.copyistActsSpec).at F).post enc Tryd.prog Tryd.f3 false true false false) := by
  obtain ⟨places, hx⟩ := reads os enc
  refine returnsInHanded_of_row (C := Tryd.checked) (s := OpenSpec.ofChange Rows.copyistActsSpec) own started (by kernel_rfl) Tryd.func3
    (witness_row_atRef (enc := enc) (C := Tryd.checked) false (laidWorld os) #[.int .i64 0, .slice none 0 0, .slice none 0 0] (World.laidAll_os _ _ _) (by kernel_rfl) (by kernel_rfl) (by kernel_rfl)
      (OpenSpec.preRow_of_cond 8 hx (by kernel_rfl) (fun k hk => by cases hk) (by kernel_rfl) (laid_met os))) ?_
  intro W base args ds gs before hval hW _ _ _ hL _ _
  exact contract H enc W base args ds gs before hval hW hL

theorem said : Rows.CopyistActsSaid :=
  OpenClaim.holds_of_cond 3 Tryd.f3 rfl rfl rfl rfl rfl rfl rfl ⟨rfl, rfl, rfl, rfl, rfl⟩ rfl rfl rfl rfl rfl (by kernel_rfl) Tryd.func3 (by kernel_rfl)
    (of_decide_eq_true (by kernel_rfl)) (by unfold Func.isWrapper; first | (rw [if_pos (by decide +kernel)]; kernel_rfl) | (rw [if_neg (by decide +kernel)]; exact ⟨rfl, rfl⟩))
    (fun os started H enc _ F => by rw [OpenClaim.pre_eq_preRow]; exact lifted os started H enc F)

theorem plain (f : FuncId) (fn : Func) (hf : Tryd.pinned.checked.prog.funcNamed "ambler/amblerlaw17.CopyistActs" = some f) (hfn : Tryd.pinned.checked.prog.funcs[f]? = some fn) :
    true = Tryd.pinned.checked.prog.looks [] ∧ ∀ (j : Nat) t, fn.params[j]? = some t → Tryd.pinned.checked.prog.wantsStandIn t = false := by
  obtain rfl : f = 3 := Option.some.inj ((show Tryd.prog.funcNamed "ambler/amblerlaw17.CopyistActs" = some 3 by kernel_rfl).symm.trans hf) |>.symm
  obtain rfl : fn = Tryd.f3 := (Option.some.inj (Tryd.func3.symm.trans hfn)).symm
  refine ⟨by kernel_rfl, fun j t ht => ?_⟩
  rw [Tryd.params3] at ht
  have h := Array.mem_of_getElem? ht
  simp only [List.mem_toArray, List.mem_cons, List.not_mem_nil, or_false] at h
  rcases h with rfl | rfl | rfl
  · exact (show Tryd.prog.wantsStandIn 3 = false by kernel_rfl)
  · exact (show Tryd.prog.wantsStandIn 22 = false by kernel_rfl)
  · exact (show Tryd.prog.wantsStandIn 23 = false by kernel_rfl)

theorem card : Rows.CopyistActsCardSaid :=
  Claim7.holds_tied_plain_at .later [] _ _ _ _ said (fun _ h => by cases h) (by kernel_rfl) (fun _ h => by cases h) copyistActs_row_tie rfl ⟨rfl, rfl⟩ (by kernel_rfl) rfl plain (by kernel_rfl)
end Go.Proofs.YtmbdfoobnkanlaaDoor.copyistActs
