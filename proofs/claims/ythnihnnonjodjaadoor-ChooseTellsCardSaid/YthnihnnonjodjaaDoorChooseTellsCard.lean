/- 'ChooseTells', tied: for every five numbers and every kind the law returns true, and its arguments read as they did. No condition of ours. -/
import Derived.Test.YthnihnnonjodjaaDoorCards
import Derived.Test.YthnihnnonjodjaaDoorTie
import Derived.Test.YthnihnnonjodjaaDoorChooseTells
import Derived.Test.YthnihnnonjodjaaDoorChooseLaid
import Derived.Test.YthnihnnonjodjaaDoorLaidParts
import Derived.OpenShut
import Derived.ChangeOld
import Derived.Deep.DeepHandedRow
import Derived.Lib.LaidTab
import Derived.Lay
import Derived.Deep.DeepWitnessRowRef
namespace Go.Proofs.YthnihnnonjodjaaDoor.chooseTells
open Go.ChangeShapes Go.WideShapes Go.ChangeAt Go.RowKit
open Go.ChangeMaps (open_string shut_string)

theorem own : ownKnob Tryd.prog.godebug = none := by kernel_rfl
theorem laidOut : laidOutB Tryd.prog = true := by kernel_rfl
theorem cells_amblerlaw14_Numbers : Tryd.prog.cellsOf 23 = 5 := by kernel_rfl
theorem cells_int : Tryd.prog.cellsOf 3 = 1 := by kernel_rfl
theorem kept : Rows.chooseTellsRow.laid.filter choose.keepE = [("ambler/api.ErrRange", Rows.laid_ambler_api_ErrRange), ("ambler/api.ErrFull", Rows.laid_ambler_api_ErrFull), ("ambler/api.ErrForm", Rows.laid_ambler_api_ErrForm), ("ambler/api.ErrNone", Rows.laid_ambler_api_ErrNone), ("ambler/api.ErrState", Rows.laid_ambler_api_ErrState), ("ambler/api.ErrBadIter", Rows.laid_ambler_api_ErrBadIter), ("ambler/api.ErrTooMany", Rows.laid_ambler_api_ErrTooMany), ("ambler/api.ErrHash", Rows.laid_ambler_api_ErrHash), ("ambler/api.ErrLong", Rows.laid_ambler_api_ErrLong), ("ambler/api.ErrBroken", Rows.laid_ambler_api_ErrBroken), ("ambler/api.ErrLimit", Rows.laid_ambler_api_ErrLimit), ("ambler/api.ErrEmpty", Rows.laid_ambler_api_ErrEmpty), ("ambler/api.ErrNumber", Rows.laid_ambler_api_ErrNumber), ("ambler/api.ErrKind", Rows.laid_ambler_api_ErrKind), ("ambler/api.ErrName", Rows.laid_ambler_api_ErrName), ("ambler/api.ErrDup", Rows.laid_ambler_api_ErrDup)] := by kernel_rfl
theorem errsOk {W : World} (h : laidMetH Tryd.prog Rows.chooseTellsRow.laid W) : ∃ a, errs.ErrsOk errs.names a W := by
  have h' := laidMetH.filter choose.keepE h
  rw [kept] at h'
  exact errs.ofLaid h' (by kernel_rfl) (by rfl) (by kernel_rfl) (by decide) errs.names (by decide)
theorem wordsOk {W : World} (h : laidMetH Tryd.prog Rows.chooseTellsRow.laid W) : choose.WordsOk W :=
  choose.wordsOk_of h (by kernel_rfl) (List.mem_iff_getElem?.2 ⟨16, rfl⟩)
theorem freshOk {W : World} (h : laidMetH Tryd.prog Rows.chooseTellsRow.laid W) : choose.FreshOk W :=
  choose.freshOk_of h (by kernel_rfl) (List.mem_iff_getElem?.2 ⟨17, rfl⟩)

set_option maxRecDepth 100000 in
theorem contract (H : Type) (enc : TypeId × Value → H) (W : World) (base : Nat) (args : Array Value) (ds gs : List (DataW H)) (before : List MemPlace)
    (hval : ∀ (j : Nat) t v, Tryd.f3.params[j]? = some t → args[j]? = some v → Value.okWide Tryd.prog W .any base t v)
    (hW : DataW.Whole enc Tryd.prog Tryd.f3.params.toList Rows.chooseTellsSpec.vars false W args.toList ds gs before) (hL : laidMetH Tryd.prog Rows.chooseTellsRow.laid W) :
    Calls Tryd.prog 3 args W fun e W' => ∃ v, e = .returned v ∧ Rows.chooseTellsSpec.post enc Tryd.prog Tryd.f3 false true false false W args v W' := by
  have hW' := hW
  obtain ⟨p, q, hA0, hV, rfl, hfz, hnd⟩ := hW
  have hA : DataW.TrodAll enc Tryd.prog W 0 (fun _ => true) true Tryd.f3.params.toList args.toList ds p := hA0
  rw [Tryd.params3] at hA hval
  obtain ⟨v0, vs0, d0, ds0, p0, q0, hargs, rfl, rfl, h0, r0⟩ := trodAll_cons hA
  obtain ⟨v1, vs1, d1, ds1, p1, q1, rfl, rfl, rfl, h1, r1⟩ := trodAll_cons r0
  obtain ⟨rfl, rfl, rfl⟩ := trodAll_nil r1
  obtain rfl : args = #[v0, v1] := by cases args; simp_all
  obtain ⟨rfl, rfl⟩ := trodVars_none hV
  have k0 := h0
  have lt0 : ∀ x ∈ p0, x.block < W.heap.size := by obtain ⟨m, hm⟩ := k0; exact DataW.trod_lt m _ _ _ hm
  have k1 := h1
  obtain ⟨zs0, hz0, rfl, w0⟩ := opens.open_struct_ints (k := .i64) Tryd.underlying23 (fun j f hj => by
    match j, hj with
    | 0, hj => simp at hj; subst hj; exact ⟨Tryd.underlying3, rfl, cells_int⟩
    | 1, hj => simp at hj; subst hj; exact ⟨Tryd.underlying3, rfl, cells_int⟩
    | 2, hj => simp at hj; subst hj; exact ⟨Tryd.underlying3, rfl, cells_int⟩
    | 3, hj => simp at hj; subst hj; exact ⟨Tryd.underlying3, rfl, cells_int⟩
    | 4, hj => simp at hj; subst hj; exact ⟨Tryd.underlying3, rfl, cells_int⟩
    | j + 5, hj => simp at hj) cells_amblerlaw14_Numbers (hval 0 23 v0 rfl rfl) h0
  obtain ⟨z0_0, z0_1, z0_2, z0_3, z0_4, rfl⟩ := opens.list5 hz0
  simp only [List.map_cons, List.map_nil] at *
  obtain ⟨x1, rfl, rfl, rfl, w1⟩ := open_int Tryd.underlying3 (hval 1 3 v1 rfl rfl) h1
  clear hA0
  obtain ⟨a, ha⟩ := errsOk hL
  refine (choose.tells_any z0_0 z0_1 z0_2 z0_3 z0_4 x1 (by have := w0 _ (List.mem_cons_self ..); have := bounds_i64 this; omega) a W (wordsOk hL) ha (freshOk hL)).mono fun e W' ⟨he, hg⟩ => ?_
  subst he
  exact ⟨_, rfl, _, _, _, [], _, [], hW', trodAll_mk1 (shut_bool Tryd.underlying4 _), (trodAll_cons_mk (Below.trod laidOut (by kernel_rfl) (of_decide_eq_true (by kernel_rfl)) k0 hg lt0) (trodAll_cons_mk (shut_int Tryd.underlying3 w1) trodAll_mk0)), rfl, hg.frame _, fun h => by cases h⟩

noncomputable def laidWorld (os : Os) : World := World.laidAll Tryd.prog os Rows.chooseTellsRow.laid
theorem laid_met (os : Os) : laidMetH Tryd.prog Rows.chooseTellsRow.laid ((laidWorld os).forCall (fun _ _ => 0) ⟨#[], #[.agg #[.int .i64 0, .int .i64 0, .int .i64 0, .int .i64 0, .int .i64 0], .int .i64 0], []⟩).memory := by
  rw [MakeChecks.laidMetH_plain _ _ _ (by kernel_rfl)]; exact laidMet_laidAll _ (by kernel_rfl) (by kernel_rfl)
theorem reads (os : Os) {H : Type} (enc : TypeId × Value → H) : ∃ places, DataW.whole enc Tryd.prog ((laidWorld os).forCall (fun _ _ => 0) ⟨#[], #[.agg #[.int .i64 0, .int .i64 0, .int .i64 0, .int .i64 0, .int .i64 0], .int .i64 0], []⟩).memory Tryd.f3.params.toList Rows.chooseTellsSpec.vars false #[Value.agg #[.int .i64 0, .int .i64 0, .int .i64 0, .int .i64 0, .int .i64 0], .int .i64 0].toList 8 = some ([.agg [.lit (.int .i64 0), .lit (.int .i64 0), .lit (.int .i64 0), .lit (.int .i64 0), .lit (.int .i64 0)], .lit (.int .i64 0)], [], places) :=
  ⟨[], by kernel_rfl⟩

set_option maxRecDepth 100000 in
theorem lifted (os : Os) (started : os.Started) (H : Type) (enc : TypeId × Value → H) (F : Stop.Interp) :
    ReturnsInHanded {} Tryd.checked os 3 .any ((OpenSpec.ofChange Rows.chooseTellsSpec).preRow enc Tryd.prog Tryd.f3 Rows.chooseTellsRow.domain false Rows.chooseTellsRow.laid) (((OpenSpec.ofChange Rows.chooseTellsSpec).at F).post enc Tryd.prog Tryd.f3 false true false false) := by
  obtain ⟨places, hx⟩ := reads os enc
  refine returnsInHanded_of_row (C := Tryd.checked) (s := OpenSpec.ofChange Rows.chooseTellsSpec) own started (by kernel_rfl) Tryd.func3
    (witness_row_atRef (enc := enc) (C := Tryd.checked) false (laidWorld os) #[.agg #[.int .i64 0, .int .i64 0, .int .i64 0, .int .i64 0, .int .i64 0], .int .i64 0] (World.laidAll_os _ _ _) (by kernel_rfl) (by kernel_rfl) (by kernel_rfl)
      (OpenSpec.preRow_of_cond 8 hx (by kernel_rfl) (fun k hk => by cases hk) (by kernel_rfl) (laid_met os))) ?_
  intro W base args ds gs before hval hW _ _ _ hL _ _
  exact contract H enc W base args ds gs before hval hW hL

theorem said : Rows.ChooseTellsSaid :=
  OpenClaim.holds_of_cond 3 Tryd.f3 rfl rfl rfl rfl rfl rfl rfl ⟨rfl, rfl, rfl, rfl, rfl⟩ rfl rfl rfl rfl rfl (by kernel_rfl) Tryd.func3 (by kernel_rfl)
    (of_decide_eq_true (by kernel_rfl)) (by unfold Func.isWrapper; first | (rw [if_pos (by decide +kernel)]; kernel_rfl) | (rw [if_neg (by decide +kernel)]; exact ⟨rfl, rfl⟩))
    (fun os started H enc _ F => by rw [OpenClaim.pre_eq_preRow]; exact lifted os started H enc F)

theorem plain (f : FuncId) (fn : Func) (hf : Tryd.pinned.checked.prog.funcNamed "ambler/amblerlaw14.ChooseTells" = some f) (hfn : Tryd.pinned.checked.prog.funcs[f]? = some fn) :
    true = Tryd.pinned.checked.prog.looks [] ∧ ∀ (j : Nat) t, fn.params[j]? = some t → Tryd.pinned.checked.prog.wantsStandIn t = false := by
  obtain rfl : f = 3 := Option.some.inj ((show Tryd.prog.funcNamed "ambler/amblerlaw14.ChooseTells" = some 3 by kernel_rfl).symm.trans hf) |>.symm
  obtain rfl : fn = Tryd.f3 := (Option.some.inj (Tryd.func3.symm.trans hfn)).symm
  refine ⟨by kernel_rfl, fun j t ht => ?_⟩
  rw [Tryd.params3] at ht
  have h := Array.mem_of_getElem? ht
  simp only [List.mem_toArray, List.mem_cons, List.not_mem_nil, or_false] at h
  rcases h with rfl | rfl
  · exact (show Tryd.prog.wantsStandIn 23 = false by kernel_rfl)
  · exact (show Tryd.prog.wantsStandIn 3 = false by kernel_rfl)

theorem card : Rows.ChooseTellsCardSaid :=
  Claim7.holds_tied_plain_at .later [] _ _ _ _ said (fun _ h => by cases h) (by kernel_rfl) (fun _ h => by cases h) chooseTells_row_tie rfl ⟨rfl, rfl⟩ (by kernel_rfl) rfl plain (by kernel_rfl)
end Go.Proofs.YthnihnnonjodjaaDoor.chooseTells
