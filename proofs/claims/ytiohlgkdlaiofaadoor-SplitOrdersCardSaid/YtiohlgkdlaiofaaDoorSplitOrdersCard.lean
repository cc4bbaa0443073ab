/- 'SplitOrders', tied: for every two entries and every depth the law returns true, and its arguments read as they did. No condition of ours. -/
import Derived.Test.YtiohlgkdlaiofaaDoorCards
import Derived.Test.YtiohlgkdlaiofaaDoorTie
import Derived.Test.YtiohlgkdlaiofaaDoorSplitOrders
import Derived.Test.YtiohlgkdlaiofaaDoorOpen
import Derived.OpenShut
import Derived.ChangeOld
import Derived.Deep.DeepHandedRow
import Derived.Lib.LaidTab
import Derived.Test.YtiohlgkdlaiofaaDoorErrLaid
import Derived.Lay
import Derived.Deep.DeepWitnessRowRef
namespace Go.Proofs.YtiohlgkdlaiofaaDoor.splitOrders
open Go.ChangeShapes Go.WideShapes Go.ChangeAt Go.RowKit
open Go.ChangeMaps (open_string shut_string)

theorem own : ownKnob Tryd.prog.godebug = none := by kernel_rfl
theorem laidOut : laidOutB Tryd.prog = true := by kernel_rfl
theorem cells_api_Entry : Tryd.prog.cellsOf 45 = 3 := by kernel_rfl
theorem cells_uint64 : Tryd.prog.cellsOf 22 = 1 := by kernel_rfl
theorem errsOk {W : World} (h : laidMetH Tryd.prog Rows.splitOrdersRow.laid W) : ∃ a, errs.ErrsOk ["ambler/api.ErrRange"] a W :=
  errs.ofLaid h (by kernel_rfl) (by rfl) (by kernel_rfl) (by decide) ["ambler/api.ErrRange"] (by decide)

set_option maxRecDepth 100000 in
theorem contract (H : Type) (enc : TypeId × Value → H) (W : World) (base : Nat) (args : Array Value) (ds gs : List (DataW H)) (before : List MemPlace)
    (hval : ∀ (j : Nat) t v, Tryd.f5.params[j]? = some t → args[j]? = some v → Value.okWide Tryd.prog W .any base t v)
    (hW : DataW.Whole enc Tryd.prog Tryd.f5.params.toList Rows.splitOrdersSpec.vars false W args.toList ds gs before) (hL : laidMetH Tryd.prog Rows.splitOrdersRow.laid W) :
    Calls Tryd.prog 5 args W fun e W' => ∃ v, e = .returned v ∧ Rows.splitOrdersSpec.post enc Tryd.prog Tryd.f5 false true false false W args v W' := by
  have hW' := hW
  obtain ⟨p, q, hA0, hV, rfl, hfz, hnd⟩ := hW
  have hA : DataW.TrodAll enc Tryd.prog W 0 (fun _ => true) true Tryd.f5.params.toList args.toList ds p := hA0
  rw [Tryd.params5] at hA hval
  obtain ⟨v0, vs0, d0, ds0, p0, q0, hargs, rfl, rfl, h0, r0⟩ := trodAll_cons hA
  obtain ⟨v1, vs1, d1, ds1, p1, q1, rfl, rfl, rfl, h1, r1⟩ := trodAll_cons r0
  obtain ⟨v2, vs2, d2, ds2, p2, q2, rfl, rfl, rfl, h2, r2⟩ := trodAll_cons r1
  obtain ⟨rfl, rfl, rfl⟩ := trodAll_nil r2
  obtain rfl : args = #[v0, v1, v2] := by cases args; simp_all
  obtain ⟨rfl, rfl⟩ := trodVars_none hV
  have k0 := h0
  have lt0 : ∀ x ∈ p0, x.block < W.heap.size := by obtain ⟨m, hm⟩ := k0; exact DataW.trod_lt m _ _ _ hm
  have k1 := h1
  have lt1 : ∀ x ∈ p1, x.block < W.heap.size := by obtain ⟨m, hm⟩ := k1; exact DataW.trod_lt m _ _ _ hm
  have k2 := h2
  obtain ⟨zs0, hz0, rfl, w0⟩ := opens.open_struct_ints (k := .u64) Tryd.underlying45 (fun j f hj => by
    match j, hj with
    | 0, hj => simp at hj; subst hj; exact ⟨Tryd.underlying22, rfl, cells_uint64⟩
    | 1, hj => simp at hj; subst hj; exact ⟨Tryd.underlying22, rfl, cells_uint64⟩
    | 2, hj => simp at hj; subst hj; exact ⟨Tryd.underlying22, rfl, cells_uint64⟩
    | j + 3, hj => simp at hj) cells_api_Entry (hval 0 45 v0 rfl rfl) h0
  obtain ⟨z0_0, z0_1, z0_2, rfl⟩ := opens.list3 hz0
  simp only [List.map_cons, List.map_nil] at *
  obtain ⟨zs1, hz1, rfl, w1⟩ := opens.open_struct_ints (k := .u64) Tryd.underlying45 (fun j f hj => by
    match j, hj with
    | 0, hj => simp at hj; subst hj; exact ⟨Tryd.underlying22, rfl, cells_uint64⟩
    | 1, hj => simp at hj; subst hj; exact ⟨Tryd.underlying22, rfl, cells_uint64⟩
    | 2, hj => simp at hj; subst hj; exact ⟨Tryd.underlying22, rfl, cells_uint64⟩
    | j + 3, hj => simp at hj) cells_api_Entry (hval 1 45 v1 rfl rfl) h1
  obtain ⟨z1_0, z1_1, z1_2, rfl⟩ := opens.list3 hz1
  simp only [List.map_cons, List.map_nil] at *
  obtain ⟨x2, rfl, rfl, rfl, w2⟩ := open_int Tryd.underlying3 (hval 2 3 v2 rfl rfl) h2
  clear hA0
  have b00 := bounds_u64 (w0 z0_0 (by simp))
  have b01 := bounds_u64 (w0 z0_1 (by simp))
  have b02 := bounds_u64 (w0 z0_2 (by simp))
  have b10 := bounds_u64 (w1 z1_0 (by simp))
  have b11 := bounds_u64 (w1 z1_1 (by simp))
  have b12 := bounds_u64 (w1 z1_2 (by simp))
  obtain ⟨n00, rfl⟩ := Int.eq_ofNat_of_zero_le b00.1
  obtain ⟨n01, rfl⟩ := Int.eq_ofNat_of_zero_le b01.1
  obtain ⟨n02, rfl⟩ := Int.eq_ofNat_of_zero_le b02.1
  obtain ⟨n10, rfl⟩ := Int.eq_ofNat_of_zero_le b10.1
  obtain ⟨n11, rfl⟩ := Int.eq_ofNat_of_zero_le b11.1
  obtain ⟨n12, rfl⟩ := Int.eq_ofNat_of_zero_le b12.1
  obtain ⟨a, ha⟩ := errsOk hL
  refine (split.orders_any n00 n01 n02 n10 n11 n12 x2 (by omega) (by omega) (by omega) (by omega) (by have := bounds_i64 w2; omega) W a ha).mono fun e W' ⟨he, hg⟩ => ?_
  subst he
  exact ⟨_, rfl, _, _, _, [], _, [], hW', trodAll_mk1 (shut_bool Tryd.underlying4 _), (trodAll_cons_mk (Below.trod laidOut (by kernel_rfl) (of_decide_eq_true (by kernel_rfl)) k0 hg lt0) (trodAll_cons_mk (Below.trod laidOut (by kernel_rfl) (of_decide_eq_true (by kernel_rfl)) k1 hg lt1) (trodAll_cons_mk (shut_int Tryd.underlying3 w2) trodAll_mk0))), rfl, hg.frame _, fun h => by cases h⟩

noncomputable def laidWorld (os : Os) : World := World.laidAll Tryd.prog os Rows.splitOrdersRow.laid
theorem laid_met (os : Os) : laidMetH Tryd.prog Rows.splitOrdersRow.laid ((laidWorld os).forCall (fun _ _ => 0) ⟨#[], #[.agg #[.int .u64 0, .int .u64 0, .int .u64 0], .agg #[.int .u64 0, .int .u64 0, .int .u64 0], .int .i64 0], []⟩).memory := by
  rw [MakeChecks.laidMetH_plain _ _ _ (by kernel_rfl)]; exact laidMet_laidAll _ (by kernel_rfl) (by kernel_rfl)
theorem reads (os : Os) {H : Type} (enc : TypeId × Value → H) : ∃ places, DataW.whole enc Tryd.prog ((laidWorld os).forCall (fun _ _ => 0) ⟨#[], #[.agg #[.int .u64 0, .int .u64 0, .int .u64 0], .agg #[.int .u64 0, .int .u64 0, .int .u64 0], .int .i64 0], []⟩).memory Tryd.f5.params.toList Rows.splitOrdersSpec.vars false #[Value.agg #[.int .u64 0, .int .u64 0, .int .u64 0], .agg #[.int .u64 0, .int .u64 0, .int .u64 0], .int .i64 0].toList 8 = some ([.agg [.lit (.int .u64 0), .lit (.int .u64 0), .lit (.int .u64 0)], .agg [.lit (.int .u64 0), .lit (.int .u64 0), .lit (.int .u64 0)], .lit (.int .i64 0)], [], places) :=
  ⟨[], by kernel_rfl⟩

set_option maxRecDepth 100000 in
theorem lifted (os : Os) (started : os.Started) (H : Type) (enc : TypeId × Value → H) (F : Stop.Interp) :
    ReturnsInHanded {} Tryd.checked os 5 .any ((OpenSpec.ofChange Rows.splitOrdersSpec).preRow enc Tryd.prog Tryd.f5 Rows.splitOrdersRow.domain false Rows.splitOrdersRow.laid) (((OpenSpec.ofChange Rows.splitOrdersSpec).at F).post enc Tryd.prog Tryd.f5 false true false false) := by
  obtain ⟨places, hx⟩ := reads os enc
  refine returnsInHanded_of_row (C := Tryd.checked) (s := OpenSpec.ofChange Rows.splitOrdersSpec) own started (by kernel_rfl) Tryd.func5
    (witness_row_atRef (enc := enc) (C := Tryd.checked) false (laidWorld os) #[.agg #[.int .u64 0, .int .u64 0, .int .u64 0], .agg #[.int .u64 0, .int .u64 0, .int .u64 0], .int .i64 0] (World.laidAll_os _ _ _) (by kernel_rfl) (by kernel_rfl) (by kernel_rfl)
      (OpenSpec.preRow_of_cond 8 hx (by kernel_rfl) (fun k hk => by cases hk) (by kernel_rfl) (laid_met os))) ?_
  intro W base args ds gs before hval hW _ _ _ hL _ _
  exact contract H enc W base args ds gs before hval hW hL

theorem said : Rows.SplitOrdersSaid :=
  OpenClaim.holds_of_cond 5 Tryd.f5 rfl rfl rfl rfl rfl rfl rfl ⟨rfl, rfl, rfl, rfl, rfl⟩ rfl rfl rfl rfl rfl (by kernel_rfl) Tryd.func5 (by kernel_rfl)
    (of_decide_eq_true (by kernel_rfl)) (by unfold Func.isWrapper; first | (rw [if_pos (by decide +kernel)]; kernel_rfl) | (rw [if_neg (by decide +kernel)]; exact ⟨rfl, rfl⟩))
    (fun os started H enc _ F => by rw [OpenClaim.pre_eq_preRow]; exact lifted os started H enc F)

theorem plain (f : FuncId) (fn : Func) (hf : Tryd.pinned.checked.prog.funcNamed "ambler/amblerlaw03.SplitOrders" = some f) (hfn : Tryd.pinned.checked.prog.funcs[f]? = some fn) :
    true = Tryd.pinned.checked.prog.looks [] ∧ ∀ (j : Nat) t, fn.params[j]? = some t → Tryd.pinned.checked.prog.wantsStandIn t = false := by
  obtain rfl : f = 5 := Option.some.inj ((show Tryd.prog.funcNamed "ambler/amblerlaw03.SplitOrders" = some 5 by kernel_rfl).symm.trans hf) |>.symm
  obtain rfl : fn = Tryd.f5 := (Option.some.inj (Tryd.func5.symm.trans hfn)).symm
  refine ⟨by kernel_rfl, fun j t ht => ?_⟩
  rw [Tryd.params5] at ht
  have h := Array.mem_of_getElem? ht
  simp only [List.mem_toArray, List.mem_cons, List.not_mem_nil, or_false] at h
  rcases h with rfl | rfl | rfl
  · exact (show Tryd.prog.wantsStandIn 45 = false by kernel_rfl)
  · exact (show Tryd.prog.wantsStandIn 45 = false by kernel_rfl)
  · exact (show Tryd.prog.wantsStandIn 3 = false by kernel_rfl)

theorem card : Rows.SplitOrdersCardSaid :=
  Claim7.holds_tied_plain_at .later [] _ _ _ _ said (fun _ h => by cases h) (by kernel_rfl) (fun _ h => by cases h) splitOrders_row_tie rfl ⟨rfl, rfl⟩ (by kernel_rfl) rfl plain (by kernel_rfl)
end Go.Proofs.YtiohlgkdlaiofaaDoor.splitOrders
