/- 'EvacAll', tied: for every case of an evacuation the law returns true, and its argument reads as it did. No condition of ours. -/
import Derived.Test.YtibcokiijlamcaaGreatDoorCards
import Derived.Test.YtibcokiijlamcaaGreatDoorTie
import Derived.Test.YtibcokiijlamcaaGreatDoorEvacAll
import Derived.Test.YtibcokiijlamcaaGreatDoorParts
import Derived.Test.YtibcokiijlamcaaGreatDoorLaid
import Derived.OpenShut
import Derived.ChangeOld
import Derived.Deep.DeepHandedRow
import Derived.Lib.LaidTab
import Derived.Lay
import Derived.Deep.DeepWitnessRowRef
namespace Go.Proofs.YtibcokiijlamcaaGreatDoor.evacAll
open Go.ChangeShapes Go.WideShapes Go.ChangeAt Go.RowKit
open Go.ChangeMaps (open_string shut_string)

theorem own : ownKnob Tryz.prog.godebug = none := by kernel_rfl
theorem laidOut : laidOutB Tryz.prog = true := by kernel_rfl
theorem cells___int : Tryz.prog.cellsOf 23 = 1 := by kernel_rfl
theorem cells___uint64 : Tryz.prog.cellsOf 22 = 1 := by kernel_rfl
theorem cells_amblerlaw12_Case : Tryz.prog.cellsOf 25 = 7 := by kernel_rfl
theorem cells_bool : Tryz.prog.cellsOf 4 = 1 := by kernel_rfl
theorem cells_int : Tryz.prog.cellsOf 3 = 1 := by kernel_rfl
theorem cells_uint64 : Tryz.prog.cellsOf 58 = 1 := by kernel_rfl
theorem errsOk {W : World} (h : laidMetH Tryz.prog Rows.evacAllRow.laid W) : ∃ a, errs.ErrsOk table.names9 a W :=
  errs.ofTab h (by kernel_rfl) (by kernel_rfl) (by rfl) (by kernel_rfl) (by decide) table.names9 (by decide)
theorem gTab : Tryz.prog.globalNamed "math/bits.deBruijn64tab" = some 16 := by kernel_rfl
theorem gTabType : (Tryz.prog.globals[16]?).map (·.type) = some 211 := by kernel_rfl
theorem cellsTab : Tryz.prog.cellsOf 211 = 64 := by kernel_rfl
theorem cellsTabE : Tryz.prog.cellsOf 5 = 1 := by kernel_rfl
def tabList : List Int := [0, 1, 56, 2, 57, 49, 28, 3, 61, 58, 42, 50, 38, 29, 17, 4, 62, 47, 59, 36, 45, 43, 51, 22, 53, 39, 33, 30, 24, 18, 12, 5, 63, 55, 48, 27, 60, 41, 37, 16, 46, 35, 44, 21, 52, 32, 23, 11, 54, 26, 40, 15, 34, 20, 31, 10, 25, 14, 19, 9, 13, 8, 7, 6]
theorem table {W : World} (h : laidMetH Tryz.prog Rows.evacAllRow.laid W) : Lib.TabIs Tryz.prog W "math/bits.deBruijn64tab" .u8 tabList :=
  Lib.tabIs_of_head (rest := _) gTab gTabType Tryz.underlying211 Tryz.underlying5 cellsTabE cellsTab (errs.plainOf h (by kernel_rfl))
theorem tabOk {W : World} (h : laidMetH Tryz.prog Rows.evacAllRow.laid W) : swar.TabOk W :=
  ⟨(table h).cell gTab 62 (by decide), (table h).cell gTab 51 (by decide), (table h).cell gTab 46 (by decide), (table h).cell gTab 54 (by decide), (table h).cell gTab 25 (by decide), (table h).cell gTab 17 (by decide), (table h).cell gTab 33 (by decide), (table h).cell gTab 32 (by decide)⟩

set_option maxRecDepth 100000 in
theorem contract (H : Type) (enc : TypeId × Value → H) (W : World) (base : Nat) (args : Array Value) (ds gs : List (DataW H)) (before : List MemPlace)
    (hval : ∀ (j : Nat) t v, Tryz.f4.params[j]? = some t → args[j]? = some v → Value.okWide Tryz.prog W .any base t v)
    (hW : DataW.Whole enc Tryz.prog Tryz.f4.params.toList Rows.evacAllSpec.vars false W args.toList ds gs before) (hL : laidMetH Tryz.prog Rows.evacAllRow.laid W) :
    Calls Tryz.prog 4 args W fun e W' => ∃ v, e = .returned v ∧ Rows.evacAllSpec.post enc Tryz.prog Tryz.f4 false true false false W args v W' := by
  have hW' := hW
  obtain ⟨p, q, hA0, hV, rfl, hfz, hnd⟩ := hW
  have hA : DataW.TrodAll enc Tryz.prog W 0 (fun _ => true) true Tryz.f4.params.toList args.toList ds p := hA0
  rw [Tryz.params4] at hA hval
  obtain ⟨v0, vs0, d0, ds0, p0, q0, hargs, rfl, rfl, h0, r0⟩ := trodAll_cons hA
  obtain ⟨rfl, rfl, rfl⟩ := trodAll_nil r0
  obtain rfl : args = #[v0] := by cases args; simp_all
  obtain ⟨rfl, rfl⟩ := trodVars_none hV
  have k0 := h0
  have lt0 : ∀ x ∈ p0, x.block < W.heap.size := by obtain ⟨m, hm⟩ := k0; exact DataW.trod_lt m _ _ _ hm
  obtain ⟨cs0, rfl, hl0, hp0⟩ := opens.open_parts Tryz.underlying25 (fun j f hj => by
    match j, hj with
    | 0, hj => simp at hj; subst hj; exact ⟨rfl, cells_int⟩
    | 1, hj => simp at hj; subst hj; exact ⟨rfl, cells_int⟩
    | 2, hj => simp at hj; subst hj; exact ⟨rfl, cells_int⟩
    | 3, hj => simp at hj; subst hj; exact ⟨rfl, cells_bool⟩
    | 4, hj => simp at hj; subst hj; exact ⟨rfl, cells___uint64⟩
    | 5, hj => simp at hj; subst hj; exact ⟨rfl, cells___int⟩
    | 6, hj => simp at hj; subst hj; exact ⟨rfl, cells___int⟩
    | j + 7, hj => simp at hj) cells_amblerlaw12_Case (hval 0 25 v0 rfl rfl) h0
  obtain ⟨y0_0, y0_1, y0_2, y0_3, y0_4, y0_5, y0_6, rfl⟩ := opens.cells7 (cs := cs0) hl0
  obtain ⟨x0_0, rfl, w0_0⟩ := opens.part_int Tryz.underlying3 (hp0 0 _ _ rfl rfl)
  obtain ⟨x0_1, rfl, w0_1⟩ := opens.part_int Tryz.underlying3 (hp0 1 _ _ rfl rfl)
  obtain ⟨x0_2, rfl, w0_2⟩ := opens.part_int Tryz.underlying3 (hp0 2 _ _ rfl rfl)
  obtain ⟨x0_3, rfl⟩ := opens.part_bool Tryz.underlying4 (hp0 3 _ _ rfl rfl)
  obtain ⟨s0_4, len0_4, cap0_4, zs0_4, rfl, c0_4⟩ := opens.part_ints Tryz.underlying22 Tryz.underlying58 cells_uint64 (hp0 4 _ _ rfl rfl)
  obtain ⟨s0_5, len0_5, cap0_5, zs0_5, rfl, c0_5⟩ := opens.part_ints Tryz.underlying23 Tryz.underlying3 cells_int (hp0 5 _ _ rfl rfl)
  obtain ⟨s0_6, len0_6, cap0_6, zs0_6, rfl, c0_6⟩ := opens.part_ints Tryz.underlying23 Tryz.underlying3 cells_int (hp0 6 _ _ rfl rfl)
  clear hA0
  obtain ⟨a, ha⟩ := errsOk hL
  refine (evac.all_law a x0_0 x0_1 x0_2 x0_3 s0_4 len0_4 cap0_4 s0_5 len0_5 cap0_5 s0_6 len0_6 cap0_6 (fun i => (zs0_4 i).toNat) zs0_5 zs0_6 W (table.Bq.of9 ha (tabOk hL)) (fun i hi => by
    obtain ⟨x, hx, hc, hw⟩ := c0_4 i hi
    have b := bounds_u64 hw
    have hlt := World.block_lt_of_cell? W _ hc
    exact ⟨x, hx, by show (zs0_4 i).toNat < _; omega, fun W' hb => by show _ = some (Value.int .u64 (((zs0_4 i).toNat : Nat) : Int)); rw [Int.toNat_of_nonneg b.1]; exact (hb.cell hlt).trans hc⟩) (fun i hi => by
    obtain ⟨x, hx, hc, hw⟩ := c0_5 i hi
    have hlt := World.block_lt_of_cell? W _ hc
    exact ⟨x, hx, fun W' hb => (hb.cell hlt).trans hc⟩) (fun i hi => by
    obtain ⟨x, hx, hc, hw⟩ := c0_6 i hi
    have hlt := World.block_lt_of_cell? W _ hc
    exact ⟨x, hx, fun W' hb => (hb.cell hlt).trans hc⟩)).mono fun e W' ⟨he, hg⟩ => ?_
  subst he
  exact ⟨_, rfl, _, _, _, [], _, [], hW', trodAll_mk1 (shut_bool Tryz.underlying4 _), (trodAll_cons_mk (Below.trod laidOut (by kernel_rfl) (of_decide_eq_true (by kernel_rfl)) k0 hg lt0) trodAll_mk0), rfl, hg.frame _, fun h => by cases h⟩

noncomputable def laidWorld (os : Os) : World := World.laidAll Tryz.prog os Rows.evacAllRow.laid
theorem laid_met (os : Os) : laidMetH Tryz.prog Rows.evacAllRow.laid ((laidWorld os).forCall (fun _ _ => 0) ⟨#[], #[.agg #[.int .i64 0, .int .i64 0, .int .i64 0, .bool false, .slice none 0 0, .slice none 0 0, .slice none 0 0]], []⟩).memory := by
  rw [MakeChecks.laidMetH_plain _ _ _ (by kernel_rfl)]; exact laidMet_laidAll _ (by kernel_rfl) (by kernel_rfl)
theorem reads (os : Os) {H : Type} (enc : TypeId × Value → H) : ∃ places, DataW.whole enc Tryz.prog ((laidWorld os).forCall (fun _ _ => 0) ⟨#[], #[.agg #[.int .i64 0, .int .i64 0, .int .i64 0, .bool false, .slice none 0 0, .slice none 0 0, .slice none 0 0]], []⟩).memory Tryz.f4.params.toList Rows.evacAllSpec.vars false #[Value.agg #[.int .i64 0, .int .i64 0, .int .i64 0, .bool false, .slice none 0 0, .slice none 0 0, .slice none 0 0]].toList 8 = some ([.agg [.lit (.int .i64 0), .lit (.int .i64 0), .lit (.int .i64 0), .lit (.bool false), .nil, .nil, .nil]], [], places) :=
  ⟨[], by kernel_rfl⟩

set_option maxRecDepth 100000 in
theorem lifted (os : Os) (started : os.Started) (H : Type) (enc : TypeId × Value → H) (F : Stop.Interp) :
    ReturnsInHanded {} Tryz.checked os 4 .any ((OpenSpec.ofChange Rows.evacAllSpec).preRow enc Tryz.prog Tryz.f4 Rows.evacAllRow.domain false Rows.evacAllRow.laid) (((OpenSpec.ofChange Rows.evacAllSpec).at F).post enc Tryz.prog Tryz.f4 false true false false) := by
  obtain ⟨places, hx⟩ := reads os enc
  refine returnsInHanded_of_row (C := Tryz.checked) (s := OpenSpec.ofChange Rows.evacAllSpec) own started (by kernel_rfl) Tryz.func4
    (witness_row_atRef (enc := enc) (C := Tryz.checked) false (laidWorld os) #[.agg #[.int .i64 0, .int .i64 0, .int .i64 0, .bool false, .slice none 0 0, .slice none 0 0, .slice none 0 0]] (World.laidAll_os _ _ _) (by kernel_rfl) (by kernel_rfl) (by kernel_rfl)
      (OpenSpec.preRow_of_cond 8 hx (by kernel_rfl) (fun k hk => by cases hk) (by kernel_rfl) (laid_met os))) ?_
  intro W base args ds gs before hval hW _ _ _ hL _ _
  exact contract H enc W base args ds gs before hval hW hL

theorem said : Rows.EvacAllSaid :=
  OpenClaim.holds_of_cond 4 Tryz.f4 rfl rfl rfl rfl rfl rfl rfl ⟨rfl, rfl, rfl, rfl, rfl⟩ rfl rfl rfl rfl rfl (by kernel_rfl) Tryz.func4 (by kernel_rfl)
    (of_decide_eq_true (by kernel_rfl)) (by unfold Func.isWrapper; first | (rw [if_pos (by decide +kernel)]; kernel_rfl) | (rw [if_neg (by decide +kernel)]; exact ⟨rfl, rfl⟩))
    (fun os started H enc _ F => by rw [OpenClaim.pre_eq_preRow]; exact lifted os started H enc F)

theorem plain (f : FuncId) (fn : Func) (hf : Tryz.pinned.checked.prog.funcNamed "ambler/amblerlaw12.EvacAll" = some f) (hfn : Tryz.pinned.checked.prog.funcs[f]? = some fn) :
    true = Tryz.pinned.checked.prog.looks [] ∧ ∀ (j : Nat) t, fn.params[j]? = some t → Tryz.pinned.checked.prog.wantsStandIn t = false := by
  obtain rfl : f = 4 := Option.some.inj ((show Tryz.prog.funcNamed "ambler/amblerlaw12.EvacAll" = some 4 by kernel_rfl).symm.trans hf) |>.symm
  obtain rfl : fn = Tryz.f4 := (Option.some.inj (Tryz.func4.symm.trans hfn)).symm
  refine ⟨by kernel_rfl, fun j t ht => ?_⟩
  rw [Tryz.params4] at ht
  have h := Array.mem_of_getElem? ht
  simp only [List.mem_toArray, List.mem_cons, List.not_mem_nil, or_false] at h
  subst h
  exact (show Tryz.prog.wantsStandIn 25 = false by kernel_rfl)

theorem card : Rows.EvacAllCardSaid :=
  Claim7.holds_tied_plain_at .later [] _ _ _ _ said (fun _ h => by cases h) (by kernel_rfl) (fun _ h => by cases h) evacAll_row_tie rfl ⟨rfl, rfl⟩ (by kernel_rfl) rfl plain (by kernel_rfl)
end Go.Proofs.YtibcokiijlamcaaGreatDoor.evacAll
