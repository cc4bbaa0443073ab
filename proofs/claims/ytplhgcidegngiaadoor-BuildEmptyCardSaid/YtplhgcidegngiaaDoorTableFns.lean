/- table: the contracts of the methods that look at one group, or at the counts. -/
import Derived.Test.YtplhgcidegngiaaDoorTableAt
import Derived.Test.YtplhgcidegngiaaDoorKit
import Derived.Test.YtplhgcidegngiaaDoorLess
import Derived.Test.YtplhgcidegngiaaDoorGroupEnts
namespace Go.Proofs.YtplhgcidegngiaaDoor.table
open Go.ChangeShapes Go.WideShapes Go.ChangeAt Go.RowKit swar under trap meter group probe lens tail call
attribute [local go_sem] Oper.semAt_some stage.pureUpon move.stepUpon
set_option linter.unusedSimpArgs false
set_option linter.unusedVariables false

theorem len_any (T B : Nat) (t : Tb) (w : World) (h : TAt T B t w) : Calls Tryd.prog 15 #[.pointer (some ⟨T, 0, none⟩)] w fun e w' => e = .returned (.int .i64 t.len) ∧ w = w' := by
  have h1 := h.len
  go_enter Tryd.func15, Tryd.ntmps15
  go_wp2
  go_ret
  exact ⟨rfl, rfl⟩
theorem groups_any (T B : Nat) (t : Tb) (w : World) (h : TAt T B t w) : Calls Tryd.prog 16 #[.pointer (some ⟨T, 0, none⟩)] w fun e w' => e = .returned (.int .i64 t.n) ∧ w = w' := by
  have h1 := h.row
  go_enter Tryd.func16, Tryd.ntmps16
  go_wp2
  go_ret
  exact ⟨rfl, rfl⟩
theorem left_any (T B : Nat) (t : Tb) (ht : t.Ok) (w : World) (h : TAt T B t w) : Calls Tryd.prog 65 #[.pointer (some ⟨T, 0, none⟩)] w fun e w' => e = .returned (.int .i64 t.left) ∧ ∃ q, w' = w.drewN q := by
  have h0 := h.row
  have h1 := h.len
  have h2 := h.tombs
  have hn := okN_le ht.n
  have b1 : 0 ≤ t.len := by rw [ht.len]; omega
  have b2 : 0 ≤ t.tombs := by rw [ht.tombs]; omega
  have b3 : t.len ≤ 8 * t.n := by rw [ht.len]; have := cntT_le 3 t; omega
  have b4 : t.tombs ≤ 8 * t.n := by rw [ht.tombs]; have := cntT_le 2 t; omega
  have e1 : IntKind.i64.wrap (7 * (t.n : Int)) = 7 * (t.n : Int) := IntWalk.i64_in _ (by omega)
  have e2 : IntKind.i64.wrap (7 * (t.n : Int) - t.len) = 7 * (t.n : Int) - t.len := IntWalk.i64_in _ (by omega)
  have e3 : IntKind.i64.wrap (7 * (t.n : Int) - t.len - t.tombs) = t.left := IntWalk.i64_in _ (by omega)
  clear b1 b2 b3 b4 hn ht
  go_enter Tryd.func65, Tryd.ntmps65
  go_wp2
  go_quiet (fail)
  go_wp2
  go_ret
  exact ⟨rfl, _, rfl⟩
theorem view_row (T B n : Nat) (i : Nat) (hi : i < n) (w : World) (h0 : w.cell? ⟨T, 0, none⟩ = some (.slice (some ⟨B, 0, none⟩) n n)) : Calls Tryd.prog 19 #[.pointer (some ⟨T, 0, none⟩), .int .i64 i] w fun e w' => e = .returned (.agg #[.pointer (some ⟨B, i * 25, none⟩)]) ∧ Below w.heap.size w w' := by
  have hi' : (i : Int) < n := by omega
  have hb := new_block w (.cells #[.pointer none] 62)
  have c0 := newc w (.pointer none) 62
  have f0 := newf w (.pointer none) 62
  have hlt : T < w.heap.size := World.block_lt_of_cell? w _ h0
  go_enter Tryd.func19, Tryd.ntmps19
  go_wp2_with (go_at_call 33; refine (look_nil B (i * 25) _).mono ?_; rintro e w' ⟨rfl, hb2⟩; have c1 := keepc hb2 c0; have f1 := keepf hb2 c0 f0)
  exact bodyPost_ret (v := .agg #[.pointer (some ⟨B, i * 25, none⟩)]) (by simp [results, Tryd.results19, go_sem, c1]) rfl ⟨rfl, (under.below_step hb hb2).setCell (by simp) _⟩
theorem view_any (T B : Nat) (t : Tb) (i : Nat) (hi : i < t.n) (w : World) (h : TAt T B t w) : Calls Tryd.prog 19 #[.pointer (some ⟨T, 0, none⟩), .int .i64 i] w fun e w' => e = .returned (.agg #[.pointer (some ⟨B, i * 25, none⟩)]) ∧ Below w.heap.size w w' := view_row T B t.n i hi w h.row
theorem look_row_off (T B n : Nat) (i : Int) (hi : i < 0 ∨ (n : Int) ≤ i) (L : Ln) (w : World) (h0 : w.cell? ⟨T, 0, none⟩ = some (.slice (some ⟨B, 0, none⟩) n n)) (er : Value) (hr : w.cell? ⟨1, 0, none⟩ = some er) :
    Calls Tryd.prog 37 #[.pointer (some ⟨T, 0, none⟩), .agg #[.pointer L.p], .int .i64 i] w fun e w' => e = .returned (.tuple #[.agg #[.pointer none], er]) ∧ Below w.heap.size w w' := by
  have hlt : T < w.heap.size := World.block_lt_of_cell? w _ h0
  have hrl := World.block_lt_of_cell? w _ hr
  have c0 := newc w (.pointer L.p) 44
  have c2 := newc (w.alloc (.cells #[.pointer L.p] 44)) (.pointer none) 62
  have f2 := newf (w.alloc (.cells #[.pointer L.p] 44)) (.pointer none) 62
  have hb := two_new w (.cells #[.pointer L.p] 44) (.cells #[.pointer none] 62)
  have hr2 := keepc hb hr
  generalize L.p = lp at *
  rcases hi with hi | hi
  · have d1 : decide (i < 0) = true := decide_eq_true hi
    go_enter Tryd.func37, Tryd.ntmps37
    go_wp2
    go_region
    all_goals
      go_wp2
      exact bodyPost_ret (v := .tuple #[.agg #[.pointer none], er]) (by simp [results, Tryd.results37, go_sem]) rfl ⟨rfl, under.below_step hb (under.drew_below _)⟩
  · have d1 : decide (i < 0) = false := decide_eq_false (by omega)
    have d2 : decide ((n : Int) ≤ i) = true := decide_eq_true hi
    go_enter Tryd.func37, Tryd.ntmps37
    go_wp2
    go_region
    all_goals
      go_wp2
      exact bodyPost_ret (v := .tuple #[.agg #[.pointer none], er]) (by simp [results, Tryd.results37, go_sem]) rfl ⟨rfl, under.below_step hb (under.drew_below _)⟩
theorem look_off (T B : Nat) (t : Tb) (i : Int) (hi : i < 0 ∨ (t.n : Int) ≤ i) (L : Ln) (w : World) (h : TAt T B t w) (er : Value) (hr : w.cell? ⟨1, 0, none⟩ = some er) :
    Calls Tryd.prog 37 #[.pointer (some ⟨T, 0, none⟩), .agg #[.pointer L.p], .int .i64 i] w fun e w' => e = .returned (.tuple #[.agg #[.pointer none], er]) ∧ Below w.heap.size w w' := look_row_off T B t.n i hi L w h.row er hr
set_option maxRecDepth 20000 in
theorem look_row (T B n : Nat) (i : Nat) (hi : i < n) (L : Ln) (m : Mt) (w : World) (h0' : w.cell? ⟨T, 0, none⟩ = some (.slice (some ⟨B, 0, none⟩) n n)) (hl : LnAt L m w) (ha : T ∉ L.d) :
    Calls Tryd.prog 37 #[.pointer (some ⟨T, 0, none⟩), .agg #[.pointer L.p], .int .i64 i] w fun e w' => e = .returned (.tuple #[.agg #[.pointer (some ⟨B, i * 25, none⟩)], .nilIface]) ∧ LnStep [] L (L.one m) w w' := by
  have d1 : decide ((i : Int) < 0) = false := decide_eq_false (by omega)
  have d2 : decide ((n : Int) ≤ (i : Int)) = false := decide_eq_false (by omega)
  have hi' : (i : Int) < n := by omega
  have hlt : T < w.heap.size := World.block_lt_of_cell? w _ h0'
  have hd := hl.lt
  have c0 := newc w (.pointer L.p) 44
  have c2 := newc (w.alloc (.cells #[.pointer L.p] 44)) (.pointer none) 62
  have f2 := newf (w.alloc (.cells #[.pointer L.p] 44)) (.pointer none) 62
  have c0' := keepc (new_block (w.alloc (.cells #[.pointer L.p] 44)) (.cells #[.pointer none] 62)) c0
  have hb := two_new w (.cells #[.pointer L.p] 44) (.cells #[.pointer none] 62)
  rw [World.size_alloc] at c2 f2
  have HL := Lib.hid (look_any B (i * 25) L m)
  go_enter Tryd.func37, Tryd.ntmps37
  have h0 := keepc hb h0'
  have hl2 := hl.below hb
  go_wp2
  generalize (w.alloc (.cells #[.pointer L.p] 44)).alloc (.cells #[.pointer none] 62) = W at *
  have nd : ∀ b, w.heap.size ≤ b → b ∉ L.d := fun b hb he => by have := hd b he; omega
  have hA : ∀ w', LnStep [] L (L.one m) W w' → ∀ {b k v}, b ∉ L.d → W.cell? ⟨b, k, none⟩ = some v → w'.cell? ⟨b, k, none⟩ = some v := fun w' hs b k v hb c => hs.past.cell c (by simpa using hb)
  have q0 := CallD.cell (A := LnStep [] L (L.one m) W) h0 (fun w' hs => hA w' hs ha h0)
  have q1 := CallD.cell (A := LnStep [] L (L.one m) W) c0' (fun w' hs => hA w' hs (nd _ (Nat.le_refl _)) c0')
  haveI : Nonempty (stage.Un (CallD W (LnStep [] L (L.one m) W))) := ⟨⟨0, W, 0, rfl⟩⟩
  refine (wpIn_wide (n := 3)).1 ?_
  refine move.region (D := CallD W (LnStep [] L (L.one m) W)) 8 [false, false, false, false, false, false, false, true] (by kernel_rfl) (by kernel_rfl) (by kernel_rfl) ⟨1, rfl⟩ ?_
  simp only [List.take_succ_cons, List.take_zero, List.drop_succ_cons, List.drop_zero]
  iterate 7
    refine move.pure_step (fun _ _ _ => trivial) (fun K hK => ?_)
    go_simp
    refine hK _ ?_
    clear hK K
  refine move.move_step (v := .agg #[.pointer (some ⟨B, i * 25, none⟩)]) (fun _ _ _ => trivial) (by kernel_rfl) (fun wd hd => ?_) (fun K hK => ?_)
  · obtain ⟨q, rfl⟩ := hd
    go_simp
    refine callsIn_wide.2 ((HL.out (W.drewN q) (hl2.below (below_drewN' W q))).mono ?_)
    rintro e' w' ⟨rfl, hs⟩
    exact ⟨rfl, (LnStep.of [] hl2 (below_drewN' W q)).trans hs⟩
  refine hK _ ?_
  clear hK K
  refine move.nil_step ?_
  intro w5 hs5
  have hs : LnStep [] L (L.one m) W w5 := hs5
  have c3 := hA w5 hs (nd _ (by omega)) c2
  have f3 := pastf hs.past (by simpa using nd (w.heap.size + 1) (by omega)) c2 f2
  clear q0 q1 this hA hs5
  gi_wp2
  go_wp2
  have hB : LnStep [] L (L.one m) w w5 := (LnStep.of [] hl hb).trans hs
  refine bodyPost_ret (v := .tuple #[.agg #[.pointer (some ⟨B, i * 25, none⟩)], .nilIface]) (by simp [results, Tryd.results37, go_sem, c3]) rfl ⟨rfl, hB.newset hd (by simp) _⟩
theorem look_yes (T B : Nat) (t : Tb) (i : Nat) (hi : i < t.n) (L : Ln) (m : Mt) (w : World) (h : TAt T B t w) (hl : LnAt L m w) (ha : Apart T B L) :
    Calls Tryd.prog 37 #[.pointer (some ⟨T, 0, none⟩), .agg #[.pointer L.p], .int .i64 i] w fun e w' => e = .returned (.tuple #[.agg #[.pointer (some ⟨B, i * 25, none⟩)], .nilIface]) ∧ LnStep [] L (L.one m) w w' := look_row T B t.n i hi L m w h.row hl ha.t
/-! ### spots -/
/-- a spot's value: the last group that was looked at, and the one with room -/
abbrev spotV (T B key h a b : Nat) : Value := .agg #[.pointer (some ⟨T, 0, none⟩), .int .u64 (key : Nat), .int .u64 (h : Nat), .pointer (some ⟨B, a * 25, none⟩), .pointer (some ⟨B, b * 25, none⟩)]
theorem szGroup : (Tryd.prog.info? 83).map (·.size) = some 25 := by kernel_rfl
theorem ptr_nil (x : Addr) (w : World) : (Op.equalIn 9999 60 (.pointer (some x)) (.pointer none)).run Tryd.prog w = .ok false w := by
  obtain ⟨j, hj, _⟩ := Option.map_eq_some_iff.1 szGroup
  have h : ∀ d : Nat, (Op.equalIn (d + 1) 60 (.pointer (some x)) (.pointer none)).run Tryd.prog w = .ok false w := fun d => by
    simp [Op.equalIn, run_underlying Tryd.underlying60, sizeOf, typeInfo, hj, sameAddr]
  exact h 9998
set_option maxRecDepth 20000 in
theorem nowhere_any (T B key h a b : Nat) (w : World) : Calls Tryd.prog 62 #[spotV T B key h a b] w fun e w' => e = .returned (.bool false) ∧ Below w.heap.size w w' := by
  have hp := ptr_nil ⟨B, a * 25, none⟩
  go_enter Tryd.func62, Tryd.ntmps62
  go_wp2
  go_ret
  exact ⟨rfl, new_block w _⟩
end Go.Proofs.YtplhgcidegngiaaDoor.table
