/- SwarBack: the walk. -/
import Derived.Test.YthmkmnjhbnfioaaDoorSwarLanes
import Derived.Test.YthmkmnjhbnfioaaDoorSwarMath4
import Derived.Test.YthmkmnjhbnfioaaDoorSwarIter
namespace Go.Proofs.YthmkmnjhbnfioaaDoor.swar
open Go.ChangeShapes Go.WideShapes Go.ChangeAt Go.RowKit Go.Shelf
attribute [local go_sem] Oper.semAt_some

/-- an array's value, indexed -/
theorem idx8 (a0 a1 a2 a3 a4 a5 a6 a7 : Value) (w : World) : (Instr.index 24 (.agg #[a0, a1, a2, a3, a4, a5, a6, a7]) (.int .i64 0)).run Tryd.prog w = .ok a0 w ∧ (Instr.index 24 (.agg #[a0, a1, a2, a3, a4, a5, a6, a7]) (.int .i64 1)).run Tryd.prog w = .ok a1 w ∧ (Instr.index 24 (.agg #[a0, a1, a2, a3, a4, a5, a6, a7]) (.int .i64 2)).run Tryd.prog w = .ok a2 w ∧ (Instr.index 24 (.agg #[a0, a1, a2, a3, a4, a5, a6, a7]) (.int .i64 3)).run Tryd.prog w = .ok a3 w ∧ (Instr.index 24 (.agg #[a0, a1, a2, a3, a4, a5, a6, a7]) (.int .i64 4)).run Tryd.prog w = .ok a4 w ∧ (Instr.index 24 (.agg #[a0, a1, a2, a3, a4, a5, a6, a7]) (.int .i64 5)).run Tryd.prog w = .ok a5 w ∧ (Instr.index 24 (.agg #[a0, a1, a2, a3, a4, a5, a6, a7]) (.int .i64 6)).run Tryd.prog w = .ok a6 w ∧ (Instr.index 24 (.agg #[a0, a1, a2, a3, a4, a5, a6, a7]) (.int .i64 7)).run Tryd.prog w = .ok a7 w :=
  ⟨by kernel_rfl, by kernel_rfl, by kernel_rfl, by kernel_rfl, by kernel_rfl, by kernel_rfl, by kernel_rfl, by kernel_rfl⟩
set_option maxHeartbeats 1000000 in
theorem fold_any (a0 a1 a2 a3 a4 a5 a6 a7 : Nat) (h0 : a0 < 256) (h1 : a1 < 256) (h2 : a2 < 256) (h3 : a3 < 256) (h4 : a4 < 256) (h5 : a5 < 256) (h6 : a6 < 256) (h7 : a7 < 256) (w : World) :
    Calls Tryd.prog 24 #[agg8 a0 a1 a2 a3 a4 a5 a6 a7] w fun e w' => e = .returned (.int .u64 (pk8 a0 a1 a2 a3 a4 a5 a6 a7 : Nat)) ∧ Below w.heap.size w w' := by
  unfold agg8
  have i0 := fun wx => (idx8 (.int .u8 a0) (.int .u8 a1) (.int .u8 a2) (.int .u8 a3) (.int .u8 a4) (.int .u8 a5) (.int .u8 a6) (.int .u8 a7) wx).1
  have i1 := fun wx => (idx8 (.int .u8 a0) (.int .u8 a1) (.int .u8 a2) (.int .u8 a3) (.int .u8 a4) (.int .u8 a5) (.int .u8 a6) (.int .u8 a7) wx).2.1
  have i2 := fun wx => (idx8 (.int .u8 a0) (.int .u8 a1) (.int .u8 a2) (.int .u8 a3) (.int .u8 a4) (.int .u8 a5) (.int .u8 a6) (.int .u8 a7) wx).2.2.1
  have i3 := fun wx => (idx8 (.int .u8 a0) (.int .u8 a1) (.int .u8 a2) (.int .u8 a3) (.int .u8 a4) (.int .u8 a5) (.int .u8 a6) (.int .u8 a7) wx).2.2.2.1
  have i4 := fun wx => (idx8 (.int .u8 a0) (.int .u8 a1) (.int .u8 a2) (.int .u8 a3) (.int .u8 a4) (.int .u8 a5) (.int .u8 a6) (.int .u8 a7) wx).2.2.2.2.1
  have i5 := fun wx => (idx8 (.int .u8 a0) (.int .u8 a1) (.int .u8 a2) (.int .u8 a3) (.int .u8 a4) (.int .u8 a5) (.int .u8 a6) (.int .u8 a7) wx).2.2.2.2.2.1
  have i6 := fun wx => (idx8 (.int .u8 a0) (.int .u8 a1) (.int .u8 a2) (.int .u8 a3) (.int .u8 a4) (.int .u8 a5) (.int .u8 a6) (.int .u8 a7) wx).2.2.2.2.2.2.1
  have i7 := fun wx => (idx8 (.int .u8 a0) (.int .u8 a1) (.int .u8 a2) (.int .u8 a3) (.int .u8 a4) (.int .u8 a5) (.int .u8 a6) (.int .u8 a7) wx).2.2.2.2.2.2.2
  go_enter Tryd.func24, Tryd.ntmps24
  go_wp2
  refine wp_loop_rounds 9 ?_
  iterate 9 (rw [rounds_succ]; go_wp2)
  go_ret
  exact ⟨ret_int (fold_bits a0 a1 a2 a3 a4 a5 a6 a7 h0 h1 h2 h3 h4 h5 h6 h7), by repeat (first | exact Below.refl _ _ | refine Below.alloc ?_ (by simp) _)⟩

/-- what stays behind a call that makes memory alone -/
theorem kept9 {W W' : World} {B a0 a1 a2 a3 a4 a5 a6 a7 : Nat} {most : Int} (hb : Below W.heap.size W W') (h : W.cell? ⟨B, 0, none⟩ = some (.int .u8 (a0 : Nat)) ∧ W.cell? ⟨B, 1, none⟩ = some (.int .u8 (a1 : Nat)) ∧ W.cell? ⟨B, 2, none⟩ = some (.int .u8 (a2 : Nat)) ∧ W.cell? ⟨B, 3, none⟩ = some (.int .u8 (a3 : Nat)) ∧ W.cell? ⟨B, 4, none⟩ = some (.int .u8 (a4 : Nat)) ∧ W.cell? ⟨B, 5, none⟩ = some (.int .u8 (a5 : Nat)) ∧ W.cell? ⟨B, 6, none⟩ = some (.int .u8 (a6 : Nat)) ∧ W.cell? ⟨B, 7, none⟩ = some (.int .u8 (a7 : Nat)) ∧ W.cell? ⟨B + 1, 0, none⟩ = some (.int .i64 most) ∧ B + 1 < W.heap.size) :
    W'.cell? ⟨B, 0, none⟩ = some (.int .u8 (a0 : Nat)) ∧ W'.cell? ⟨B, 1, none⟩ = some (.int .u8 (a1 : Nat)) ∧ W'.cell? ⟨B, 2, none⟩ = some (.int .u8 (a2 : Nat)) ∧ W'.cell? ⟨B, 3, none⟩ = some (.int .u8 (a3 : Nat)) ∧ W'.cell? ⟨B, 4, none⟩ = some (.int .u8 (a4 : Nat)) ∧ W'.cell? ⟨B, 5, none⟩ = some (.int .u8 (a5 : Nat)) ∧ W'.cell? ⟨B, 6, none⟩ = some (.int .u8 (a6 : Nat)) ∧ W'.cell? ⟨B, 7, none⟩ = some (.int .u8 (a7 : Nat)) ∧ W'.cell? ⟨B + 1, 0, none⟩ = some (.int .i64 most) ∧ B + 1 < W'.heap.size := by
  obtain ⟨p0, p1, p2, p3, p4, p5, p6, p7, q0, hs⟩ := h
  have hz := hb.size
  exact ⟨(hb.cell (p := ⟨B, 0, none⟩) (by simp; omega)).trans p0, (hb.cell (p := ⟨B, 1, none⟩) (by simp; omega)).trans p1, (hb.cell (p := ⟨B, 2, none⟩) (by simp; omega)).trans p2, (hb.cell (p := ⟨B, 3, none⟩) (by simp; omega)).trans p3, (hb.cell (p := ⟨B, 4, none⟩) (by simp; omega)).trans p4, (hb.cell (p := ⟨B, 5, none⟩) (by simp; omega)).trans p5, (hb.cell (p := ⟨B, 6, none⟩) (by simp; omega)).trans p6, (hb.cell (p := ⟨B, 7, none⟩) (by simp; omega)).trans p7, (hb.cell (p := ⟨B + 1, 0, none⟩) (by simp; omega)).trans q0, by omega⟩
theorem box9 (w : World) (a0 a1 a2 a3 a4 a5 a6 a7 : Nat) (most : Int) (W : World) (hW : W = (w.alloc (.cells #[.int .u8 a0, .int .u8 a1, .int .u8 a2, .int .u8 a3, .int .u8 a4, .int .u8 a5, .int .u8 a6, .int .u8 a7] 24)).alloc (.cells #[.int .i64 most] 3)) :
    W.cell? ⟨w.heap.size, 0, none⟩ = some (.int .u8 (a0 : Nat)) ∧ W.cell? ⟨w.heap.size, 1, none⟩ = some (.int .u8 (a1 : Nat)) ∧ W.cell? ⟨w.heap.size, 2, none⟩ = some (.int .u8 (a2 : Nat)) ∧ W.cell? ⟨w.heap.size, 3, none⟩ = some (.int .u8 (a3 : Nat)) ∧ W.cell? ⟨w.heap.size, 4, none⟩ = some (.int .u8 (a4 : Nat)) ∧ W.cell? ⟨w.heap.size, 5, none⟩ = some (.int .u8 (a5 : Nat)) ∧ W.cell? ⟨w.heap.size, 6, none⟩ = some (.int .u8 (a6 : Nat)) ∧ W.cell? ⟨w.heap.size, 7, none⟩ = some (.int .u8 (a7 : Nat)) ∧ W.cell? ⟨w.heap.size + 1, 0, none⟩ = some (.int .i64 most) ∧ w.heap.size + 1 < W.heap.size := by
  subst hW
  refine ⟨?_, ?_, ?_, ?_, ?_, ?_, ?_, ?_, ?_, ?_⟩ <;> simp
set_option maxRecDepth 100000 in
set_option maxHeartbeats 2000000 in
theorem back_any (a0 a1 a2 a3 a4 a5 a6 a7 : Nat) (h0 : a0 < 256) (h1 : a1 < 256) (h2 : a2 < 256) (h3 : a3 < 256) (h4 : a4 < 256) (h5 : a5 < 256) (h6 : a6 < 256) (h7 : a7 < 256) (most : Int) (w : World) (hA : ∀ w', Below w.heap.size w w' → TabOk w') :
    Calls Tryd.prog 5 #[agg8 a0 a1 a2 a3 a4 a5 a6 a7, .int .i64 most] w fun e w' => e = .returned (.bool true) ∧ Below w.heap.size w w' := by
  have hx : pk8 a0 a1 a2 a3 a4 a5 a6 a7 < 18446744073709551616 := pk8_lt h0 h1 h2 h3 h4 h5 h6 h7
  have heq := fun wx => eq_same8 a0 a1 a2 a3 a4 a5 a6 a7 wx
  have HA := Lib.hid hA
  clear hA
  refine (callsIn_wide (n := 3)).1 (callsIn_of_wp_marks Tryd.func5 rfl trivial ?_ rfl)
  simp only [Tryd.ntmps5, List.size_toArray, List.length_cons, List.length_nil, Nat.reduceAdd, Nat.reduceSub, Array.replicate_succ, Array.replicate_zero, List.push_toArray, List.append_toArray, List.nil_append, List.cons_append]
  refine wpIn_wide.2 ?_
  have hAl := fun wx (hb : Below w.heap.size w wx) => alive_any wx (HA.out wx hb)
  have HL := Lib.hid hAl
  clear hAl
  have hbX : Below w.heap.size w ((w.alloc (.cells #[.int .u8 a0, .int .u8 a1, .int .u8 a2, .int .u8 a3, .int .u8 a4, .int .u8 a5, .int .u8 a6, .int .u8 a7] 24)).alloc (.cells #[.int .i64 most] 3)) := ((Below.refl _ w).alloc (Nat.le_refl _) _).alloc (by simp) _
  go_wp2_with (first | (go_at_call 7; refine (HL.out _ hbX).mono ?_; rintro e w' ⟨rfl, rfl⟩) | (go_at_call 24; refine (fold_any a0 a1 a2 a3 a4 a5 a6 a7 h0 h1 h2 h3 h4 h5 h6 h7 _).mono ?_; rintro e w1 ⟨rfl, hb1⟩))
  have hS1 := kept9 hb1 (box9 w a0 a1 a2 a3 a4 a5 a6 a7 most _ rfl)
  have hbw1 : Below w.heap.size w w1 := below_step hbX hb1
  clear hb1 hbX
  obtain ⟨e0, e1, e2, e3, e4, e5, e6, e7⟩ := ln_pk8 h0 h1 h2 h3 h4 h5 h6 h7
  have hU : ∀ wx, Calls Tryd.prog 13 #[.int .u64 (pk8 a0 a1 a2 a3 a4 a5 a6 a7 : Nat)] wx fun e w' => e = .returned (agg8 a0 a1 a2 a3 a4 a5 a6 a7) ∧ Below wx.heap.size wx w' := fun wx => by
    have c := unfold_any _ hx wx
    unfold lanes8 at c
    rwa [e0, e1, e2, e3, e4, e5, e6, e7] at c
  have HU := Lib.hid hU
  clear hU e0 e1 e2 e3 e4 e5 e6 e7
  obtain ⟨p0, p1, p2, p3, p4, p5, p6, p7, q0, hsz⟩ := hS1
  go_region_held3 (fun w' => w'.cell? ⟨w.heap.size, 0, none⟩ = some (.int .u8 (a0 : Nat)) ∧ w'.cell? ⟨w.heap.size, 1, none⟩ = some (.int .u8 (a1 : Nat)) ∧ w'.cell? ⟨w.heap.size, 2, none⟩ = some (.int .u8 (a2 : Nat)) ∧ w'.cell? ⟨w.heap.size, 3, none⟩ = some (.int .u8 (a3 : Nat)) ∧ w'.cell? ⟨w.heap.size, 4, none⟩ = some (.int .u8 (a4 : Nat)) ∧ w'.cell? ⟨w.heap.size, 5, none⟩ = some (.int .u8 (a5 : Nat)) ∧ w'.cell? ⟨w.heap.size, 6, none⟩ = some (.int .u8 (a6 : Nat)) ∧ w'.cell? ⟨w.heap.size, 7, none⟩ = some (.int .u8 (a7 : Nat)) ∧ w'.cell? ⟨w.heap.size + 1, 0, none⟩ = some (.int .i64 most) ∧ w.heap.size + 1 < w'.heap.size)
    (first | go_keep | (go_split_ands; exact kept9 hbx (by refine ⟨?_, ?_, ?_, ?_, ?_, ?_, ?_, ?_, ?_, ?_⟩ <;> assumption)))
    ((go_at_call 13; refine (HU.out _).mono ?_; rintro e w' ⟨rfl, hbx⟩))
  go_wp2_with fail
  have hS2 : w'.cell? ⟨w.heap.size, 0, none⟩ = some (.int .u8 (a0 : Nat)) ∧ w'.cell? ⟨w.heap.size, 1, none⟩ = some (.int .u8 (a1 : Nat)) ∧ w'.cell? ⟨w.heap.size, 2, none⟩ = some (.int .u8 (a2 : Nat)) ∧ w'.cell? ⟨w.heap.size, 3, none⟩ = some (.int .u8 (a3 : Nat)) ∧ w'.cell? ⟨w.heap.size, 4, none⟩ = some (.int .u8 (a4 : Nat)) ∧ w'.cell? ⟨w.heap.size, 5, none⟩ = some (.int .u8 (a5 : Nat)) ∧ w'.cell? ⟨w.heap.size, 6, none⟩ = some (.int .u8 (a6 : Nat)) ∧ w'.cell? ⟨w.heap.size, 7, none⟩ = some (.int .u8 (a7 : Nat)) ∧ w'.cell? ⟨w.heap.size + 1, 0, none⟩ = some (.int .i64 most) ∧ w.heap.size + 1 < w'.heap.size := by assumption
  have hbw2 : Below w.heap.size w w' := below_step hbw1.drew hbx
  obtain ⟨_, _, _, _, _, _, _, _, qm, hsz2⟩ := hS2
  have hT2 := Lib.hid (HA.out w' hbw2)
  clear HU heq p0 p1 p2 p3 p4 p5 p6 p7 q0 hsz hbw1 HA HL
  generalize pk8 a0 a1 a2 a3 a4 a5 a6 a7 = n at *
  have l0 := Lib.hid (below8_zero n); have l1 := Lib.hid (count8_zero n)
  go_loop [6, 7, 8] (fun s a b => ∃ k : Nat, k ≤ 256 ∧ b = .int .i64 k ∧ a = .int .u64 (below8 n k : Nat) ∧ s = .int .i64 (count8 n k : Nat)) (fun _ _ b => 256 - (intOf b).toNat)
  case atStart => exact ⟨0, by omega, rfl, by rw [l0.out]; rfl, by rw [l1.out]; rfl⟩
  case round =>
    obtain ⟨k, hk, rfl, rfl, rfl⟩ := hrel
    have hc8 := count8_le n k
    by_cases hlt : k < 256
    · have hce := cnt_le (eqM n k)
      have h1 := and_below_int n k
      have h2 := or_below_int n k
      have h3 := Lib.hid (count_step n k)
      go_wp2_with (first | (go_at_call 17; refine (equal_any n k hx hlt _).mono ?_; rintro e w' ⟨rfl, rfl⟩) | (go_at_call 22; refine (count_any _ (eqM_lt n k) _).mono ?_; rintro e w' ⟨rfl, rfl⟩))
      go_round
      case rel => exact ⟨k + 1, by omega, by go_num, rfl, by rw [← h3.out]; go_num⟩
      case measure => simp [intOf]; omega
    · obtain rfl : k = 256 := by omega
      rw [below8_all, count8_all]
      have hr : ∀ wx, Calls Tryd.prog 20 #[.int .u64 (pk8 255 255 255 255 255 255 255 255 : Nat)] wx fun e w' => e = .returned (.int .u64 9259542123273814144) ∧ wx = w' := fun wx => by
        have c := high_any _ (by decide : pk8 255 255 255 255 255 255 255 255 < 18446744073709551616) wx
        rwa [show hiM (pk8 255 255 255 255 255 255 255 255) = 9259542123273814144 from by decide] at c
      have HR := Lib.hid hr
      clear hr
      go_wp2_with (first | (go_at_call 12; refine (repeat_any 255 (by decide) _).mono ?_; rintro e w' ⟨rfl, rfl⟩) | (go_at_call 20; refine (HR.out _).mono ?_; rintro e w' ⟨rfl, rfl⟩) | (go_at_call 16; refine (lanes_any 9259542123273814144 _).mono ?_; rintro e w3 ⟨rfl, hw3⟩))
      have hsw := hT2.out.lt
      have bN := Boxed.new w' 3 (.int .i64 0)
      have bX := Boxed.new (w'.alloc (.cells #[.int .i64 0] 3)) 22 (.int .u64 9259542123273814144)
      rw [World.size_alloc] at bX
      refine (wpIn_wide (n := 3)).1 ?_
      refine (wpIn_rangeFunc_ownF (F := Fence.wide) (n := 3) rfl (by decide) (gf := 26) (lb := #[.pointer (some ⟨w'.heap.size + 1, 0, none⟩)]) rfl trivial (enters_of Tryd.func26 (by kernel_rfl) rfl)
        (lanes_stops 2 (by decide) (w'.heap.size + 1) w'.heap.size 9259542123273814144 (by decide) _ (by simp) hsw bX.cell (hT2.out.below (((Below.refl _ w').alloc (Nat.le_refl _) _).alloc (by simp) _) hsw)) belowK_t (belowK_b (by simp; omega)) (Below.refl _ _) (fun _ => rfl)
        (fun pre W => (¬ (0 ≤ most ∧ most < (pre.length : Nat)) ∧ W.cell? ⟨w'.heap.size, 0, none⟩ = some (.int .i64 (pre.length : Nat)) ∧ W.frozen? ⟨w'.heap.size, 0, none⟩ = false ∧ W.cell? ⟨w.heap.size + 1, 0, none⟩ = some (.int .i64 most)) ∧ Below w'.heap.size w' W)
        (fun c pre W => (c = .exit 2 ∧ (0 ≤ most ∧ most < 8) ∧ W.cell? ⟨w'.heap.size, 0, none⟩ = some (.int .i64 most) ∧ W.cell? ⟨w.heap.size + 1, 0, none⟩ = some (.int .i64 most)) ∧ Below w'.heap.size w' W)
        ?hI ?hIx ?h0 ?a1 ?assign ?body ?done ?stop)
      case assign =>
        intro l x W K hK
        gi_wp2
        exact hK
      case hI => exact OwnFrom.and (Own.from (fun s A B row hs hg hr => ⟨hs.1, cell_kept hs.2.1 hg hr, (frozen_kept hs.2.1 hg hr).trans hs.2.2.1, cell_kept hs.2.2.2 hg hr⟩) _) (ownFrom_below (Nat.le_refl _) (by simp; omega))
      case hIx => exact fun c => OwnFrom.and (Own.from (fun s A B row hs hg hr => ⟨hs.1, hs.2.1, cell_kept hs.2.2.1 hg hr, cell_kept hs.2.2.2 hg hr⟩) _) (ownFrom_below (Nat.le_refl _) (by simp; omega))
      case h0 =>
        refine ⟨⟨by simp, (bN.alloc _).cell, (bN.alloc _).frozen, ?_⟩, ((Below.refl _ w').alloc (Nat.le_refl _) _).alloc (by simp) _⟩
        exact ((((Below.refl _ w').alloc (Nat.le_refl _) _).alloc (by simp) _).cell (p := ⟨w.heap.size + 1, 0, none⟩) hsz2).trans qm
      case body =>
        rintro l pre x W ⟨⟨hm, hc, hf, hq⟩, hB⟩ hlen
        rw [tl_all] at hlen
        simp only [List.length_cons, List.length_nil] at hlen
        by_cases hmost : ((pre.length : Nat) : Int) = most
        · have ht : (((pre.length : Nat) : Int) == most) = true := beq_iff_eq.2 hmost
          have HM := Lib.hid hmost
          clear hmost
          gi_wp2
          exact ⟨KeepsOthers.refl _, ⟨rfl, ⟨by have := HM.out; omega, by have := HM.out; omega⟩, by rw [← HM.out]; exact hc, hq⟩, hB⟩
        · have ht : (((pre.length : Nat) : Int) == most) = false := beq_eq_false_iff_ne.2 hmost
          gi_wp2
          exact ⟨KeepsOthers.setCell _ _ _, (Below.refl w'.heap.size W).setCell (p := ⟨w'.heap.size, 0, none⟩) (Nat.le_refl _) _,
            ⟨by simp only [List.length_append, List.length_cons, List.length_nil]; omega, by rw [World.cell?_setCell_same' _ _ _ (by rw [hc]; rfl)]; simp, by rw [World.frozen?_setCell]; exact hf,
              (World.cell?_setCell_other W _ _ _ (fun h => by have := congrArg Addr.block h; simp at this; omega)).trans hq⟩, hB.setCell (p := ⟨w'.heap.size, 0, none⟩) (Nat.le_refl _) _⟩
      case done =>
        rintro D ys W hD rfl ⟨⟨hm, hc, hf, hq⟩, hB⟩ hK
        rw [tl_all] at hm hc
        simp only [List.length_cons, List.length_nil] at hm hc
        have hbK := belowK_b (w := w') (Nat.le_refl _) W D (.deferred (some [])) (.deferred none) (by simp at hD; omega) hK rfl rfl
        have hfin := Lib.hid (below_step hbw2 (hB.trans hbK))
        clear hB hbK
        by_cases hneg : most < 0
        · go_wp2
          refine ⟨by simp, .inl ⟨_, _, rfl, run_takeDeferred hK, ?_⟩⟩
          exact ⟨_, results_tmp rfl _ _ _, rfl, hfin.out⟩
        · by_cases h8 : most = 8
          · subst h8
            go_wp2
            refine ⟨by simp, .inl ⟨_, _, rfl, run_takeDeferred hK, ?_⟩⟩
            exact ⟨_, results_tmp rfl _ _ _, rfl, hfin.out⟩
          · have hge : 8 < most := by omega
            have hd : decide (most < 0) = false := by simp; omega
            clear h8
            go_wp2
            refine ⟨by simp, .inl ⟨_, _, rfl, run_takeDeferred hK, ?_⟩⟩
            exact ⟨_, results_tmp rfl _ _ _, rfl, hfin.out⟩
      case stop =>
        rintro D c pre W hD hpre ⟨⟨rfl, hm, hc, hq⟩, hB⟩ hK
        have hbK := belowK_b (w := w') (Nat.le_refl _) W D (.deferred (some [])) (.deferred none) (by simp at hD; omega) hK rfl rfl
        have hfin := Lib.hid (below_step hbw2 (hB.trans hbK))
        clear hB hbK
        have hd : decide (most < 0) = false := by simp; omega
        obtain ⟨hm0, hm8⟩ := hm
        refine wpIn_wide.2 ?_
        go_wp2
        refine ⟨by simp, .inl ⟨_, _, rfl, run_takeDeferred hK, ?_⟩⟩
        exact ⟨_, results_tmp rfl _ _ _, rfl, hfin.out⟩
end Go.Proofs.YthmkmnjhbnfioaaDoor.swar
