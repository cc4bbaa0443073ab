/- meter: an act of the laws. -/
import Derived.Test.YtfabhnbiijnohaaDoorMeterSums
import Derived.Test.YtfabhnbiijnohaaDoorTrapLaws
namespace Go.Proofs.YtfabhnbiijnohaaDoor.meter
open Go.RowKit errs under trap tail
set_option linter.unusedSimpArgs false
set_option linter.unusedVariables false

/-- how many probes or visits an act is -/
def visN (n : Int) : Int := min (max n 0) 50
theorem visN_at (n : Int) : (n < 0 ∧ visN n = 0) ∨ (0 ≤ n ∧ n ≤ 50 ∧ visN n = n) ∨ (50 < n ∧ visN n = 50) := by unfold visN; omega
/-- what a meter holds behind an act, and the error's number -/
def doM (m : Mt) (k n : Int) : Mt := if k = 0 then m.probes (visN n) else if k = 1 then m.visits (visN n) else if k = 2 then m.unit n else if k = 3 then m.reset else if k = 4 then m.limit n else m
def doE (m : Mt) (k n : Int) : Nat := if k = 2 then m.unitE n else 0
theorem unitE_le (m : Mt) (n : Int) : m.unitE n ≤ 16 := by
  unfold Mt.unitE; split
  · decide
  · split <;> decide
theorem probes_step (m : Mt) (j : Nat) : (m.probes j).probes 1 = m.probes ((j + 1 : Nat) : Int) := by unfold Mt.probes; simp only [sm_step]
theorem visits_step (m : Mt) (j : Nat) : (m.visits j).visits 1 = m.visits ((j + 1 : Nat) : Int) := by unfold Mt.visits; simp only [sm_step]
theorem Mt.Ok.probes_none' {m : Mt} (h : m.Ok) : m.probes ((0 : Nat) : Int) = m := by unfold Mt.probes; rw [show (((0 : Nat) : Int)) = 0 from rfl, sm_zero h.pa0 h.pa1, sm_zero h.pl0 h.pl1]
theorem Mt.Ok.visits_none' {m : Mt} (h : m.Ok) : m.visits ((0 : Nat) : Int) = m := by unfold Mt.visits; rw [show (((0 : Nat) : Int)) = 0 from rfl, sm_zero h.va0 h.va1, sm_zero h.vl0 h.vl1]

/-- the boxes of an act: the meter's place, the act -/
structure Box (b B : Nat) (k n : Int) (W : World) : Prop where
  m : W.cell? ⟨b, 0, none⟩ = some (.pointer (some ⟨B, 0, none⟩))
  k : W.cell? ⟨b + 1, 0, none⟩ = some (.int .i64 k)
  n : W.cell? ⟨b + 1, 1, none⟩ = some (.int .i64 n)
theorem Box.past {b B : Nat} {k n : Int} {d : List Nat} {w w' : World} (h : Box b B k n w) (hp : Past d w w') (h0 : b ∉ d) (h1 : b + 1 ∉ d) : Box b B k n w' := ⟨hp.cell h.m h0, hp.cell h.k h1, hp.cell h.n h1⟩
theorem Box.below {b B : Nat} {k n : Int} {w w' : World} (h : Box b B k n w) (hp : Below w.heap.size w w') : Box b B k n w' := h.past (Past.of (d := []) hp) (by simp) (by simp)
theorem Box.lt {b B : Nat} {k n : Int} {w : World} (h : Box b B k n w) : b + 1 < w.heap.size := World.block_lt_of_cell? w _ h.k
theorem Box.new (w : World) (B : Nat) (k n : Int) : Box w.heap.size B k n ((w.alloc (.cells #[.pointer (some ⟨B, 0, none⟩)] 24)).alloc (.cells #[.int .i64 k, .int .i64 n] 35)) := by
  constructor <;> simp [go_sem]
theorem box_below (w : World) (o p : Obj) : Below w.heap.size w ((w.alloc o).alloc p) := balloc (new_block _ _) (by simp) _
set_option maxRecDepth 100000 in
theorem do_0_lo (B : Nat) (m : Mt) (hm : m.Ok) (n : Int) (hn : n < 0) (w : World) (h : MAt B 0 m w) : Calls Tryd.prog 9 #[.pointer (some ⟨B, 0, none⟩), .agg #[.int .i64 0, .int .i64 n]] w fun e w' => e = .returned (.int .i64 0) ∧ Past [B] w w' ∧ MAt B 0 (m.probes (0 : Nat)) w' := by
  have d0 : decide (0 < n) = false := decide_eq_false (by omega)
  have hB := h.lt
  have hb0 := box_below w (.cells #[.pointer (some ⟨B, 0, none⟩)] 24) (.cells #[.int .i64 0, .int .i64 n] 35)
  have HX := Lib.hid (Box.new w B 0 n)
  have HM := Lib.hid (h.below hb0)
  clear h
  go_enter Tryd.func9, Tryd.ntmps9
  go_wp2_with (first
    | (go_at_call 17; (with_reducible refine (probing_any B 0 _).mono ?_); rintro e w1 ⟨rfl, hb1⟩; have hb2 := hb1.alloc hb1.size (.cells #[.pointer (some ⟨B, 0, none⟩)] 44); have hx2 := HX.out.below hb2; have y0 := hx2.m; have y1 := hx2.k; have y2 := hx2.n; have HM2 := Lib.hid (HM.out.below hb2); have HX2 := Lib.hid hx2; clear hx2))
  have HB3 := Lib.hid hb2
  have HM3 := HM2
  have hz1 := hb1.size
  simp at hz1
  have hW : (w1.alloc (.cells #[.pointer (some ⟨B, 0, none⟩)] 44)).cell? ⟨w1.heap.size, 0, none⟩ = some (.pointer (some ⟨B, 0, none⟩)) := by simp
  clear y0 y1 y2 hb2 HM2
  generalize w1.alloc (.cells #[.pointer (some ⟨B, 0, none⟩)] 44) = w3 at HB3 HM3 hW ⊢
  have hL := hW
  have hMs := MStep.of HM3.out (Below.refl _ w3)
  rw [← hm.probes_none'] at hMs
  go_loopw [22] (fun i wr => ∃ j : Nat, j ≤ 0 ∧ i = .int .i64 j ∧ MStep B 0 (m.probes j) w3 wr) (fun i _ => 0 - (intOf i).toNat)
  case atStart => exact ⟨0, by omega, rfl, hMs⟩
  case round =>
    obtain ⟨j, hj, rfl, hs⟩ := hrel
    have cL : wr.cell? ⟨w1.heap.size, 0, none⟩ = some (.pointer (some ⟨B, 0, none⟩)) := hs.past.cell hL (by simp; omega)
    rcases Nat.lt_or_ge j 0 with hlt | hge
    · have hji : (j : Int) < 0 := by omega
      have hV := visit_probes B 0 _ _ hs.at'
      rw [probes_step] at hV
      have HV := Lib.hid hV
      have HS := Lib.hid hs
      clear hV hs
      go_wp2_with (go_at_call 13; (with_reducible refine HV.out.mono ?_); rintro e w5 ⟨rfl, s5⟩)
      go_roundw
      case rel => exact ⟨j + 1, hlt, by simp, HS.out.trans s5⟩
      case measure => simp [intOf]; omega
    · obtain rfl : j = 0 := by omega
      go_wp2
      go_ret
      exact ⟨by simp, Past.trans (Past.of (below_step hb0 HB3.out)) hs.past, hs.at'⟩
set_option maxRecDepth 100000 in
theorem do_0_mid (B : Nat) (m : Mt) (hm : m.Ok) (c : Nat) (hc : c ≤ 50) (w : World) (h : MAt B 0 m w) : Calls Tryd.prog 9 #[.pointer (some ⟨B, 0, none⟩), .agg #[.int .i64 0, .int .i64 (c : Int)]] w fun e w' => e = .returned (.int .i64 0) ∧ Past [B] w w' ∧ MAt B 0 (m.probes (c : Nat)) w' := by
  have hB := h.lt
  have hb0 := box_below w (.cells #[.pointer (some ⟨B, 0, none⟩)] 24) (.cells #[.int .i64 0, .int .i64 (c : Int)] 35)
  have HX := Lib.hid (Box.new w B 0 (c : Int))
  have HM := Lib.hid (h.below hb0)
  clear h
  go_enter Tryd.func9, Tryd.ntmps9
  go_wp2_with (first
    | (go_at_call 17; (with_reducible refine (probing_any B 0 _).mono ?_); rintro e w1 ⟨rfl, hb1⟩; have hb2 := hb1.alloc hb1.size (.cells #[.pointer (some ⟨B, 0, none⟩)] 44); have hx2 := HX.out.below hb2; have y0 := hx2.m; have y1 := hx2.k; have y2 := hx2.n; have HM2 := Lib.hid (HM.out.below hb2); have HX2 := Lib.hid hx2; clear hx2))
  have HB3 := Lib.hid hb2
  have HM3 := HM2
  have hz1 := hb1.size
  simp at hz1
  have hW : (w1.alloc (.cells #[.pointer (some ⟨B, 0, none⟩)] 44)).cell? ⟨w1.heap.size, 0, none⟩ = some (.pointer (some ⟨B, 0, none⟩)) := by simp
  clear y0 y1 y2 hb2 HM2
  generalize w1.alloc (.cells #[.pointer (some ⟨B, 0, none⟩)] 44) = w3 at HB3 HM3 hW ⊢
  have hL := hW
  have hMs := MStep.of HM3.out (Below.refl _ w3)
  rw [← hm.probes_none'] at hMs
  go_loopw [22] (fun i wr => ∃ j : Nat, j ≤ c ∧ i = .int .i64 j ∧ MStep B 0 (m.probes j) w3 wr) (fun i _ => c - (intOf i).toNat)
  case atStart => exact ⟨0, by omega, rfl, hMs⟩
  case round =>
    obtain ⟨j, hj, rfl, hs⟩ := hrel
    have cL : wr.cell? ⟨w1.heap.size, 0, none⟩ = some (.pointer (some ⟨B, 0, none⟩)) := hs.past.cell hL (by simp; omega)
    rcases Nat.lt_or_ge j c with hlt | hge
    · have hji : (j : Int) < (c : Int) := by omega
      have hV := visit_probes B 0 _ _ hs.at'
      rw [probes_step] at hV
      have HV := Lib.hid hV
      have HS := Lib.hid hs
      clear hV hs
      go_wp2_with (go_at_call 13; (with_reducible refine HV.out.mono ?_); rintro e w5 ⟨rfl, s5⟩)
      go_roundw
      case rel => exact ⟨j + 1, hlt, by simp, HS.out.trans s5⟩
      case measure => simp [intOf]; omega
    · obtain rfl : j = c := by omega
      go_wp2
      go_ret
      exact ⟨by simp, Past.trans (Past.of (below_step hb0 HB3.out)) hs.past, hs.at'⟩
set_option maxRecDepth 100000 in
theorem do_0_hi (B : Nat) (m : Mt) (hm : m.Ok) (n : Int) (hn : 50 < n) (w : World) (h : MAt B 0 m w) : Calls Tryd.prog 9 #[.pointer (some ⟨B, 0, none⟩), .agg #[.int .i64 0, .int .i64 n]] w fun e w' => e = .returned (.int .i64 0) ∧ Past [B] w w' ∧ MAt B 0 (m.probes (50 : Nat)) w' := by
  have hB := h.lt
  have hb0 := box_below w (.cells #[.pointer (some ⟨B, 0, none⟩)] 24) (.cells #[.int .i64 0, .int .i64 n] 35)
  have HX := Lib.hid (Box.new w B 0 n)
  have HM := Lib.hid (h.below hb0)
  clear h
  go_enter Tryd.func9, Tryd.ntmps9
  go_wp2_with (first
    | (go_at_call 17; (with_reducible refine (probing_any B 0 _).mono ?_); rintro e w1 ⟨rfl, hb1⟩; have hb2 := hb1.alloc hb1.size (.cells #[.pointer (some ⟨B, 0, none⟩)] 44); have hx2 := HX.out.below hb2; have y0 := hx2.m; have y1 := hx2.k; have y2 := hx2.n; have HM2 := Lib.hid (HM.out.below hb2); have HX2 := Lib.hid hx2; clear hx2))
  have HB3 := Lib.hid hb2
  have HM3 := HM2
  have hz1 := hb1.size
  simp at hz1
  have hW : (w1.alloc (.cells #[.pointer (some ⟨B, 0, none⟩)] 44)).cell? ⟨w1.heap.size, 0, none⟩ = some (.pointer (some ⟨B, 0, none⟩)) := by simp
  clear y0 y1 y2 hb2 HM2
  generalize w1.alloc (.cells #[.pointer (some ⟨B, 0, none⟩)] 44) = w3 at HB3 HM3 hW ⊢
  have hL := hW
  have hMs := MStep.of HM3.out (Below.refl _ w3)
  rw [← hm.probes_none'] at hMs
  go_loopw [22] (fun i wr => ∃ j : Nat, j ≤ 50 ∧ i = .int .i64 j ∧ MStep B 0 (m.probes j) w3 wr) (fun i _ => 50 - (intOf i).toNat)
  case atStart => exact ⟨0, by omega, rfl, hMs⟩
  case round =>
    obtain ⟨j, hj, rfl, hs⟩ := hrel
    have cL : wr.cell? ⟨w1.heap.size, 0, none⟩ = some (.pointer (some ⟨B, 0, none⟩)) := hs.past.cell hL (by simp; omega)
    rcases Nat.lt_or_ge j 50 with hlt | hge
    · have hji : (j : Int) < 50 := by omega
      have hV := visit_probes B 0 _ _ hs.at'
      rw [probes_step] at hV
      have HV := Lib.hid hV
      have HS := Lib.hid hs
      clear hV hs
      go_wp2_with (go_at_call 13; (with_reducible refine HV.out.mono ?_); rintro e w5 ⟨rfl, s5⟩)
      go_roundw
      case rel => exact ⟨j + 1, hlt, by simp, HS.out.trans s5⟩
      case measure => simp [intOf]; omega
    · obtain rfl : j = 50 := by omega
      go_wp2
      go_ret
      exact ⟨by simp, Past.trans (Past.of (below_step hb0 HB3.out)) hs.past, hs.at'⟩
set_option maxRecDepth 100000 in
theorem do_1_lo (B : Nat) (m : Mt) (hm : m.Ok) (n : Int) (hn : n < 0) (w : World) (h : MAt B 0 m w) : Calls Tryd.prog 9 #[.pointer (some ⟨B, 0, none⟩), .agg #[.int .i64 1, .int .i64 n]] w fun e w' => e = .returned (.int .i64 0) ∧ Past [B] w w' ∧ MAt B 0 (m.visits (0 : Nat)) w' := by
  have d0 : decide (0 < n) = false := decide_eq_false (by omega)
  have hB := h.lt
  have hb0 := box_below w (.cells #[.pointer (some ⟨B, 0, none⟩)] 24) (.cells #[.int .i64 1, .int .i64 n] 35)
  have HX := Lib.hid (Box.new w B 1 n)
  have HM := Lib.hid (h.below hb0)
  clear h
  go_enter Tryd.func9, Tryd.ntmps9
  go_wp2_with (first
    | (go_at_call 17; (with_reducible refine (probing_any B 0 _).mono ?_); rintro e w1 ⟨rfl, hb1⟩; have hb2 := hb1.alloc hb1.size (.cells #[.pointer (some ⟨B, 0, none⟩)] 44); have hx2 := HX.out.below hb2; have y0 := hx2.m; have y1 := hx2.k; have y2 := hx2.n; have HM2 := Lib.hid (HM.out.below hb2); have HX2 := Lib.hid hx2; clear hx2)
    | (go_at_call 19; (with_reducible refine (working_any B 0 _).mono ?_); rintro e w4 ⟨rfl, hb4⟩; have hc4 : w4.cell? ⟨w1.heap.size, 0, none⟩ = some (.pointer (some ⟨B, 0, none⟩)) := (hb4.cell (p := ⟨w1.heap.size, 0, none⟩) (by simp)).trans (by simp); have hf4 : w4.frozen? ⟨w1.heap.size, 0, none⟩ = false := (hb4.frozen (p := ⟨w1.heap.size, 0, none⟩) (by simp)).trans (by simp [go_sem]); have hb5 := below_step hb2 hb4; have hz1 := hb1.size; have hb6 := hb5.setCell (p := ⟨w1.heap.size, 0, none⟩) hz1 (.pointer (some ⟨B, 2, none⟩)); have hx6 := HX.out.below hb6; have z0 := hx6.m; have z1 := hx6.k; have z2 := hx6.n; have HX6 := Lib.hid hx6; clear hx6 hb6))
  have hb6 := hb5.setCell (p := ⟨w1.heap.size, 0, none⟩) hz1 (.pointer (some ⟨B, 2, none⟩))
  have HB3 := Lib.hid hb6
  have HM3 := Lib.hid (HM.out.below hb6)
  have hz2 := hz1
  simp at hz2
  have hW : (w4.setCell ⟨w1.heap.size, 0, none⟩ (.pointer (some ⟨B, 2, none⟩))).cell? ⟨w1.heap.size, 0, none⟩ = some (.pointer (some ⟨B, 2, none⟩)) := by simp [World.cell?_setCell_same', hc4]
  clear z0 z1 z2 hb6 hb5 HM2 HX6 HX2
  generalize w4.setCell ⟨w1.heap.size, 0, none⟩ (.pointer (some ⟨B, 2, none⟩)) = w3 at HB3 HM3 hW ⊢
  have hL := hW
  have hMs := MStep.of HM3.out (Below.refl _ w3)
  rw [← hm.visits_none'] at hMs
  go_loopw [22] (fun i wr => ∃ j : Nat, j ≤ 0 ∧ i = .int .i64 j ∧ MStep B 0 (m.visits j) w3 wr) (fun i _ => 0 - (intOf i).toNat)
  case atStart => exact ⟨0, by omega, rfl, hMs⟩
  case round =>
    obtain ⟨j, hj, rfl, hs⟩ := hrel
    have cL : wr.cell? ⟨w1.heap.size, 0, none⟩ = some (.pointer (some ⟨B, 2, none⟩)) := hs.past.cell hL (by simp; omega)
    rcases Nat.lt_or_ge j 0 with hlt | hge
    · have hji : (j : Int) < 0 := by omega
      have hV := visit_visits B 0 _ _ hs.at'
      simp only [Nat.zero_add] at hV
      rw [visits_step] at hV
      have HV := Lib.hid hV
      have HS := Lib.hid hs
      clear hV hs
      go_wp2_with (go_at_call 13; (with_reducible refine HV.out.mono ?_); rintro e w5 ⟨rfl, s5⟩)
      go_roundw
      case rel => exact ⟨j + 1, hlt, by simp, HS.out.trans s5⟩
      case measure => simp [intOf]; omega
    · obtain rfl : j = 0 := by omega
      go_wp2
      go_ret
      exact ⟨by simp, Past.trans (Past.of (below_step hb0 HB3.out)) hs.past, hs.at'⟩
set_option maxRecDepth 100000 in
theorem do_1_mid (B : Nat) (m : Mt) (hm : m.Ok) (c : Nat) (hc : c ≤ 50) (w : World) (h : MAt B 0 m w) : Calls Tryd.prog 9 #[.pointer (some ⟨B, 0, none⟩), .agg #[.int .i64 1, .int .i64 (c : Int)]] w fun e w' => e = .returned (.int .i64 0) ∧ Past [B] w w' ∧ MAt B 0 (m.visits (c : Nat)) w' := by
  have hB := h.lt
  have hb0 := box_below w (.cells #[.pointer (some ⟨B, 0, none⟩)] 24) (.cells #[.int .i64 1, .int .i64 (c : Int)] 35)
  have HX := Lib.hid (Box.new w B 1 (c : Int))
  have HM := Lib.hid (h.below hb0)
  clear h
  go_enter Tryd.func9, Tryd.ntmps9
  go_wp2_with (first
    | (go_at_call 17; (with_reducible refine (probing_any B 0 _).mono ?_); rintro e w1 ⟨rfl, hb1⟩; have hb2 := hb1.alloc hb1.size (.cells #[.pointer (some ⟨B, 0, none⟩)] 44); have hx2 := HX.out.below hb2; have y0 := hx2.m; have y1 := hx2.k; have y2 := hx2.n; have HM2 := Lib.hid (HM.out.below hb2); have HX2 := Lib.hid hx2; clear hx2)
    | (go_at_call 19; (with_reducible refine (working_any B 0 _).mono ?_); rintro e w4 ⟨rfl, hb4⟩; have hc4 : w4.cell? ⟨w1.heap.size, 0, none⟩ = some (.pointer (some ⟨B, 0, none⟩)) := (hb4.cell (p := ⟨w1.heap.size, 0, none⟩) (by simp)).trans (by simp); have hf4 : w4.frozen? ⟨w1.heap.size, 0, none⟩ = false := (hb4.frozen (p := ⟨w1.heap.size, 0, none⟩) (by simp)).trans (by simp [go_sem]); have hb5 := below_step hb2 hb4; have hz1 := hb1.size; have hb6 := hb5.setCell (p := ⟨w1.heap.size, 0, none⟩) hz1 (.pointer (some ⟨B, 2, none⟩)); have hx6 := HX.out.below hb6; have z0 := hx6.m; have z1 := hx6.k; have z2 := hx6.n; have HX6 := Lib.hid hx6; clear hx6 hb6))
  have hb6 := hb5.setCell (p := ⟨w1.heap.size, 0, none⟩) hz1 (.pointer (some ⟨B, 2, none⟩))
  have HB3 := Lib.hid hb6
  have HM3 := Lib.hid (HM.out.below hb6)
  have hz2 := hz1
  simp at hz2
  have hW : (w4.setCell ⟨w1.heap.size, 0, none⟩ (.pointer (some ⟨B, 2, none⟩))).cell? ⟨w1.heap.size, 0, none⟩ = some (.pointer (some ⟨B, 2, none⟩)) := by simp [World.cell?_setCell_same', hc4]
  clear z0 z1 z2 hb6 hb5 HM2 HX6 HX2
  generalize w4.setCell ⟨w1.heap.size, 0, none⟩ (.pointer (some ⟨B, 2, none⟩)) = w3 at HB3 HM3 hW ⊢
  have hL := hW
  have hMs := MStep.of HM3.out (Below.refl _ w3)
  rw [← hm.visits_none'] at hMs
  go_loopw [22] (fun i wr => ∃ j : Nat, j ≤ c ∧ i = .int .i64 j ∧ MStep B 0 (m.visits j) w3 wr) (fun i _ => c - (intOf i).toNat)
  case atStart => exact ⟨0, by omega, rfl, hMs⟩
  case round =>
    obtain ⟨j, hj, rfl, hs⟩ := hrel
    have cL : wr.cell? ⟨w1.heap.size, 0, none⟩ = some (.pointer (some ⟨B, 2, none⟩)) := hs.past.cell hL (by simp; omega)
    rcases Nat.lt_or_ge j c with hlt | hge
    · have hji : (j : Int) < (c : Int) := by omega
      have hV := visit_visits B 0 _ _ hs.at'
      simp only [Nat.zero_add] at hV
      rw [visits_step] at hV
      have HV := Lib.hid hV
      have HS := Lib.hid hs
      clear hV hs
      go_wp2_with (go_at_call 13; (with_reducible refine HV.out.mono ?_); rintro e w5 ⟨rfl, s5⟩)
      go_roundw
      case rel => exact ⟨j + 1, hlt, by simp, HS.out.trans s5⟩
      case measure => simp [intOf]; omega
    · obtain rfl : j = c := by omega
      go_wp2
      go_ret
      exact ⟨by simp, Past.trans (Past.of (below_step hb0 HB3.out)) hs.past, hs.at'⟩
set_option maxRecDepth 100000 in
theorem do_1_hi (B : Nat) (m : Mt) (hm : m.Ok) (n : Int) (hn : 50 < n) (w : World) (h : MAt B 0 m w) : Calls Tryd.prog 9 #[.pointer (some ⟨B, 0, none⟩), .agg #[.int .i64 1, .int .i64 n]] w fun e w' => e = .returned (.int .i64 0) ∧ Past [B] w w' ∧ MAt B 0 (m.visits (50 : Nat)) w' := by
  have hB := h.lt
  have hb0 := box_below w (.cells #[.pointer (some ⟨B, 0, none⟩)] 24) (.cells #[.int .i64 1, .int .i64 n] 35)
  have HX := Lib.hid (Box.new w B 1 n)
  have HM := Lib.hid (h.below hb0)
  clear h
  go_enter Tryd.func9, Tryd.ntmps9
  go_wp2_with (first
    | (go_at_call 17; (with_reducible refine (probing_any B 0 _).mono ?_); rintro e w1 ⟨rfl, hb1⟩; have hb2 := hb1.alloc hb1.size (.cells #[.pointer (some ⟨B, 0, none⟩)] 44); have hx2 := HX.out.below hb2; have y0 := hx2.m; have y1 := hx2.k; have y2 := hx2.n; have HM2 := Lib.hid (HM.out.below hb2); have HX2 := Lib.hid hx2; clear hx2)
    | (go_at_call 19; (with_reducible refine (working_any B 0 _).mono ?_); rintro e w4 ⟨rfl, hb4⟩; have hc4 : w4.cell? ⟨w1.heap.size, 0, none⟩ = some (.pointer (some ⟨B, 0, none⟩)) := (hb4.cell (p := ⟨w1.heap.size, 0, none⟩) (by simp)).trans (by simp); have hf4 : w4.frozen? ⟨w1.heap.size, 0, none⟩ = false := (hb4.frozen (p := ⟨w1.heap.size, 0, none⟩) (by simp)).trans (by simp [go_sem]); have hb5 := below_step hb2 hb4; have hz1 := hb1.size; have hb6 := hb5.setCell (p := ⟨w1.heap.size, 0, none⟩) hz1 (.pointer (some ⟨B, 2, none⟩)); have hx6 := HX.out.below hb6; have z0 := hx6.m; have z1 := hx6.k; have z2 := hx6.n; have HX6 := Lib.hid hx6; clear hx6 hb6))
  have hb6 := hb5.setCell (p := ⟨w1.heap.size, 0, none⟩) hz1 (.pointer (some ⟨B, 2, none⟩))
  have HB3 := Lib.hid hb6
  have HM3 := Lib.hid (HM.out.below hb6)
  have hz2 := hz1
  simp at hz2
  have hW : (w4.setCell ⟨w1.heap.size, 0, none⟩ (.pointer (some ⟨B, 2, none⟩))).cell? ⟨w1.heap.size, 0, none⟩ = some (.pointer (some ⟨B, 2, none⟩)) := by simp [World.cell?_setCell_same', hc4]
  clear z0 z1 z2 hb6 hb5 HM2 HX6 HX2
  generalize w4.setCell ⟨w1.heap.size, 0, none⟩ (.pointer (some ⟨B, 2, none⟩)) = w3 at HB3 HM3 hW ⊢
  have hL := hW
  have hMs := MStep.of HM3.out (Below.refl _ w3)
  rw [← hm.visits_none'] at hMs
  go_loopw [22] (fun i wr => ∃ j : Nat, j ≤ 50 ∧ i = .int .i64 j ∧ MStep B 0 (m.visits j) w3 wr) (fun i _ => 50 - (intOf i).toNat)
  case atStart => exact ⟨0, by omega, rfl, hMs⟩
  case round =>
    obtain ⟨j, hj, rfl, hs⟩ := hrel
    have cL : wr.cell? ⟨w1.heap.size, 0, none⟩ = some (.pointer (some ⟨B, 2, none⟩)) := hs.past.cell hL (by simp; omega)
    rcases Nat.lt_or_ge j 50 with hlt | hge
    · have hji : (j : Int) < 50 := by omega
      have hV := visit_visits B 0 _ _ hs.at'
      simp only [Nat.zero_add] at hV
      rw [visits_step] at hV
      have HV := Lib.hid hV
      have HS := Lib.hid hs
      clear hV hs
      go_wp2_with (go_at_call 13; (with_reducible refine HV.out.mono ?_); rintro e w5 ⟨rfl, s5⟩)
      go_roundw
      case rel => exact ⟨j + 1, hlt, by simp, HS.out.trans s5⟩
      case measure => simp [intOf]; omega
    · obtain rfl : j = 50 := by omega
      go_wp2
      go_ret
      exact ⟨by simp, Past.trans (Past.of (below_step hb0 HB3.out)) hs.past, hs.at'⟩
/-! ### the others -/
theorem do_1 (a : String → Addr) (b B : Nat) (m : Mt) (hm : m.Ok) (k n : Int) (w : World) (hx : Box b B k n w) (h : MAt B 0 m w) (hE : ErrsOk names a w) :
    Calls Tryd.prog 22 #[.pointer (some ⟨b, 0, none⟩), .pointer (some ⟨b + 1, 0, none⟩)] w fun e w' => trap.Ends a (m.unitE n) e ∧ MStep B 0 (m.unit n) w w' := by
  obtain ⟨x0, x1, x2⟩ := hx
  have hU := unit_any a B 0 m hm n w h (hE.at gErrLimit (nm_mem (i := 10) (by decide)))
  have HU := Lib.hid hU
  clear hU h
  generalize m.unitE n = N at HU ⊢
  generalize m.unit n = M at HU ⊢
  go_enter Tryd.func22, Tryd.ntmps22
  go_wp2_with (go_at_call 18; (with_reducible refine HU.out.mono ?_); rintro e w' ⟨he, hs⟩; rcases he with ⟨rfl, rfl⟩ | ⟨j, hj, rfl, rfl⟩ | ⟨rfl, T, u, hT, rfl⟩)
  · go_end0
    exact ⟨.back, hs⟩
  · exact ⟨rfl, .raised _ (by assumption), hs⟩
  · exact ⟨rfl, .other _ _ (by assumption), hs⟩
theorem fnD (cap : Array Value) (w : World) : (callFunc 22 cap).run Tryd.prog w = .ok (.enter 22 cap) w := by kernel_rfl
theorem do_c (a : String → Addr) (b B : Nat) (m : Mt) (hm : m.Ok) (k n : Int) (w : World) (hx : Box b B k n w) (h : MAt B 0 m w) (hE : ∀ wx, Past [B] w wx → ErrsOk names a wx) :
    Calls Tryd.prog 21 #[.func (.func 22) #[] #[.pointer (some ⟨b, 0, none⟩), .pointer (some ⟨b + 1, 0, none⟩)]] w fun e w' => e = .returned (errAt a (m.unitE n)) ∧ Past [B] w w' ∧ MAt B 0 (m.unit n) w' := by
  have hb : Below w.heap.size w ((w.alloc (.cells #[.nilIface] 55)).alloc (.cells #[.bool false] 4)) := box_below w _ _
  exact catch_any a _ _ _ (fnD _) [B] (MAt B 0 (m.unit n)) w (by simpa using h.lt) hE (fun w1 w2 h' he => h'.of_block (he B h.lt))
    ((do_1 a b B m hm k n _ (hx.below hb) (h.below hb) (hE _ (Past.of hb))).mono fun e w' ⟨he, hs⟩ => ⟨he, hs.past, hs.at'⟩)
set_option maxRecDepth 100000 in
theorem do_2 (a : String → Addr) (B : Nat) (m : Mt) (hm : m.Ok) (n : Int) (w : World) (h : MAt B 0 m w) (hE : ∀ wx, Past [B] w wx → ErrsOk names a wx) : Calls Tryd.prog 9 #[.pointer (some ⟨B, 0, none⟩), .agg #[.int .i64 2, .int .i64 n]] w fun e w' => e = .returned (.int .i64 (m.unitE n : Nat)) ∧ Past [B] w w' ∧ MAt B 0 (m.unit n) w' := by
  have hmf := mf
  have hB := h.lt
  have hb0 := box_below w (.cells #[.pointer (some ⟨B, 0, none⟩)] 24) (.cells #[.int .i64 2, .int .i64 n] 35)
  have hX := Box.new w B 2 n
  have hC := do_c a w.heap.size B m hm 2 n _ hX (h.below hb0) (fun wx hp => hE wx ((Past.of hb0).trans hp))
  have HC := Lib.hid hC
  have HE := Lib.hid hE
  have hN := unitE_le m n
  have HN := Lib.hid hN
  clear hC hE h hN
  generalize m.unitE n = N at HC HN ⊢
  generalize m.unit n = M at HC ⊢
  obtain ⟨x0, x1, x2⟩ := hX
  go_enter Tryd.func9, Tryd.ntmps9
  go_wp2_with (first
    | (go_at_call 21; (with_reducible refine HC.out.mono ?_); rintro e w1 ⟨rfl, hp1, hm1⟩; have hp01 := (Past.of (d := [B]) hb0).trans hp1)
    | (go_at_call 20; (with_reducible refine (num_err a N HN.out _ (HE.out _ hp01)).mono ?_); rintro e w2 ⟨rfl, hb2⟩))
  go_ret
  exact ⟨rfl, hp01.trans (Past.of hb2), hm1.below hb2⟩
set_option maxRecDepth 100000 in
theorem do_3 (B : Nat) (m : Mt) (n : Int) (w : World) (h : MAt B 0 m w) : Calls Tryd.prog 9 #[.pointer (some ⟨B, 0, none⟩), .agg #[.int .i64 3, .int .i64 n]] w fun e w' => e = .returned (.int .i64 0) ∧ Past [B] w w' ∧ MAt B 0 m.reset w' := by
  have hB := h.lt
  have hb0 := box_below w (.cells #[.pointer (some ⟨B, 0, none⟩)] 24) (.cells #[.int .i64 3, .int .i64 n] 35)
  have hX := Box.new w B 3 n
  have HR := Lib.hid (reset_any B 0 m _ (h.below hb0))
  clear h
  obtain ⟨x0, x1, x2⟩ := hX
  go_enter Tryd.func9, Tryd.ntmps9
  go_wp2_with (go_at_call 23; (with_reducible refine HR.out.mono ?_); rintro e w1 ⟨rfl, s1⟩)
  go_ret
  exact ⟨rfl, (Past.of hb0).trans s1.past, s1.at'⟩
set_option maxRecDepth 100000 in
theorem do_4 (B : Nat) (m : Mt) (n : Int) (w : World) (h : MAt B 0 m w) : Calls Tryd.prog 9 #[.pointer (some ⟨B, 0, none⟩), .agg #[.int .i64 4, .int .i64 n]] w fun e w' => e = .returned (.int .i64 0) ∧ Past [B] w w' ∧ MAt B 0 (m.limit n) w' := by
  have hB := h.lt
  have hb0 := box_below w (.cells #[.pointer (some ⟨B, 0, none⟩)] 24) (.cells #[.int .i64 4, .int .i64 n] 35)
  have hX := Box.new w B 4 n
  have HR := Lib.hid (limit_any B 0 m n _ (h.below hb0))
  clear h
  obtain ⟨x0, x1, x2⟩ := hX
  go_enter Tryd.func9, Tryd.ntmps9
  go_wp2_with (go_at_call 16; (with_reducible refine HR.out.mono ?_); rintro e w1 ⟨rfl, s1⟩)
  go_ret
  exact ⟨rfl, (Past.of hb0).trans s1.past, s1.at'⟩
set_option maxRecDepth 100000 in
theorem do_none (B : Nat) (m : Mt) (k n : Int) (hk : k < 0 ∨ 4 < k) (w : World) (h : MAt B 0 m w) : Calls Tryd.prog 9 #[.pointer (some ⟨B, 0, none⟩), .agg #[.int .i64 k, .int .i64 n]] w fun e w' => e = .returned (.int .i64 0) ∧ Past [B] w w' ∧ MAt B 0 m w' := by
  have hb0 := box_below w (.cells #[.pointer (some ⟨B, 0, none⟩)] 24) (.cells #[.int .i64 k, .int .i64 n] 35)
  have hX := Box.new w B k n
  have k0 : (k == 0) = false := by simp; omega
  have k1 : (k == 1) = false := by simp; omega
  have k2 : (k == 2) = false := by simp; omega
  have k3 : (k == 3) = false := by simp; omega
  have k4 : (k == 4) = false := by simp; omega
  have HM := Lib.hid (h.below hb0)
  clear h hk
  obtain ⟨x0, x1, x2⟩ := hX
  go_enter Tryd.func9, Tryd.ntmps9
  go_wp2
  go_ret
  exact ⟨rfl, Past.of hb0, HM.out⟩
theorem do_any (a : String → Addr) (B : Nat) (m : Mt) (hm : m.Ok) (k n : Int) (w : World) (h : MAt B 0 m w) (hE : ∀ wx, Past [B] w wx → ErrsOk names a wx) : Calls Tryd.prog 9 #[.pointer (some ⟨B, 0, none⟩), .agg #[.int .i64 k, .int .i64 n]] w fun e w' => e = .returned (.int .i64 (doE m k n : Nat)) ∧ Past [B] w w' ∧ MAt B 0 (doM m k n) w' := by
  unfold doE doM
  by_cases k0 : k = 0
  · subst k0
    rw [if_neg (by decide), if_pos rfl]
    rcases visN_at n with ⟨h1, h2⟩ | ⟨h0, h1, h2⟩ | ⟨h1, h2⟩
    · rw [h2]; exact do_0_lo B m hm n h1 w h
    · rw [h2]; obtain ⟨c, rfl⟩ := Int.eq_ofNat_of_zero_le h0; exact do_0_mid B m hm c (by omega) w h
    · rw [h2]; exact do_0_hi B m hm n h1 w h
  by_cases k1 : k = 1
  · subst k1
    rw [if_neg (by decide), if_neg (by decide), if_pos rfl]
    rcases visN_at n with ⟨h1, h2⟩ | ⟨h0, h1, h2⟩ | ⟨h1, h2⟩
    · rw [h2]; exact do_1_lo B m hm n h1 w h
    · rw [h2]; obtain ⟨c, rfl⟩ := Int.eq_ofNat_of_zero_le h0; exact do_1_mid B m hm c (by omega) w h
    · rw [h2]; exact do_1_hi B m hm n h1 w h
  by_cases k2 : k = 2
  · subst k2
    rw [if_pos rfl, if_neg (by decide), if_neg (by decide), if_pos rfl]
    exact do_2 a B m hm n w h hE
  by_cases k3 : k = 3
  · subst k3
    rw [if_neg (by decide), if_neg (by decide), if_neg (by decide), if_neg (by decide), if_pos rfl]
    exact do_3 B m n w h
  by_cases k4 : k = 4
  · subst k4
    rw [if_neg (by decide), if_neg (by decide), if_neg (by decide), if_neg (by decide), if_neg (by decide), if_pos rfl]
    exact do_4 B m n w h
  rw [if_neg k2, if_neg k0, if_neg k1, if_neg k2, if_neg k3, if_neg k4]
  exact do_none B m k n (by omega) w h
theorem doM_ok {m : Mt} (hm : m.Ok) (k n : Int) (h0 : -9223372036854775808 ≤ n) (h1 : n ≤ 9223372036854775807) : (doM m k n).Ok := by
  unfold doM
  split
  · exact hm.probes _
  split
  · exact hm.visits _
  split
  · exact hm.unit _
  split
  · exact hm.reset
  split
  · exact hm.limit n h0 h1
  · exact hm
end Go.Proofs.YtfabhnbiijnohaaDoor.meter
